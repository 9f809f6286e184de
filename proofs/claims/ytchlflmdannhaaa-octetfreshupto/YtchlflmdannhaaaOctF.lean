/- Layer 16: Unhex. -/
import Derived.Test.YtchlflmdannhaaaOctE
namespace Go.Proofs.Ytchlflmdannhaaa
open Go.ChangeShapes Go.WideShapes Go.ChangeAt Go.RowKit
open Ep Oc
set_option linter.unusedVariables false
namespace Oc
/-- is it told as an error? -/
def ubad (l : List UInt8) : Bool := decide (fb l < l.length) || decide (l.length % 2 = 1)
theorem ubad_at {l : List UInt8} (h : fb l < l.length) : ubad l = true := by unfold ubad; rw [decide_eq_true h]; rfl
theorem ubad_odd {l : List UInt8} (h : l.length % 2 = 1) : ubad l = true := by unfold ubad; rw [decide_eq_true h]; simp
theorem ubad_no {l : List UInt8} (h : fb l = l.length) (k : l.length % 2 = 0) : ubad l = false := by unfold ubad; rw [decide_eq_false (by omega), decide_eq_false (by omega)]; rfl
theorem shl_nib : ∀ x : Fin 16, IntKind.u8.wrap (((x.val : Nat) : Int) * 16) = ((16 * x.val : Nat) : Int) := by decide
theorem or_nib8 : ∀ (x y : Fin 16), bits BinOp.or IntKind.u8 ((16 * x.val : Nat) : Int) ((y.val : Nat) : Int) = ((16 * x.val + y.val : Nat) : Int) := by decide +kernel
theorem str_at (s : ByteArray) {k : Nat} (h : k < s.size) : s.data.toList.getD k 0 = s[k] := by
  rw [List.getD_eq_getElem?_getD, Array.getElem?_toList, Array.getElem?_eq_getElem h]
  rfl
end Oc
set_option maxHeartbeats 3200000 in
set_option maxRecDepth 100000 in
theorem unhex16_any (s : ByteArray) (w : World) (hs : s.size ≤ 100000000) :
    Calls Try.prog 12 #[.string s] w fun e w' => ((ubad s.data.toList = true ∧ ∃ g, e = .returned (.tuple #[.slice none 0 0, .iface 44 (.pointer (some ⟨g, 0, none⟩))]) ∧ FaultAt w' g (fb s.data.toList : Int) 161) ∨
      (ubad s.data.toList = false ∧ ∃ v, e = .returned (.tuple #[v, .nilIface]) ∧ Ob w' w.heap.size v (unhexL s.data.toList))) ∧ Below w.heap.size w w' := by
  obtain ⟨l, hl⟩ : ∃ l, l = s.data.toList := ⟨_, rfl⟩
  have HL : Hid (l.length = s.size) := by show _ = _; rw [hl, Array.length_toList]; rfl
  have HA : Hid (∀ k (h : k < s.size), l.getD k 0 = s[k]) := fun k h => by rw [hl]; exact str_at s h
  rw [← hl]
  clear hl
  have hfl : fb l ≤ s.size := by rw [← HL.out]; exact fb_le l
  obtain ⟨m, hm⟩ : ∃ m, m = (s.size + 1) / 2 := ⟨_, rfl⟩
  have em : ((s.size : Int) + 1) / 2 = (m : Int) := by omega
  have HM : Hid (m = (s.size + 1) / 2) := hm
  have hm9 : m ≤ 100000000 := by omega
  clear hm
  go_enter Try.func12, Try.ntmps12
  go_wp2_with (at_make; refine wpList_make8 rfl _ _ rfl (n := m) (k := m) rfl rfl em em (by omega) (by omega) ?_)
  intro w1 hO1 hb1
  obtain ⟨G, hG⟩ : ∃ G, G = w.heap.size := ⟨_, rfl⟩
  have HG : Hid (G = w.heap.size) := hG
  rw [← hG] at hO1 hb1 ⊢
  rw [show List.replicate m (0 : UInt8) = ust l m 0 from (ust_zero l m).symm] at hO1
  clear hG
  have hbg : G ≤ G := Nat.le_refl _
  go_wp2
  go_loopw [15] (fun i wr => ∃ k : Nat, k ≤ fb l ∧ i = .int .i64 (k : Int) ∧ Ob wr G (.slice (some ⟨G, 0, none⟩) m m) (ust l m k) ∧ Below G w wr) (fun i _ => s.size - (intOf i).toNat)
  case atStart => exact ⟨0, Nat.zero_le _, rfl, hO1, hb1⟩
  case round =>
    obtain ⟨k, hk, rfl, hO3, hb3⟩ := hrel
    clear hO1 hb1
    have h2m : l.length ≤ 2 * m := by rw [HL.out, HM.out]; omega
    have hul : (ust l m k).length = m := ust_len (by rw [HL.out]; omega) h2m
    by_cases hlt : k < s.size
    · have hat := HA.out k hlt
      cases hv : valD (l.getD k 0) with
      | none =>
        have HF : Hid (k = fb l) := fb_this hk hv
        have HB : Hid (ubad l = true) := ubad_at (by rw [← HF.out, HL.out]; exact hlt)
        rw [hat] at hv
        have hV := fun w => value16_no hv w
        clear hat h2m hul
        go_wp2_with (first | (go_at_call 15; refine (hV _).mono ?_; rintro e w' ⟨rfl, rfl⟩) | (go_at_call 16; refine (wrapF_any _ _ _).mono ?_; rintro e w5 ⟨g5, rfl, hF5, hb5⟩))
        go_ret2
        rw [HG.out] at hb3
        refine ⟨Or.inl ⟨HB.out, g5, rfl, ?_⟩, hb3.trans (hb5.mono hb3.size)⟩
        rw [← HF.out]
        exact hF5
      | some d =>
        have hd16 := valD_lt hv
        have HN : Hid (k + 1 ≤ fb l) := fb_next hk (by rw [HL.out]; exact hlt) (by rw [hv]; rfl)
        have HV : Hid (vv (l.getD k 0) = d) := by show _ = _; unfold vv; rw [hv]; rfl
        rw [hat] at hv
        have hV := fun w => value16_yes hv w
        obtain ⟨j, hj⟩ : ∃ j, j = k / 2 := ⟨_, rfl⟩
        have ej : (k : Int) / 2 = (j : Int) := by omega
        have hjm : j < m := by have := HM.out; omega
        obtain ⟨x, hx, HS⟩ : ∃ x : Nat, (x < 16 ∧ Hid ((ust l m k).getD j 0 = UInt8.ofNat x)) ∧ Hid ((ust l m k).set j (UInt8.ofNat (16 * x + d)) = ust l m (k + 1)) := by
          rcases Nat.mod_two_eq_zero_or_one k with p | p
          · have ek : k = 2 * j := by omega
            refine ⟨0, ⟨by decide, ?_⟩, ?_⟩
            · show _ = _
              rw [ek, ust_even_at (by rw [HL.out]; omega)]
              rfl
            · show _ = _
              rw [← HV.out, ek, Nat.mul_zero, Nat.zero_add, ust_even (by rw [HL.out]; omega) h2m]
          · have ek : k = 2 * j + 1 := by omega
            refine ⟨vv (l.getD (2 * j) 0), ⟨vv_lt _, ?_⟩, ?_⟩
            · show _ = _
              rw [ek, ust_odd_at (by rw [HL.out]; omega)]
            · show _ = _
              rw [← HV.out, ek, ust_odd (by rw [HL.out]; omega) h2m]
        have c1 := hO3.at hul.symm (j := j) hjm
        have f1 := hO3.free hul.symm j
        rw [hx.2.out] at c1
        have hx16 := hx.1
        have ex : (((UInt8.ofNat x).toNat : Nat) : Int) = (x : Int) := by rw [UInt8.toNat_ofNat']; omega
        rw [ex] at c1
        have hO4 := hO3.set hul.symm j (UInt8.ofNat (16 * x + d)) (X := ((16 * x + d : Nat) : Int)) (by rw [UInt8.toNat_ofNat']; omega)
        rw [HS.out] at hO4
        have s1 : IntKind.u8.wrap ((x : Int) * 16) = ((16 * x : Nat) : Int) := shl_nib ⟨x, hx16⟩
        have s2 : bits BinOp.or IntKind.u8 ((16 * x : Nat) : Int) (d : Int) = ((16 * x + d : Nat) : Int) := or_nib8 ⟨x, hx16⟩ ⟨d, hd16⟩
        have hb4 : Below G w (wr.setCell ⟨G, j, none⟩ (.int .u8 ((16 * x + d : Nat) : Int))) := hb3.setCell hbg _
        generalize 16 * x = x16 at *
        generalize x16 + d = r at *
        have hji : ((j : Int)).toNat = j := by omega
        have hjb : (j : Int) < (m : Int) := by omega
        clear hat h2m hul hx HS HV hj ex hO3 hb3
        go_wp2_with (go_at_call 15; refine (hV _).mono ?_; rintro e w' ⟨rfl, rfl⟩)
        go_roundw
        case rel => exact ⟨k + 1, HN.out, by go_num, hO4, hb4⟩
        case measure => simp [intOf]; omega
    · have HF : Hid (fb l = s.size) := by show _ = _; omega
      rw [HG.out] at hb3
      rcases Nat.mod_two_eq_zero_or_one s.size with p | p
      · have t : ((s.size : Int) % 2 != 0) = false := by simp; omega
        have HB : Hid (ubad l = false) := ubad_no (by rw [HF.out, HL.out]) (by rw [HL.out]; exact p)
        have HE : Hid (ust l m k = unhexL l) := by
          show _ = _
          have h1 := HM.out
          have h2 := HL.out
          rw [show k = 2 * m by omega, ust_all (by omega)]
        rw [HE.out, HG.out] at hO3
        rw [HG.out]
        clear hul h2m p
        go_wp2
        go_ret2
        exact ⟨Or.inr ⟨HB.out, _, rfl, hO3⟩, hb3⟩
      · have t : ((s.size : Int) % 2 != 0) = true := by simp; omega
        have HB : Hid (ubad l = true) := ubad_odd (by rw [HL.out]; exact p)
        clear hul h2m p
        go_wp2_with (go_at_call 16; refine (wrapF_any _ _ _).mono ?_; rintro e w5 ⟨g5, rfl, hF5, hb5⟩)
        go_ret2
        refine ⟨Or.inl ⟨HB.out, g5, rfl, ?_⟩, hb3.trans (hb5.mono hb3.size)⟩
        rw [HF.out]
        exact hF5
end Go.Proofs.Ytchlflmdannhaaa

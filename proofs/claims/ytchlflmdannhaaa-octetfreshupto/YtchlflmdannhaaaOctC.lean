/- Layer 16: the document's Put; bytes among the inputs. -/
import Derived.Test.YtchlflmdannhaaaOctB
namespace Go.Proofs.Ytchlflmdannhaaa
open Go.ChangeShapes Go.WideShapes Go.ChangeAt Go.RowKit
open Ep Oc
set_option linter.unusedVariables false
namespace Ep
def by8 (l : List Int) : List UInt8 := l.map fun z => UInt8.ofNat z.toNat
theorem nz_by8 {l : List Int} (h : ∀ n ∈ l, (Lit.int .u8 n).wf = true) : nz (by8 l) = l := by
  unfold nz by8
  rw [List.map_map]
  conv => rhs; rw [← List.map_id l]
  refine List.map_congr_left fun x hx => ?_
  have hw := h x hx
  simp only [Lit.wf, Bool.and_eq_true, decide_eq_true_eq] at hw
  have h1 : IntKind.u8.min = 0 := rfl
  have h2 : IntKind.u8.max = 255 := rfl
  simp
  omega
end Ep
theorem rb_of {w : World} {a : Option Addr} {len cap : Nat} {zs : List Int} (h : (a = none ∧ len = 0 ∧ cap = 0 ∧ zs = []) ∨
    ∃ x, a = some x ∧ len ≤ cap ∧ cap ≤ maxLen ∧ zs.length = cap ∧ (∀ i, i < zs.length → w.cell? (x.add i) = some (.int .u8 (zs.getD i 0))) ∧ ∀ n ∈ zs, (Lit.int .u8 n).wf = true) :
    Rb w a len cap (by8 (zs.take len)) := by
  rcases h with ⟨rfl, rfl, rfl, rfl⟩ | ⟨x, rfl, hl, hm, hz, hc, hw⟩
  · exact Rb.nil _ _ _ (by omega)
  · unfold maxLen at hm
    refine ⟨?_, hl, by omega⟩
    rw [nz_by8 (fun n hn => hw n (List.mem_of_mem_take hn))]
    refine ⟨by rw [List.length_take]; omega, ?_⟩
    by_cases h0 : len = 0
    · exact Or.inl h0
    · have hc0 := hc 0 (by omega)
      obtain ⟨bb, off, pt⟩ := x
      have hp : pt = none := by
        simpa [Addr.add] using World.cell?_spot hc0
      subst hp
      have e : ∀ i, (⟨bb, off, none⟩ : Addr).add i = ⟨bb, off + i, none⟩ := fun i => by
        unfold Addr.add
        by_cases h0 : i = 0
        · subst h0; simp
        · simp [h0]
      rw [e] at hc0
      have hlt : bb < w.heap.size := by
        by_cases hlt : bb < w.heap.size
        · exact hlt
        · have := Array.getElem?_eq_none (xs := w.heap) (i := bb) (Nat.le_of_not_lt hlt)
          simp [World.cell?, this] at hc0
      refine Or.inr ⟨bb, off, rfl, hlt, fun i hi => ?_⟩
      have := hc i (by omega)
      rw [e] at this
      rw [this, List.getD_eq_getElem?_getD, List.getD_eq_getElem?_getD, List.getElem?_take_of_lt hi]
set_option maxHeartbeats 3200000 in
set_option maxRecDepth 100000 in
theorem rput16_any {w : World} {a : Option Addr} {n c V K : Nat} {l : List UInt8} {little : Bool} (h : Rb w a n c l) (hn : n ≤ 100000000) (hV : V < 18446744073709551616) (hK : K ≤ 8) :
    Calls Try.prog 9 #[.slice a n c, .int .u64 (V : Int), .int .i64 (K : Int), .bool little] w fun e w' => ∃ v, e = .returned v ∧ Ob w' w.heap.size v (l ++ ord K V little) ∧ Below w.heap.size w w' := by
  have HL : Hid (l.length = n) := h.len
  have hc9 := h.2
  go_enter Try.func9, Try.ntmps9
  go_wp2_with (at_builtin; refine wpList_app8 rfl _ _ rfl rfl (Ob.nil w w.heap.size) rfl h (by simp; omega) (Nat.le_refl _) ?_)
  intro v1 w1 hO1 hg1 hkp
  have hb1 : Below w.heap.size w w1 := (Ob.nil w w.heap.size).below (Below.refl _ _) (Nat.le_refl _) hg1
  clear hkp hg1 h
  go_wp2
  go_loopw [1, 10, 11] (fun x o i wr => ∃ k : Nat, k ≤ K ∧ x = .int .u64 ((V / 256 ^ k : Nat) : Int) ∧ i = .int .i64 (k : Int) ∧ Ob wr w1.heap.size o (le k V) ∧ Below w1.heap.size w1 wr) (fun _ _ i _ => K - (intOf i).toNat)
  case atStart => exact ⟨0, Nat.zero_le _, by simp, rfl, Ob.nil _ _, Below.refl _ _⟩
  case round =>
    obtain ⟨k, hk, rfl, rfl, hO3, hb3⟩ := hrel
    by_cases hlt : k < K
    · have HX : Hid (((V / 256 ^ k : Nat) : Int) / 256 = ((V / 256 ^ (k + 1) : Nat) : Int)) := by show _ = _; rw [← div_next]; omega
      have HA : Hid (le (k + 1) V = le k V ++ [UInt8.ofNat (V / 256 ^ k % 256)]) := by show _ = _; rw [le_next]
      have hx9 : V / 256 ^ k < 18446744073709551616 := Nat.lt_of_le_of_lt (Nat.div_le_self _ _) hV
      have HN : Hid ((le k V).length = k) := le_len _ _
      generalize V / 256 ^ k = X at *
      have hX8 : Hid (((X : Int) % 256) = (((UInt8.ofNat (X % 256)).toNat : Nat) : Int)) := by show _ = _; rw [UInt8.toNat_ofNat', show (2 : Nat) ^ 8 = 256 from rfl]; omega
      go_wp2_with (at_builtin; refine wpList_app8 rfl _ _ rfl rfl (hO3.alloc _) rfl (rb_one wr (x := UInt8.ofNat (X % 256)) (by have := hX8.out; omega)) (by rw [HN.out]; omega) (by simp; have := hb3.size; omega) ?_)
      intro v4 w4 hO4 hg4 hkp
      have hb4 := (hO3.alloc _).below (hb3.alloc hb3.size _) (Nat.le_refl _) hg4
      rw [← HA.out] at hO4
      clear hg4 hO3 hb3 hkp
      go_wp2
      go_roundw
      case rel => exact ⟨k + 1, by omega, by rw [← HX.out], by go_num, hO4, hb4⟩
      case measure => simp [intOf]; omega
    · have hkn : k = K := by omega
      subst hkn
      have hO1b := hO1.later hb3
      have hB3 := hb1.trans (hb3.mono hb1.size)
      have HN : Hid ((le k V).length = k) := le_len _ _
      obtain ⟨D, hD⟩ : ∃ D, D = le k V := ⟨_, rfl⟩
      have HD : Hid (D = le k V) := hD
      rw [← hD] at hO3 HN
      obtain ⟨da, dc, rfl, hdr⟩ := hO3.row
      rw [HN.out] at hdr
      have HF : Hid (∀ g, Value.ownBlock v1 = some g → g < w1.heap.size) := fun g hg => (hO1.blk hg).2
      have HF2 : Hid (∀ g, Value.ownBlock (.slice da D.length dc) = some g → w1.heap.size ≤ g) := fun g hg => (hO3.blk hg).1
      rw [HN.out] at HF2 hO3
      rw [HN.out]
      have HF3 : Hid (∀ g, Value.ownBlock (.slice da k dc) = some g → w1.heap.size ≤ g ∧ g < wr.heap.size) := fun g hg => hO3.blk hg
      clear hO1 hb1 hD hdr HF2
      have h1s := hb3.size
      generalize V / 256 ^ k = X at *
      generalize wr = wA at *
      have HF2 := HF3
      clear HF3
      go_wp2
      cases little
      · go_loopw [9, 12] (fun o i wr => ∃ q : Nat, q ≤ k ∧ i = .int .i64 (q : Int) ∧ Ob wr w.heap.size o (l ++ D.reverse.take q) ∧ Ob wr w1.heap.size (.slice da k dc) D ∧ Hid (∀ g, o.ownBlock = some g → g < w1.heap.size ∨ wA.heap.size ≤ g) ∧ Hid (wA.heap.size ≤ wr.heap.size) ∧ Below w.heap.size w wr) (fun _ i _ => k - (intOf i).toNat)
        case atStart => exact ⟨0, Nat.zero_le _, rfl, by simpa using hO1b, hO3, fun g hg => Or.inl (HF.out g hg), Nat.le_refl _, hB3⟩
        case round =>
          obtain ⟨q, hq, rfl, hO5, hD5, hf5, hs5, hb5⟩ := hrel
          clear hO1b hO3 hB3 hb3 HF
          by_cases hlt2 : q < k
          · obtain ⟨dg, do_, rfl, hdg, hdc⟩ := hD5.rb.cells (by omega)
            obtain ⟨r, hr⟩ : ∃ r, r = k - 1 - q := ⟨_, rfl⟩
            have c1 := hdc r (by omega)
            have e1 : (k : Int) - 1 - q = (r : Int) := by omega
            have HA : Hid (l ++ (D.reverse.take q ++ [D.getD r 0]) = l ++ D.reverse.take (q + 1)) := by
              show _ = _
              rw [takeD (xs := D.reverse) (by rw [List.length_reverse, HN.out]; exact hlt2), List.getD_eq_getElem?_getD, List.getD_eq_getElem?_getD, List.getElem?_reverse (by rw [HN.out]; exact hlt2), HN.out, hr]
            have hr1 : (r : Int) < k := by omega
            have hr0 : (0 : Int) ≤ r := by omega
            have hr9 : r ≤ 8 := by omega
            clear hr
            have HM : Hid ((l ++ D.reverse.take q).length ≤ n + 8) := by show _ ≤ _; rw [List.length_append, HL.out, List.length_take]; omega
            clear hdc
            generalize D.getD r 0 = x at *
            go_wp2_with (at_builtin; refine wpList_app8 rfl _ _ rfl rfl (hO5.alloc _) rfl (rb_one wr (x := x) rfl) (by have := HM.out; omega) (by simp; have := hb5.size; omega) ?_)
            intro v6 w6 hO6 hg6 hkp
            have hb6 := (hO5.alloc _).below (hb5.alloc hb5.size _) (Nat.le_refl _) hg6
            have hs6 : Hid (wA.heap.size ≤ w6.heap.size) := by show _ ≤ _; have h1 := hg6.size; have h2 := hs5.out; simp at h1; omega
            have hD6 := (hD5.alloc (.cells #[.int .u8 (x.toNat : Int)] 5)).keep hg6 (fun g hg hu => by
              have p1 := hf5.out g hu
              have p2 := HF2.out g hg
              omega)
            have hf6 : Hid (∀ g, v6.ownBlock = some g → g < w1.heap.size ∨ wA.heap.size ≤ g) := fun g hg => by
              rcases hkp.2 with e | ⟨g', e, hge⟩
              · exact hf5.out g (by rw [← e]; exact hg)
              · rw [e] at hg
                simp at hg hge
                have := hs5.out
                omega
            rw [HA.out] at hO6
            clear hg6 hkp hO5 hD5 hf5 hs5 hb5
            go_wp2
            go_roundw
            case rel => exact ⟨q + 1, by omega, by go_num, hO6, hD6, hf6, hs6, hb6⟩
            case measure => simp [intOf]; omega
          · have hqk : q = k := by omega
            have HE : Hid (l ++ D.reverse.take q = l ++ ord k V false) := by
              show _ = _
              rw [List.take_of_length_le (by simp [HN.out]; omega), HD.out]
              rfl
            rw [HE.out] at hO5
            clear hqk
            go_wp2
            go_ret
            exact ⟨_, rfl, hO5, hb5⟩
      · go_loopw [9, 12] (fun o i wr => ∃ q : Nat, q ≤ k ∧ i = .int .i64 (q : Int) ∧ Ob wr w.heap.size o (l ++ D.take q) ∧ Ob wr w1.heap.size (.slice da k dc) D ∧ Hid (∀ g, o.ownBlock = some g → g < w1.heap.size ∨ wA.heap.size ≤ g) ∧ Hid (wA.heap.size ≤ wr.heap.size) ∧ Below w.heap.size w wr) (fun _ i _ => k - (intOf i).toNat)
        case atStart => exact ⟨0, Nat.zero_le _, rfl, by simpa using hO1b, hO3, fun g hg => Or.inl (HF.out g hg), Nat.le_refl _, hB3⟩
        case round =>
          obtain ⟨q, hq, rfl, hO5, hD5, hf5, hs5, hb5⟩ := hrel
          clear hO1b hO3 hB3 hb3 HF
          by_cases hlt2 : q < k
          · obtain ⟨dg, do_, rfl, hdg, hdc⟩ := hD5.rb.cells (by omega)
            obtain ⟨r, hr⟩ : ∃ r, r = q := ⟨_, rfl⟩
            subst hr
            have c1 := hdc r (by omega)
            have HA : Hid (l ++ (D.take r ++ [D.getD r 0]) = l ++ D.take (r + 1)) := by
              show _ = _
              rw [takeD (by rw [HN.out]; exact hlt2)]
            have HM : Hid ((l ++ D.take r).length ≤ n + 8) := by show _ ≤ _; rw [List.length_append, HL.out, List.length_take]; omega
            clear hdc
            generalize D.getD r 0 = x at *
            go_wp2_with (at_builtin; refine wpList_app8 rfl _ _ rfl rfl (hO5.alloc _) rfl (rb_one wr (x := x) rfl) (by have := HM.out; omega) (by simp; have := hb5.size; omega) ?_)
            intro v6 w6 hO6 hg6 hkp
            have hb6 := (hO5.alloc _).below (hb5.alloc hb5.size _) (Nat.le_refl _) hg6
            have hs6 : Hid (wA.heap.size ≤ w6.heap.size) := by show _ ≤ _; have h1 := hg6.size; have h2 := hs5.out; simp at h1; omega
            have hD6 := (hD5.alloc (.cells #[.int .u8 (x.toNat : Int)] 5)).keep hg6 (fun g hg hu => by
              have p1 := hf5.out g hu
              have p2 := HF2.out g hg
              omega)
            have hf6 : Hid (∀ g, v6.ownBlock = some g → g < w1.heap.size ∨ wA.heap.size ≤ g) := fun g hg => by
              rcases hkp.2 with e | ⟨g', e, hge⟩
              · exact hf5.out g (by rw [← e]; exact hg)
              · rw [e] at hg
                simp at hg hge
                have := hs5.out
                omega
            rw [HA.out] at hO6
            clear hg6 hkp hO5 hD5 hf5 hs5 hb5
            go_wp2
            go_roundw
            case rel => exact ⟨r + 1, by omega, by go_num, hO6, hD6, hf6, hs6, hb6⟩
            case measure => simp [intOf]; omega
          · have hqk : q = k := by omega
            have HE : Hid (l ++ D.take q = l ++ ord k V true) := by
              show _ = _
              rw [List.take_of_length_le (by simp [HN.out]; omega), HD.out]
              rfl
            rw [HE.out] at hO5
            clear hqk
            go_wp2
            go_ret
            exact ⟨_, rfl, hO5, hb5⟩
end Go.Proofs.Ytchlflmdannhaaa

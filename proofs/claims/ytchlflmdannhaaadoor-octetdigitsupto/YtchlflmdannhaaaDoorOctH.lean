/- Layer 16: digits there and back; lower; OctetDigits. -/
import Derived.Test.YtchlflmdannhaaaDoorOctG
namespace Go.Proofs.YtchlflmdannhaaaDoor
open Go.ChangeShapes Go.WideShapes Go.ChangeAt Go.RowKit
open Ep Oc
set_option linter.unusedVariables false
namespace Oc
def isD (c : UInt8) : Prop := (valD c).isSome = true
theorem fb_app : ∀ {p q : List UInt8}, (∀ c ∈ p, isD c) → fb (p ++ q) = p.length + fb q
  | [], q, _ => by simp
  | c :: r, q, h => by
    have h1 : (valD c).isSome = true := h c (by simp)
    have h2 := fb_app (p := r) (q := q) (fun x hx => h x (by simp [hx]))
    unfold fb at h2 ⊢
    rw [List.cons_append, List.takeWhile_cons, if_pos h1, List.length_cons, h2, List.length_cons]
    omega
theorem fb_all {p : List UInt8} (h : ∀ c ∈ p, isD c) : fb p = p.length := by
  have := fb_app (q := []) h
  rw [List.append_nil] at this
  rw [this]
  rfl
theorem hexD_is {k : Nat} (h : k < 16) : isD (hexD k) := by unfold isD; rw [valD_hex h]; rfl
theorem hexL_is : ∀ (l : List UInt8), ∀ c ∈ hexL l, isD c
  | [], c, h => by cases h
  | b :: r, c, h => by
    have hb := b.toNat_lt
    rcases List.mem_append.1 (show c ∈ hexB b ++ hexL r from h) with h | h
    · rcases List.mem_cons.1 h with rfl | h
      · exact hexD_is (by omega)
      · rw [List.mem_singleton.1 h]
        exact hexD_is (by omega)
    · exact hexL_is r c h
theorem vv_hex {k : Nat} (h : k < 16) : vv (hexD k) = k := by unfold vv; rw [valD_hex h]; rfl
theorem unhex_hex : ∀ (l : List UInt8), unhexL (hexL l) = l
  | [] => rfl
  | b :: r => by
    have hb := b.toNat_lt
    show UInt8.ofNat (16 * vv (hexD (b.toNat / 16)) + vv (hexD (b.toNat % 16))) :: unhexL (hexL r) = _
    rw [vv_hex (by omega), vv_hex (by omega), unhex_hex r, show 16 * (b.toNat / 16) + b.toNat % 16 = b.toNat by omega]
    simp
theorem fb_is {l : List UInt8} (h : fb l = l.length) : ∀ c ∈ l, isD c := by
  intro c hc
  obtain ⟨k, hk, rfl⟩ := List.mem_iff_getElem.1 hc
  have := fb_at (l := l) (k := k) (by omega)
  rwa [List.getD_eq_getElem?_getD, List.getElem?_eq_getElem hk] at this
theorem hexD_low {c : UInt8} (h : isD c) : hexD (vv c) = lowD c := by
  unfold isD at h
  obtain ⟨k, hk⟩ := Option.isSome_iff_exists.1 h
  have e : vv c = k := by unfold vv; rw [hk]; rfl
  rw [e]
  exact hexD_val (by rw [low_val]; exact hk)
theorem hex_unhex : ∀ (s : List UInt8), (∀ c ∈ s, isD c) → s.length % 2 = 0 → hexL (unhexL s) = s.map lowD
  | [], _, _ => rfl
  | [_], _, h => by simp at h
  | a :: b :: r, h, hl => by
    have ha := hexD_low (h a (by simp))
    have hb := hexD_low (h b (by simp))
    have va := vv_lt a
    have vb := vv_lt b
    have hr := hex_unhex r (fun c hc => h c (by simp [hc])) (by simp at hl; omega)
    show hexB (UInt8.ofNat (16 * vv a + vv b)) ++ hexL (unhexL r) = lowD a :: lowD b :: r.map lowD
    rw [hr]
    unfold hexB
    rw [UInt8.toNat_ofNat', show (16 * vv a + vv b) % 2 ^ 8 / 16 = vv a by omega, show (16 * vv a + vv b) % 2 ^ 8 % 16 = vv b by omega, ha, hb]
    rfl
theorem ubad_hex (l : List UInt8) : ubad (hexL l) = false := ubad_no (fb_all (hexL_is l)) (by rw [hexL_len]; omega)
theorem ubad_false {l : List UInt8} (h : ubad l = false) : fb l = l.length ∧ l.length % 2 = 0 := by
  unfold ubad at h
  simp at h
  have := fb_le l
  omega
theorem lowD_map_len (l : List UInt8) : (l.map lowD).length = l.length := by simp
end Oc
set_option maxHeartbeats 3200000 in
set_option maxRecDepth 100000 in
theorem lower16_any (s : ByteArray) (w : World) (hs : s.size ≤ 100000000) :
    Calls Tryd.prog 10 #[.string s] w fun e w' => e = .returned (.string ⟨(s.data.toList.map lowD).toArray⟩) ∧ Below w.heap.size w w' := by
  obtain ⟨l, hl⟩ : ∃ l, l = s.data.toList := ⟨_, rfl⟩
  have HL : Hid (l.length = s.size) := by show _ = _; rw [hl, Array.length_toList]; rfl
  have HA : Hid (∀ k (h : k < s.size), l.getD k 0 = s[k]) := fun k h => by rw [hl]; exact str_at s h
  rw [← hl]
  clear hl
  go_enter Tryd.func10, Tryd.ntmps10
  go_wp2
  go_loopw [3, 4] (fun o i wr => ∃ k : Nat, k ≤ s.size ∧ i = .int .i64 (k : Int) ∧ Ob wr w.heap.size o ((l.take k).map lowD) ∧ Below w.heap.size w wr) (fun _ i _ => s.size - (intOf i).toNat)
  case atStart => exact ⟨0, Nat.zero_le _, rfl, Ob.nil _ _, Below.refl _ _⟩
  case round =>
    obtain ⟨k, hk, rfl, hO3, hb3⟩ := hrel
    by_cases hlt : k < s.size
    · have hat := HA.out k hlt
      have HE : Hid ((l.take (k + 1)).map lowD = (l.take k).map lowD ++ [lowD (l.getD k 0)]) := by show _ = _; rw [takeU (by rw [HL.out]; exact hlt), List.map_append]; rfl
      have HN : Hid (((l.take k).map lowD).length ≤ s.size) := by show _ ≤ _; rw [List.length_map, List.length_take]; omega
      rw [hat] at HE
      have hln := low_nat s[k]
      have hc8 := s[k].toNat_lt
      generalize (l.take k).map lowD = P at *
      have hs3 := hb3.size
      obtain ⟨D, hD⟩ : ∃ D, D = lowD s[k] := ⟨_, rfl⟩
      rw [← hD] at HE hln
      clear hD hat
      rcases (by omega : (65 ≤ (s[k].toNat : Int) ∧ (s[k].toNat : Int) ≤ 70) ∨ (s[k].toNat : Int) < 65 ∨ 70 < (s[k].toNat : Int)) with ⟨q1, q2⟩ | q1 | q1
      · rw [if_pos ⟨q1, q2⟩] at hln
        have HX : Hid ((s[k].toNat : Int) + 32 = (D.toNat : Int)) := hln.symm
        clear hln
        go_wp2_with (at_builtin; refine wpList_app8 rfl _ _ rfl rfl (hO3.alloc _) rfl (rb_one wr (x := D) HX.out) (by have := HN.out; omega) (by simp; omega) ?_)
        intro v5 w5 hO5 hg5 hkp
        have hb5 := (hO3.alloc _).below (hb3.alloc hb3.size _) (Nat.le_refl _) hg5
        rw [← HE.out] at hO5
        clear hkp hg5 hO3 hb3
        go_wp2
        go_roundw
        case rel => exact ⟨k + 1, by omega, by go_num, hO5, hb5⟩
        case measure => simp [intOf]; omega
      all_goals
        rw [if_neg (by omega)] at hln
        have HX : Hid ((s[k].toNat : Int) = (D.toNat : Int)) := hln.symm
        clear hln
        go_wp2_with (at_builtin; refine wpList_app8 rfl _ _ rfl rfl (hO3.alloc _) rfl (rb_one wr (x := D) HX.out) (by have := HN.out; omega) (by simp; omega) ?_)
        intro v5 w5 hO5 hg5 hkp
        have hb5 := (hO3.alloc _).below (hb3.alloc hb3.size _) (Nat.le_refl _) hg5
        rw [← HE.out] at hO5
        clear hkp hg5 hO3 hb3
        go_wp2
        go_roundw
        case rel => exact ⟨k + 1, by omega, by go_num, hO5, hb5⟩
        case measure => simp [intOf]; omega
    · have HE : Hid (l.take k = l) := by show _ = _; rw [List.take_of_length_le (by rw [HL.out]; omega)]
      rw [HE.out] at hO3
      obtain ⟨oa, oc, rfl, hor⟩ := hO3.row
      have hcv := conv8 hor
      clear hO3 hor
      generalize (l.map lowD).length = m at *
      go_wp2
      go_ret
      exact ⟨rfl, hb3⟩
end Go.Proofs.YtchlflmdannhaaaDoor

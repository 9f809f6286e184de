/- Layer 16: digits there and back; lower; OctetDigits. -/
import Derived.Test.YtchlflmdannhaaaOctG
namespace Go.Proofs.Ytchlflmdannhaaa
open Go.ChangeShapes Go.WideShapes Go.ChangeAt Go.RowKit
open Ep Oc
set_option linter.unusedVariables false
namespace Oc
def isD (c : UInt8) : Prop := (valD c).isSome = true
theorem fb_app : ∀ {p q : List UInt8}, (∀ c ∈ p, isD c) → fb (p ++ q) = p.length + fb q
  | [], q, _ => by simp
  | c :: r, q, h => by
    have h1 : (valD c).isSome = true := h c (by simp)
    have h2 := fb_app (p := r) (q := q) (fun x hx => h x (by simp [hx]))
    unfold fb at h2 ⊢
    rw [List.cons_append, List.takeWhile_cons, if_pos h1, List.length_cons, h2, List.length_cons]
    omega
theorem fb_all {p : List UInt8} (h : ∀ c ∈ p, isD c) : fb p = p.length := by
  have := fb_app (q := []) h
  rw [List.append_nil] at this
  rw [this]
  rfl
theorem hexD_is {k : Nat} (h : k < 16) : isD (hexD k) := by unfold isD; rw [valD_hex h]; rfl
theorem hexL_is : ∀ (l : List UInt8), ∀ c ∈ hexL l, isD c
  | [], c, h => by cases h
  | b :: r, c, h => by
    have hb := b.toNat_lt
    rcases List.mem_append.1 (show c ∈ hexB b ++ hexL r from h) with h | h
    · rcases List.mem_cons.1 h with rfl | h
      · exact hexD_is (by omega)
      · rw [List.mem_singleton.1 h]
        exact hexD_is (by omega)
    · exact hexL_is r c h
theorem vv_hex {k : Nat} (h : k < 16) : vv (hexD k) = k := by unfold vv; rw [valD_hex h]; rfl
theorem unhex_hex : ∀ (l : List UInt8), unhexL (hexL l) = l
  | [] => rfl
  | b :: r => by
    have hb := b.toNat_lt
    show UInt8.ofNat (16 * vv (hexD (b.toNat / 16)) + vv (hexD (b.toNat % 16))) :: unhexL (hexL r) = _
    rw [vv_hex (by omega), vv_hex (by omega), unhex_hex r, show 16 * (b.toNat / 16) + b.toNat % 16 = b.toNat by omega]
    simp
theorem fb_is {l : List UInt8} (h : fb l = l.length) : ∀ c ∈ l, isD c := by
  intro c hc
  obtain ⟨k, hk, rfl⟩ := List.mem_iff_getElem.1 hc
  have := fb_at (l := l) (k := k) (by omega)
  rwa [List.getD_eq_getElem?_getD, List.getElem?_eq_getElem hk] at this
theorem hexD_low {c : UInt8} (h : isD c) : hexD (vv c) = lowD c := by
  unfold isD at h
  obtain ⟨k, hk⟩ := Option.isSome_iff_exists.1 h
  have e : vv c = k := by unfold vv; rw [hk]; rfl
  rw [e]
  exact hexD_val (by rw [low_val]; exact hk)
theorem hex_unhex : ∀ (s : List UInt8), (∀ c ∈ s, isD c) → s.length % 2 = 0 → hexL (unhexL s) = s.map lowD
  | [], _, _ => rfl
  | [_], _, h => by simp at h
  | a :: b :: r, h, hl => by
    have ha := hexD_low (h a (by simp))
    have hb := hexD_low (h b (by simp))
    have va := vv_lt a
    have vb := vv_lt b
    have hr := hex_unhex r (fun c hc => h c (by simp [hc])) (by simp at hl; omega)
    show hexB (UInt8.ofNat (16 * vv a + vv b)) ++ hexL (unhexL r) = lowD a :: lowD b :: r.map lowD
    rw [hr]
    unfold hexB
    rw [UInt8.toNat_ofNat', show (16 * vv a + vv b) % 2 ^ 8 / 16 = vv a by omega, show (16 * vv a + vv b) % 2 ^ 8 % 16 = vv b by omega, ha, hb]
    rfl
theorem ubad_hex (l : List UInt8) : ubad (hexL l) = false := ubad_no (fb_all (hexL_is l)) (by rw [hexL_len]; omega)
theorem ubad_false {l : List UInt8} (h : ubad l = false) : fb l = l.length ∧ l.length % 2 = 0 := by
  unfold ubad at h
  simp at h
  have := fb_le l
  omega
theorem lowD_map_len (l : List UInt8) : (l.map lowD).length = l.length := by simp
end Oc
end Go.Proofs.Ytchlflmdannhaaa

/- plumbref02: Sum. -/
import Derived.Test.YtbdljmboilapeabRefShr
namespace Go.Proofs.Ytbdljmboilapeab
open Go.ChangeShapes Go.WideShapes Go.ChangeAt Go.RowKit
open Na
set_option linter.unusedVariables false

/-- a slice of lists of words reads as these -/
def RowsAt (w : World) (a : Option Addr) (n : Nat) (xss : List (List Int)) : Prop :=
  xss.length = n ∧ (n = 0 ∨ ∃ b off, a = some ⟨b, off, none⟩ ∧ b < w.heap.size ∧ ∀ i, i < n → ∃ ai ci, w.cell? ⟨b, off + i, none⟩ = some (.slice ai (xss.getD i []).length ci) ∧ RowAt .u64 w ai (xss.getD i []).length (xss.getD i []))
namespace Na
/-- the sum of all -/
def sumN (xss : List (List Int)) : Int := (xss.map num).sum
theorem sum_next {xss : List (List Int)} {k : Nat} (h : k < xss.length) : sumN (xss.take (k + 1)) = sumN (xss.take k) + num (xss.getD k []) := by
  unfold sumN
  rw [List.take_succ_eq_append_getElem h, List.map_append, List.sum_append]
  simp [List.getD_eq_getElem?_getD, List.getElem?_eq_getElem h]
/-- each is a list of words, none too long -/
def Wss (xss : List (List Int)) : Prop := ∀ xs ∈ xss, Ws xs ∧ xs.length ≤ 4000000
theorem Wss.get {xss : List (List Int)} (h : Wss xss) {k : Nat} (hk : k < xss.length) : Ws (xss.getD k []) ∧ (xss.getD k []).length ≤ 4000000 := by
  have e : xss.getD k [] = xss[k] := by simp [List.getD_eq_getElem?_getD, List.getElem?_eq_getElem hk]
  rw [e]; exact h _ (List.getElem_mem hk)
def Wss0 (xss : List (List Int)) : Prop := ∀ xs ∈ xss, Ws xs ∧ xs.length ≤ 10000
theorem Wss0.get {xss : List (List Int)} (h : Wss0 xss) {k : Nat} (hk : k < xss.length) : Ws (xss.getD k []) ∧ (xss.getD k []).length ≤ 10000 := by
  have e : xss.getD k [] = xss[k] := by simp [List.getD_eq_getElem?_getD, List.getElem?_eq_getElem hk]
  rw [e]; exact h _ (List.getElem_mem hk)
theorem Wss0.big {xss : List (List Int)} (h : Wss0 xss) : Wss xss := fun y hy => ⟨(h y hy).1, by have := (h y hy).2; omega⟩
theorem sum_bd {xss : List (List Int)} (h : Wss0 xss) {k : Nat} (hk : k ≤ xss.length) : 0 ≤ sumN (xss.take k) ∧ sumN (xss.take k) < 65536 ^ (40000 + k) := by
  induction k with
  | zero =>
    have e : sumN (xss.take 0) = 0 := rfl
    rw [e]
    exact ⟨Int.le_refl _, Int.pow_pos (by omega)⟩
  | succ k ih =>
    have i := ih (by omega)
    have g := h.get (k := k) (by omega)
    have n0 := num_nonneg g.1
    have n1 := num_lt g.1
    have m1 := pow_mono (show 4 * (xss.getD k []).length ≤ 40000 + k by omega)
    rw [sum_next (by omega), ← Nat.add_assoc, Int.pow_succ]
    generalize (65536 : Int) ^ (40000 + k) = P at *
    generalize (65536 : Int) ^ (4 * (xss.getD k []).length) = Q at *
    omega
end Na

set_option maxHeartbeats 1600000 in
set_option maxRecDepth 100000 in
theorem refSum_any {a : Option Addr} {n cap : Nat} {xss : List (List Int)} {w : World} (hr : RowsAt w a n xss) (hx : Wss0 xss) (hn : n ≤ 10000) :
    Calls Try.prog 44 #[.slice a n cap] w fun e w' => ∃ v, e = .returned (.tuple #[v, .int .i64 (resE (sumN xss))]) ∧ Own .u64 w' w.heap.size 47 v (resL (sumN xss)) ∧ Below w.heap.size w w' := by
  have hlen := hr.1
  go_enter Try.func44, Try.ntmps44
  go_wp2
  go_loopw [4, 5] (fun d i wr => ∃ k : Nat, i = .int .i64 k ∧ k ≤ n ∧ Own .i64 wr w.heap.size 3 d (digs (sumN (xss.take k))) ∧ Below w.heap.size w wr) (fun _ i _ => n - (intOf i).toNat)
  case atStart => exact ⟨0, rfl, by omega, (by have e : digs (sumN (xss.take 0)) = [] := dig_zero _; rw [e]; exact own_nil _ _ _ _), Below.refl _ _⟩
  case round =>
    obtain ⟨k, rfl, hk, hown, hnx⟩ := hrel
    have hbd := sum_bd hx (k := k) (by omega)
    have hsz := hnx.size
    have hdl := digs_len_lt hbd.1 hbd.2
    have HV : Hid (val 65536 (digs (sumN (xss.take k))) = sumN (xss.take k)) := val_digs hbd.1
    have dx := Dg_digs (sumN (xss.take k))
    obtain ⟨ad, cd, hdv, hcd1, hcd2, hrd⟩ := hown.reads
    by_cases hlt : k < n
    · have hsn := sum_next (xss := xss) (k := k) (by omega)
      have gk := hx.get (k := k) (by omega)
      rcases hr.2 with h0 | ⟨b, off, rfl, hb, hc⟩
      · omega
      · obtain ⟨ai, ci, hcx0, hri0⟩ := hc k hlt
        have hcx := (hnx.cell (p := ⟨b, off + k, none⟩) hb).trans hcx0
        have hri := hri0.later hnx
        have HS : Hid (sumN (xss.take (k + 1)) = sumN (xss.take k) + num (xss.getD k [])) := hsn
        generalize xss.getD k [] = xs at *
        generalize sumN (xss.take k) = S at *
        have l1 := digs_len gk.1
        have p1 := num_nonneg gk.1
        have v1 : Hid (val 65536 (digs (num xs)) = num xs) := val_digs p1
        have b1 : (digs (num xs)).length ≤ 5000000 := by have := gk.2; omega
        have b2 : (digs S).length ≤ 5000000 := by omega
        have b3 : xs.length ≤ 1000000 := by have := gk.2; omega
        rw [hdv]
        clear hc hr hcx0 hri0 hsn hdl hbd l1 p1 hown hdv
        go_wp2_with fail
        refine (digits_get hri gk.1 b3).mono ?_
        rintro e w1 ⟨a1, d1, rfl, _, _, r1, hb1⟩
        have hrd' := hrd.later hb1
        have hbb := hnx.trans (hb1.mono hnx.size)
        clear hri hrd hcx hnx hb1
        go_wp2_with fail
        refine (plus_any hrd' r1 dx (Dg_digs _) b2 b1).mono ?_
        rintro e w2 ⟨v2, rfl, hown2, hb2⟩
        rw [HV.out, v1.out, ← HS.out] at hown2
        have hbc := hbb.trans (hb2.mono hbb.size)
        have ho := hown2.wider hbb.size
        clear hrd' r1 hown2 hbb hb2 gk
        go_wp2
        go_roundw
        case rel => exact ⟨k + 1, by go_num, by omega, ho, hbc⟩
        case measure => simp [intOf]; omega
    · have hkn : k = n := by omega
      have HT : Hid (xss.take k = xss) := List.take_of_length_le (by omega)
      have b2 : (digs (sumN (xss.take k))).length ≤ 10000000 := by omega
      rw [HT.out] at hrd b2 dx HV hcd1 hdv
      rw [hdv]
      clear hkn hr hown hdv hbd hdl
      go_wp2_with fail
      refine (told_any hrd dx b2 hcd1 hcd2).mono ?_
      rintro e w5 ⟨v5, rfl, hown5, hb5⟩
      have hbe := hnx.trans (hb5.mono hnx.size)
      rw [HV.out] at hown5 ⊢
      clear hrd hnx hb5
      go_wp2
      go_ret2
      exact ⟨_, rfl, hown5.wider hsz, hbe⟩
end Go.Proofs.Ytbdljmboilapeab

/- Layer 14: hexadecimal texts, no Go in sight. -/
import Derived.Test.YtjnmgjcmagnkeaaDoorFtoMath
namespace Go.Proofs.YtjnmgjcmagnkeaaDoor
set_option linter.unusedVariables false
namespace Ft
open Lx
/-- a hex digit -/
def hxD (n : Nat) : UInt8 := if n < 10 then UInt8.ofNat (48 + n) else UInt8.ofNat (87 + n)
/-- the digits behind the point, from a word of 64 bits -/
def hxL : Nat → Nat → B
  | 0, _ => []
  | f + 1, x => if x = 0 then [] else hxD (x / 1152921504606846976) :: hxL f (x * 16 % 18446744073709551616)
def hxT (x : Nat) (e : Int) : B := [48, 120, 49] ++ ((if x ≠ 0 then 46 :: hxL 16 x else []) ++ (112 :: exT e 1))
/-- what a digit says -/
def hdV (c : UInt8) : Nat := if c.toNat ≤ 57 then c.toNat - 48 else c.toNat - 87
def hv : B → Nat
  | [] => 0
  | c :: r => hdV c * 16 ^ r.length + hv r
theorem hx_fin : ∀ n : Fin 16, isH (hxD n.val) = true ∧ lowB (hxD n.val) = hxD n.val ∧ hdV (hxD n.val) = n.val ∧ (n.val ≠ 0 → hxD n.val ≠ 48) ∧ (48 ≤ (hxD n.val).toNat ∧ (hxD n.val).toNat ≤ 57 ∨ 97 ≤ (hxD n.val).toNat ∧ (hxD n.val).toNat ≤ 102) := by decide
theorem hx_dig {n : Nat} (h : n < 16) : isH (hxD n) = true ∧ lowB (hxD n) = hxD n ∧ hdV (hxD n) = n ∧ (n ≠ 0 → hxD n ≠ 48) ∧ (48 ≤ (hxD n).toNat ∧ (hxD n).toNat ≤ 57 ∨ 97 ≤ (hxD n).toNat ∧ (hxD n).toNat ≤ 102) := hx_fin ⟨n, h⟩
theorem hx_zero (f : Nat) : hxL f 0 = [] := by cases f <;> rfl
theorem hx_step {f x : Nat} (h : x ≠ 0) : hxL (f + 1) x = hxD (x / 1152921504606846976) :: hxL f (x * 16 % 18446744073709551616) := by rw [hxL, if_neg h]
theorem hx_all {f : Nat} : ∀ {x : Nat}, x < 18446744073709551616 → (∀ c ∈ hxL f x, ∃ n, n < 16 ∧ c = hxD n) := by
  induction f with
  | zero => intro x _ c hc; cases hc
  | succ f ih =>
    intro x hx c hc
    by_cases h : x = 0
    · rw [h, hx_zero] at hc; cases hc
    · rw [hx_step h] at hc
      rcases List.mem_cons.mp hc with rfl | hc
      · exact ⟨_, by omega, rfl⟩
      · exact ih (Nat.mod_lt _ (by omega)) c hc
theorem hx_val {f : Nat} : ∀ {x : Nat}, x < 18446744073709551616 → x * 16 ^ f % 18446744073709551616 = 0 → hv (hxL f x) * 18446744073709551616 = x * 16 ^ (hxL f x).length := by
  induction f with
  | zero =>
    intro x hx h
    have : x = 0 := by simpa [Nat.mod_eq_of_lt hx] using h
    subst this; rfl
  | succ f ih =>
    intro x hx h
    by_cases h0 : x = 0
    · subst h0; rw [hx_zero]; rfl
    · have hm : x * 16 % 18446744073709551616 * 16 ^ f % 18446744073709551616 = 0 := by
        rw [Nat.mod_mul_mod, Nat.mul_assoc, show 16 * 16 ^ f = 16 ^ (f + 1) by rw [Nat.pow_succ]; exact Nat.mul_comm _ _]
        exact h
      have := ih (x := x * 16 % 18446744073709551616) (Nat.mod_lt _ (by omega)) hm
      rw [hx_step h0, hv, (hx_dig (show x / 1152921504606846976 < 16 by omega)).2.2.1, List.length_cons, Nat.pow_succ, Nat.add_mul, this]
      have e : x * 16 = x / 1152921504606846976 * 18446744073709551616 + x * 16 % 18446744073709551616 := by omega
      generalize (hxL f (x * 16 % 18446744073709551616)).length = n
      generalize x * 16 % 18446744073709551616 = y at *
      generalize x / 1152921504606846976 = D at *
      generalize 16 ^ n = P
      have : x * (P * 16) = (x * 16) * P := by rw [Nat.mul_comm P 16, Nat.mul_assoc]
      rw [this, e, Nat.add_mul, Nat.mul_right_comm]
theorem hx_len {f : Nat} : ∀ {x g : Nat}, x < 18446744073709551616 → x * 16 ^ f % 18446744073709551616 = 0 → (hxL g x).length ≤ f := by
  induction f with
  | zero =>
    intro x g hx h
    have : x = 0 := by simpa [Nat.mod_eq_of_lt hx] using h
    subst this; rw [hx_zero]; exact Nat.le_refl _
  | succ f ih =>
    intro x g hx h
    by_cases h0 : x = 0
    · subst h0; rw [hx_zero]; exact Nat.zero_le _
    · cases g with
      | zero => exact Nat.zero_le _
      | succ g =>
        rw [hx_step h0, List.length_cons]
        have := ih (x := x * 16 % 18446744073709551616) (g := g) (Nat.mod_lt _ (by omega)) (by
          rw [Nat.mod_mul_mod, Nat.mul_assoc, show 16 * 16 ^ f = 16 ^ (f + 1) by rw [Nat.pow_succ]; exact Nat.mul_comm _ _]
          exact h)
        omega
/-- the last digit is not 0 -/
theorem hx_last {f : Nat} : ∀ {x : Nat}, x < 18446744073709551616 → x * 16 ^ f % 18446744073709551616 = 0 → x ≠ 0 → ∃ l c, hxL f x = l ++ [c] ∧ c ≠ 48 := by
  induction f with
  | zero =>
    intro x hx h h0
    exact absurd (by simpa [Nat.mod_eq_of_lt hx] using h) h0
  | succ f ih =>
    intro x hx h h0
    rw [hx_step h0]
    by_cases q : x * 16 % 18446744073709551616 = 0
    · rw [q, hx_zero]
      exact ⟨[], _, rfl, (hx_dig (by omega)).2.2.2.1 (by omega)⟩
    · obtain ⟨l, c, e, hc⟩ := ih (x := x * 16 % 18446744073709551616) (Nat.mod_lt _ (by omega)) (by
          rw [Nat.mod_mul_mod, Nat.mul_assoc, show 16 * 16 ^ f = 16 ^ (f + 1) by rw [Nat.pow_succ]; exact Nat.mul_comm _ _]
          exact h) q
      exact ⟨_ :: l, c, by rw [e]; rfl, hc⟩
theorem pow16_16 : (16 : Nat) ^ 16 = 18446744073709551616 := by decide
theorem hx_full (x : Nat) : x * 16 ^ 16 % 18446744073709551616 = 0 := by rw [pow16_16, Nat.mul_mod_left]
theorem allH_hx {f x : Nat} (h : x < 18446744073709551616) : (hxL f x).all isH = true := List.all_eq_true.mpr fun c hc => by
  obtain ⟨n, hn, rfl⟩ := hx_all h c hc
  exact (hx_dig hn).1
theorem low_hx {f x : Nat} (h : x < 18446744073709551616) : (hxL f x).map lowB = hxL f x := by
  have key : ∀ l : B, (∀ c ∈ l, ∃ n, n < 16 ∧ c = hxD n) → l.map lowB = l := by
    intro l
    induction l with
    | nil => intro _; rfl
    | cons c r ih =>
      intro hl
      obtain ⟨n, hn, rfl⟩ := hl c (List.mem_cons_self ..)
      rw [List.map_cons, (hx_dig hn).2.1, ih (fun c hc => hl c (List.mem_cons_of_mem _ hc))]
  exact key _ (hx_all h)
theorem hex_reads {x : Nat} (hx : x < 18446744073709551616) (ng : Bool) {e : Int} (h0 : -100000 ≤ e) (h1 : e ≤ 100000) :
    RdT (sgT ng ++ hxT x e) ⟨2, ng, 49 :: hxL 16 x, e - 4 * ((hxL 16 x).length : Int), []⟩ := by
  intro R hR
  have hl := hx_len (g := 16) hx (hx_full x)
  have hw := exT_w (e := e) (by omega) (by omega) 1 (show ([112, 80] : B).contains 112 = true from rfl)
  have hv := (exT_ok (e := e) (by omega) (by omega) 1).2.2
  have q := longest_hex (rest := R) (sgT_or ng) (Or.inl rfl) (head := [49]) (tail := hxL 16 x) (ex := 112 :: exT e 1) (pt := decide (x ≠ 0)) (x := 120) (by decide) (allH_hx hx) (fun q => by cases q.1)
    (fun q => by have : x = 0 := by simpa using q
                 subst this; rfl) hw (by simp) hR
  have e1 : (sgT ng ++ hxT x e) ++ R = sgT ng ++ (48 :: 120 :: ([49] ++ ((if decide (x ≠ 0) = true then 46 :: hxL 16 x else []) ++ ((112 :: exT e 1) ++ R)))) := by
    unfold hxT
    simp only [List.append_assoc, decide_eq_true_eq]
    rfl
  rw [e1, q]
  refine ⟨by simp, ?_, ?_⟩
  · unfold hxT
    by_cases z : x = 0
    · simp [z]; omega
    · simp [z]; omega
  · unfold numOf
    simp only [sgT_dec, List.tail_cons]
    rw [hv, if_neg (by decide), if_pos trivial, heldI_at (by omega) (by omega)]
    have : strip ([49] ++ hxL 16 x) = 49 :: hxL 16 x := by
      unfold strip
      rw [List.singleton_append, List.dropWhile_cons_of_neg (by decide), List.map_cons, low_hx hx]
      rfl
    rw [this]
    rfl
end Ft
end Go.Proofs.YtjnmgjcmagnkeaaDoor

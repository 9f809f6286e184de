/- plumbref03: Mul: halves of words. -/
import Derived.Test.YthjfjpdgjhidfabGreatLawLent
namespace Go.Proofs.YthjfjpdgjhidfabGreat
open Go.ChangeShapes Go.WideShapes Go.ChangeAt Go.RowKit
open Na Ar
set_option linter.unusedVariables false
theorem Own.stays {k : IntKind} {w w' : World} {base g n cap m : Nat} {e : TypeId} {xs : List Int} (h : Own k w base e (.slice (some ⟨g, 0, none⟩) n cap) xs) (hb : Below m w w') (hg : g < m) : Own k w' base e (.slice (some ⟨g, 0, none⟩) n cap) xs := by
  obtain ⟨h1, h2⟩ := h
  refine ⟨h1, ?_⟩
  rcases h2 with h2 | ⟨g2, c, cur, hv, hb2, hc, r⟩
  · exact Or.inl h2
  · refine Or.inr ⟨g2, c, cur, hv, hb2, ?_, r⟩
    simp only [Value.slice.injEq, Option.some.injEq, Addr.mk.injEq] at hv
    rw [hb.block g2 (by omega)]; exact hc
namespace Na
/-- each word by its halves -/
def halves : List Int → List Int
  | [] => []
  | x :: xs => x % 4294967296 :: x / 4294967296 :: halves xs
theorem halves_length (xs : List Int) : (halves xs).length = 2 * xs.length := by
  induction xs with
  | nil => rfl
  | cons x xs ih => simp [halves, ih]; omega
theorem halves_dg {xs : List Int} (h : Ws xs) : Dg 4294967296 (halves xs) := by
  induction xs with
  | nil => exact Dg.nil _
  | cons x xs ih =>
    have hx := h x (by simp)
    have hs : Ws xs := fun y hy => h y (by simp [hy])
    intro y hy
    simp only [halves, List.mem_cons] at hy
    rcases hy with rfl | rfl | hy
    · omega
    · omega
    · exact ih hs y hy
theorem halves_val (xs : List Int) : val 4294967296 (halves xs) = num xs := by
  induction xs with
  | nil => rfl
  | cons x xs ih =>
    have e : val 4294967296 (halves (x :: xs)) = x % 4294967296 + 4294967296 * (x / 4294967296 + 4294967296 * val 4294967296 (halves xs)) := rfl
    have e2 : num (x :: xs) = x + 18446744073709551616 * num xs := rfl
    rw [e, e2, ih]
    generalize num xs = N
    omega
theorem halves_get {xs : List Int} (h : Ws xs) (k : Nat) : (halves xs).getD k 0 = (if k % 2 = 0 then xs.getD (k / 2) 0 % 4294967296 else xs.getD (k / 2) 0 / 4294967296) := by
  induction xs generalizing k with
  | nil => simp [halves]
  | cons x xs ih =>
    have hs : Ws xs := fun y hy => h y (by simp [hy])
    match k with
    | 0 => rfl
    | 1 => rfl
    | k + 2 =>
      have e : (halves (x :: xs)).getD (k + 2) 0 = (halves xs).getD k 0 := rfl
      have e2 : (k + 2) / 2 = k / 2 + 1 := by omega
      have e3 : (k + 2) % 2 = k % 2 := by omega
      rw [e, ih hs, e2, e3]
      rfl
theorem put_half {us : List Int} {j : Nat} {c p lo hi : Int} (hj : j < us.length) (e : us.getD j 0 + p + c = lo + 4294967296 * hi) :
    val 4294967296 (us.set j lo) + 4294967296 ^ (j + 1) * hi = val 4294967296 us + 4294967296 ^ j * c + 4294967296 ^ j * p := by
  rw [val_set _ hj, Int.pow_succ]
  generalize val 4294967296 us = V
  generalize (4294967296 : Int) ^ j = P
  generalize us.getD j 0 = u at *
  have : lo = u + p + c - 4294967296 * hi := by omega
  subst this
  grind
def hfLo (x y u d : Int) : Int := (x * y + u + d) % 4294967296
def hfHi (x y u d : Int) : Int := (x * y + u + d) / 4294967296
theorem hf_bd {x y u d : Int} (hx : 0 ≤ x ∧ x < 4294967296) (hy : 0 ≤ y ∧ y < 4294967296) (hu : 0 ≤ u ∧ u < 4294967296) (hd : 0 ≤ d ∧ d < 4294967296) : (0 ≤ x * y + u + d ∧ x * y + u + d < 18446744073709551616) ∧ 0 ≤ x * y ∧ (0 ≤ hfHi x y u d ∧ hfHi x y u d < 4294967296) := by
  have m0 : 0 ≤ x * y := Int.mul_nonneg hx.1 hy.1
  have m1 : x * y ≤ 4294967295 * 4294967295 := Int.mul_le_mul (by omega) (by omega) hy.1 (by omega)
  unfold hfHi
  generalize x * y = z at *
  omega
def HimI (ds ys : List Int) (o : Nat) (x : Int) (k : Nat) (d : Int) (us : List Int) : Prop := Dg 4294967296 us ∧ us.length = ds.length ∧ (0 ≤ d ∧ d < 4294967296) ∧ us.drop (o + ys.length) = ds.drop (o + ys.length) ∧
  val 4294967296 us + 4294967296 ^ (o + k) * d = val 4294967296 ds + 4294967296 ^ o * (x * val 4294967296 (ys.take k))
theorem himI_start {ds ys : List Int} {o : Nat} {x : Int} (h : Dg 4294967296 ds) : HimI ds ys o x 0 0 ds := ⟨h, rfl, by omega, rfl, by simp [val]⟩
theorem himI_step {ds ys us : List Int} {o k : Nat} {x d : Int} (h : HimI ds ys o x k d us) (hy : Dg 4294967296 ys) (hx : 0 ≤ x ∧ x < 4294967296) (hk : k < ys.length) (ho : o + k < us.length) :
    HimI ds ys o x (k + 1) (hfHi x (ys.getD k 0) (us.getD (o + k) 0) d) (us.set (o + k) (hfLo x (ys.getD k 0) (us.getD (o + k) 0) d)) := by
  obtain ⟨h1, h2, h3, h4, h5⟩ := h
  have gu := h1.get ho
  have gy := hy.get hk
  have bd := hf_bd hx ⟨gy.1, gy.2⟩ ⟨gu.1, gu.2⟩ h3
  refine ⟨h1.set _ (by unfold hfLo; omega), by rw [List.length_set]; exact h2, bd.2.2, ?_, ?_⟩
  · rw [List.drop_set_of_lt (by omega)]; exact h4
  · have e : us.getD (o + k) 0 + x * ys.getD k 0 + d = hfLo x (ys.getD k 0) (us.getD (o + k) 0) d + 4294967296 * hfHi x (ys.getD k 0) (us.getD (o + k) 0) d := by
      unfold hfLo hfHi
      generalize x * ys.getD k 0 = z
      omega
    have p := put_half (j := o + k) (c := d) (p := x * ys.getD k 0) ho e
    rw [← Nat.add_assoc, p, h5, take_valB hk, Int.pow_add]
    generalize (4294967296 : Int) ^ o = P
    generalize (4294967296 : Int) ^ k = Q
    generalize val 4294967296 (ys.take k) = V
    generalize ys.getD k 0 = y
    grind
/-- behind i halves of the first -/
def HomI (xs ys : List Int) (i : Nat) (ds : List Int) : Prop := Dg 4294967296 ds ∧ ds.length = xs.length + ys.length + 1 ∧ (∀ j, i + ys.length ≤ j → ds.getD j 0 = 0) ∧ val 4294967296 ds = val 4294967296 (xs.take i) * val 4294967296 ys
theorem homI_start (xs ys : List Int) : HomI xs ys 0 (List.replicate (xs.length + ys.length + 1) 0) :=
  ⟨Dg_zeros (by omega) _, by simp, fun j _ => by rw [List.getD_eq_getElem?_getD, List.getElem?_replicate]; split <;> rfl, by rw [val_zeros]; simp [val]⟩
theorem himI_above {ds ys us : List Int} {o : Nat} {x d : Int} {k : Nat} (h : HimI ds ys o x k d us) {j : Nat} (hj : o + ys.length ≤ j) : us.getD j 0 = ds.getD j 0 := by
  have e := h.2.2.2.1
  have e2 : (us.drop (o + ys.length)).getD (j - (o + ys.length)) 0 = (ds.drop (o + ys.length)).getD (j - (o + ys.length)) 0 := by rw [e]
  simp only [List.getD_eq_getElem?_getD, List.getElem?_drop] at e2 ⊢
  have e3 : o + ys.length + (j - (o + ys.length)) = j := by omega
  rw [e3] at e2
  exact e2
theorem homI_step {xs ys ds us : List Int} {i : Nat} {d : Int} (h : HomI xs ys i ds) (hi : i < xs.length) (hin : HimI ds ys i (xs.getD i 0) ys.length d us) :
    us.getD (i + ys.length) 0 = 0 ∧ HomI xs ys (i + 1) (us.set (i + ys.length) d) := by
  obtain ⟨h1, h2, h3, h4⟩ := h
  have z : us.getD (i + ys.length) 0 = 0 := by rw [himI_above hin (Nat.le_refl _)]; exact h3 _ (Nat.le_refl _)
  have ab := fun j (q : i + ys.length ≤ j) => himI_above hin q
  obtain ⟨g1, g2, g3, g4, g5⟩ := hin
  refine ⟨z, g1.set _ g3, by rw [List.length_set, g2]; exact h2, fun j hj => ?_, ?_⟩
  · have e : (us.set (i + ys.length) d).getD j 0 = us.getD j 0 := by
      simp only [List.getD_eq_getElem?_getD]
      rw [List.getElem?_set_ne (by omega)]
    rw [e, ab j (by omega)]
    exact h3 j (by omega)
  · rw [val_set _ (by omega), z, take_valB hi]
    rw [List.take_length, h4] at g5
    have e : (4294967296 : Int) ^ (i + ys.length) * (d - 0) = 4294967296 ^ (i + ys.length) * d := by simp
    rw [e, g5]
    generalize (4294967296 : Int) ^ i = P
    generalize val 4294967296 (xs.take i) = V
    generalize val 4294967296 ys = Y
    generalize xs.getD i 0 = x
    grind
end Na
end Go.Proofs.YthjfjpdgjhidfabGreat

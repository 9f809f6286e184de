/- Layer 10: what Cut tells of a text of digits. -/
import Derived.Test.YtbbmoaipilmmdaaGreatDoorLexMath
namespace Go.Proofs.YtbbmoaipilmmdaaGreatDoor
set_option linter.unusedVariables false
namespace Lx
/-- the number that digits say -/
def dv (l : B) : Int := l.foldl (fun a b => a * 10 + ((b.toNat : Int) - 48)) 0
theorem dv_snoc (l : B) (b : UInt8) : dv (l ++ [b]) = dv l * 10 + ((b.toNat : Int) - 48) := by unfold dv; rw [List.foldl_append]; rfl
theorem dv_from (l : B) (a : Int) : l.foldl (fun a b => a * 10 + ((b.toNat : Int) - 48)) a = a * 10 ^ l.length + dv l := by
  induction l generalizing a with
  | nil => simp [dv]
  | cons b r ih =>
    unfold dv
    rw [List.foldl_cons, List.foldl_cons, ih, ih, List.length_cons, Int.pow_succ]
    grind
theorem dv_append (l m : B) : dv (l ++ m) = dv l * 10 ^ m.length + dv m := by
  have : dv (l ++ m) = m.foldl (fun a b => a * 10 + ((b.toNat : Int) - 48)) (dv l) := by unfold dv; rw [List.foldl_append]
  rw [this, dv_from]
theorem isD_bd {b : UInt8} (h : isD b = true) : 48 ≤ b.toNat ∧ b.toNat ≤ 57 := by
  unfold isD at h
  simpa using h
theorem ten_pos (n : Nat) : (0 : Int) < 10 ^ n := Int.pow_pos (by omega)
theorem dv_bd {l : B} (h : ∀ b ∈ l, isD b = true) : 0 ≤ dv l ∧ dv l < 10 ^ l.length := by
  induction l with
  | nil => simp [dv]
  | cons b r ih =>
    obtain ⟨i0, i1⟩ := ih (fun c hc => h c (List.mem_cons_of_mem _ hc))
    obtain ⟨b0, b1⟩ := isD_bd (h b (List.mem_cons_self ..))
    have e : dv (b :: r) = ((b.toNat : Int) - 48) * 10 ^ r.length + dv r := by
      have := dv_append [b] r
      rw [List.singleton_append] at this
      rw [this]
      congr 2
      simp [dv]
    rw [e, List.length_cons, Int.pow_succ]
    have hp := ten_pos r.length
    generalize (10 : Int) ^ r.length = P at *
    have q0 : 0 ≤ ((b.toNat : Int) - 48) * P := Int.mul_nonneg (by omega) (by omega)
    have q1 : ((b.toNat : Int) - 48) * P ≤ 9 * P := Int.mul_le_mul_of_nonneg_right (by omega) (by omega)
    omega
theorem dv_zero {l : B} (h : ∀ b ∈ l, isD b = true) : dv l = 0 ↔ ∀ b ∈ l, b = 48 := by
  induction l with
  | nil => simp [dv]
  | cons b r ih =>
    have hr : ∀ c ∈ r, isD c = true := fun c hc => h c (List.mem_cons_of_mem _ hc)
    have i := ih hr
    obtain ⟨j0, j1⟩ := dv_bd hr
    obtain ⟨b0, b1⟩ := isD_bd (h b (List.mem_cons_self ..))
    have e : dv (b :: r) = ((b.toNat : Int) - 48) * 10 ^ r.length + dv r := by
      have := dv_append [b] r
      rw [List.singleton_append] at this
      rw [this]
      congr 2
      simp [dv]
    rw [e]
    have hp := ten_pos r.length
    constructor
    · intro hz
      have q0 : 0 ≤ ((b.toNat : Int) - 48) * 10 ^ r.length := Int.mul_nonneg (by omega) (by omega)
      have z1 : ((b.toNat : Int) - 48) * 10 ^ r.length = 0 := by omega
      have z2 : (b.toNat : Int) - 48 = 0 := by
        rcases Int.mul_eq_zero.mp z1 with h | h
        · exact h
        · omega
      intro c hc
      rcases List.mem_cons.mp hc with rfl | hc
      · apply UInt8.toNat_inj.mp
        show c.toNat = 48
        omega
      · exact i.mp (by omega) c hc
    · intro hz
      have hb : b = 48 := hz b (List.mem_cons_self ..)
      have hr0 := i.mpr (fun c hc => hz c (List.mem_cons_of_mem _ hc))
      rw [hr0, hb]
      simp
/-- all digits? -/
def allD (l : B) : Bool := l.all isD
/-- without the zeros ahead -/
def said (l : B) : B := l.dropWhile (fun b => ([48] : B).contains b)
def usedN (l : B) : Nat := min (said l).length 19
/-- Cut's answer -/
def cutV (l : B) : Int := if allD l = true then dv ((said l).take (usedN l)) else 0
def cutN (l : B) : Nat := if allD l = true then l.length - (said l).length + usedN l else 0
def cutMr (l : B) : Bool := if allD l = true then ((said l).drop (usedN l)).any (fun b => b != 48) else false
def cutE (l : B) : Int := if allD l = true then 0 else 41
theorem allD_iff {l : B} : allD l = true ↔ ∀ b ∈ l, isD b = true := by unfold allD; exact List.all_eq_true
theorem said_split (l : B) : ∃ k, k ≤ l.length ∧ said l = l.drop k ∧ (∀ b ∈ l.take k, b = 48) ∧ (∀ b r, said l = b :: r → b ≠ 48) := by
  unfold said
  induction l with
  | nil => exact ⟨0, by simp, rfl, by simp, by simp⟩
  | cons c r ih =>
    rw [List.dropWhile_cons]
    by_cases h : c = 48
    · subst h
      obtain ⟨k, k1, k2, k3, k4⟩ := ih
      have : ([48] : B).contains 48 = true := by decide
      rw [if_pos this]
      refine ⟨k + 1, by simp; omega, by simpa using k2, ?_, k4⟩
      intro b hb
      rw [List.take_succ_cons] at hb
      rcases List.mem_cons.mp hb with rfl | hb
      · rfl
      · exact k3 b hb
    · have : ¬ (([48] : B).contains c = true) := by simpa using h
      rw [if_neg this]
      refine ⟨0, by simp, rfl, by simp, ?_⟩
      intro b r' e
      injection e with e1 e2
      rw [← e1]; exact h
theorem said_le (l : B) : (said l).length ≤ l.length := by
  obtain ⟨k, k1, k2, _, _⟩ := said_split l
  rw [k2, List.length_drop]; omega
/-- the number of all digits, by what Cut tells -/
theorem cut_num {l : B} (h : allD l = true) : ∃ r : Int, dv l = cutV l * 10 ^ (l.length - cutN l) + r ∧ 0 ≤ r ∧ r < 10 ^ (l.length - cutN l) ∧ (cutMr l = true ↔ r ≠ 0) ∧ cutN l ≤ l.length ∧ 0 ≤ cutV l ∧ cutV l ≤ 9999999999999999999 ∧ (cutN l < l.length → 1000000000000000000 ≤ cutV l) := by
  obtain ⟨k, k1, k2, k3, k4⟩ := said_split l
  have hall := allD_iff.mp h
  have hsl : ∀ b ∈ said l, isD b = true := fun b hb => hall b (by rw [k2] at hb; exact List.mem_of_mem_drop hb)
  have hlen : (said l).length = l.length - k := by rw [k2, List.length_drop]
  have hu : usedN l ≤ (said l).length := by unfold usedN; omega
  have hu19 : usedN l ≤ 19 := by unfold usedN; omega
  have ev : cutV l = dv ((said l).take (usedN l)) := by unfold cutV; rw [if_pos h]
  have en : cutN l = l.length - (said l).length + usedN l := by unfold cutN; rw [if_pos h]
  have em : cutMr l = ((said l).drop (usedN l)).any (fun b => b != 48) := by unfold cutMr; rw [if_pos h]
  have hrest : ∀ b ∈ (said l).drop (usedN l), isD b = true := fun b hb => hsl b (List.mem_of_mem_drop hb)
  have htake : ∀ b ∈ (said l).take (usedN l), isD b = true := fun b hb => hsl b (List.mem_of_mem_take hb)
  have hlr : ((said l).drop (usedN l)).length = l.length - cutN l := by rw [List.length_drop, en, hlen]; omega
  obtain ⟨r0, r1⟩ := dv_bd hrest
  obtain ⟨v0, v1⟩ := dv_bd htake
  rw [hlr] at r1
  have htl : ((said l).take (usedN l)).length = usedN l := by rw [List.length_take]; omega
  rw [htl, ← ev] at v1
  rw [← ev] at v0
  have hpow : (10 : Int) ^ usedN l ≤ 10 ^ 19 := by
    have : (10 : Int) ^ 19 = 10 ^ usedN l * 10 ^ (19 - usedN l) := by rw [← Int.pow_add]; congr 1; omega
    rw [this]
    have p1 := ten_pos (usedN l)
    have p2 := ten_pos (19 - usedN l)
    have := Int.mul_le_mul_of_nonneg_left (show (1 : Int) ≤ 10 ^ (19 - usedN l) by omega) (Int.le_of_lt p1)
    omega
  refine ⟨dv ((said l).drop (usedN l)), ?_, r0, r1, ?_, by omega, v0, ?_, ?_⟩
  · have e1 : dv l = dv (said l) := by
      have := dv_append (l.take k) (l.drop k)
      rw [List.take_append_drop] at this
      rw [this, k2]
      have hz : dv (l.take k) = 0 := (dv_zero (fun b hb => hall b (List.mem_of_mem_take hb))).mpr k3
      rw [hz, Int.zero_mul, Int.zero_add]
    have := dv_append ((said l).take (usedN l)) ((said l).drop (usedN l))
    rw [List.take_append_drop, hlr] at this
    rw [e1, ev]; exact this
  · rw [em]
    have z := dv_zero hrest
    rw [List.any_eq_true]
    constructor
    · rintro ⟨b, hb, hne⟩ hz
      have := z.mp hz b hb
      rw [this] at hne
      simp at hne
    · intro hne
      apply Decidable.byContradiction
      intro hc
      apply hne
      apply z.mpr
      intro b hb
      apply Decidable.byContradiction
      intro hbn
      exact hc ⟨b, hb, by simpa using hbn⟩
  · have : (10 : Int) ^ 19 = 10000000000000000000 := by rfl
    omega
  · intro hl
    have hu2 : usedN l = 19 := by
      unfold usedN at *
      omega
    cases hs : said l with
    | nil => rw [hs] at hlen hu; rw [hu2] at hu; simp at hu
    | cons b r =>
      have hb := k4 b r hs
      obtain ⟨b0, b1⟩ := isD_bd (hsl b (by rw [hs]; exact List.mem_cons_self ..))
      have hb9 : 49 ≤ b.toNat := by
        apply Decidable.byContradiction
        intro hc
        exact hb (UInt8.toNat_inj.mp (show b.toNat = 48 by omega))
      have hr18 : (r.take 18).length = 18 := by
        rw [List.length_take]
        have : (said l).length = r.length + 1 := by rw [hs]; rfl
        omega
      have e3 : dv ((said l).take (usedN l)) = ((b.toNat : Int) - 48) * 10 ^ 18 + dv (r.take 18) := by
        rw [hu2, hs, List.take_succ_cons]
        have := dv_append [b] (r.take 18)
        rw [List.singleton_append, hr18] at this
        rw [this]
        congr 2
        simp [dv]
      have q := (dv_bd (l := r.take 18) (fun c hc => hsl c (by rw [hs]; exact List.mem_cons_of_mem _ (List.mem_of_mem_take hc)))).1
      rw [ev, e3]
      have : (10 : Int) ^ 18 = 1000000000000000000 := by rfl
      rw [this]
      omega
theorem trim_all (cs l : B) : (l.dropWhile (fun b => cs.contains b)) = [] ↔ ∀ b ∈ l, cs.contains b = true := by
  induction l with
  | nil => simp
  | cons c r ih =>
    rw [List.dropWhile_cons]
    by_cases h : cs.contains c = true
    · rw [if_pos h, ih]
      constructor
      · intro hr b hb
        rcases List.mem_cons.mp hb with rfl | hb
        · exact h
        · exact hr b hb
      · exact fun hr b hb => hr b (List.mem_cons_of_mem _ hb)
    · rw [if_neg h]
      constructor
      · intro e; cases e
      · intro hr; exact absurd (hr c (List.mem_cons_self ..)) h
theorem digits_has (b : UInt8) : ([48, 49, 50, 51, 52, 53, 54, 55, 56, 57] : B).contains b = isD b := by
  have : ∀ n : Fin 256, ([48, 49, 50, 51, 52, 53, 54, 55, 56, 57] : B).contains (UInt8.ofNat n.val) = isD (UInt8.ofNat n.val) := by decide +kernel
  have h := this ⟨b.toNat, UInt8.toNat_lt b⟩
  simpa using h
end Lx
end Go.Proofs.YtbbmoaipilmmdaaGreatDoor

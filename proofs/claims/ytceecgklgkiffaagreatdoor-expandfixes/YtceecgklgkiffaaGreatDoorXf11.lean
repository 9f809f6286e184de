import Derived.Deep.LoopGhost
import Derived.Deep.RegionWith
import Derived.Deep.RegionHeld3
import Derived.Below
import Derived.BigQuiet
import Derived.ChangeOld
import Derived.Deep.DeepCutAuto
import Derived.Deep.QuietTactic
import Derived.Laws.BitsAllLaws
import Derived.Laws.CopyRow
import Derived.Laws.IdiomCopy
import Derived.Laws.IdiomRangeMap
import Derived.OpenShut
import Derived.OwnWalk
import Derived.ProofKit
import Derived.Scope
import Derived.ShutString
import Derived.WalkKit
import Derived.WalkLawsBesides
import Derived.WalkMore
import Derived.WalkSpells
import Derived.Test.YtceecgklgkiffaaGreatDoorXf7
/- package quot: plus, above, Root. -/
namespace Go.Proofs.YtceecgklgkiffaaGreatDoor
open Go.ChangeShapes Go.WideShapes Go.ChangeAt Go.RowKit
open Na Ar
set_option linter.unusedVariables false

namespace Na
end Na
end Go.Proofs.YtceecgklgkiffaaGreatDoor

/- package quot: difference, gcdWords, wordAt. -/
namespace Go.Proofs.YtceecgklgkiffaaGreatDoor
open Go.ChangeShapes Go.WideShapes Go.ChangeAt Go.RowKit
open Na Ar
set_option linter.unusedVariables false
namespace Na
end Na
end Go.Proofs.YtceecgklgkiffaaGreatDoor

/- package quot: foresee. -/
namespace Go.Proofs.YtceecgklgkiffaaGreatDoor
open Go.ChangeShapes Go.WideShapes Go.ChangeAt Go.RowKit
open Na Ar
set_option linter.unusedVariables false

/-- a course in its block -/
def Cs (w : World) (g : Nat) (k ua ub va vb : Int) : Prop := w.heap[g]? = some (.cells #[.int .i64 k, .int .u64 ua, .int .u64 ub, .int .u64 va, .int .u64 vb] 233 (0, 0))
theorem Cs.lt {w : World} {g : Nat} {k ua ub va vb : Int} (h : Cs w g k ua ub va vb) : g < w.heap.size := by
  by_cases hlt : g < w.heap.size
  · exact hlt
  · unfold Cs at h; simp [Array.getElem?_eq_none (Nat.le_of_not_lt hlt)] at h
theorem Cs.later {w w' : World} {g : Nat} {k ua ub va vb : Int} (h : Cs w g k ua ub va vb) (hb : Below w.heap.size w w') : Cs w' g k ua ub va vb := by
  have := h.lt
  unfold Cs
  rw [hb.block g this]; exact h
theorem Cs.cells {w : World} {g : Nat} {k ua ub va vb : Int} (h : Cs w g k ua ub va vb) : w.cell? ⟨g, 0, none⟩ = some (.int .i64 k) ∧ w.cell? ⟨g, 1, none⟩ = some (.int .u64 ua) ∧ w.cell? ⟨g, 2, none⟩ = some (.int .u64 ub) ∧ w.cell? ⟨g, 3, none⟩ = some (.int .u64 va) ∧ w.cell? ⟨g, 4, none⟩ = some (.int .u64 vb) := by
  unfold Cs at h
  simp [World.cell?, h]
theorem Cs.frozen {w : World} {g : Nat} {k ua ub va vb : Int} (h : Cs w g k ua ub va vb) (i : Nat) : w.frozen? ⟨g, i, none⟩ = false := by
  unfold Cs at h
  simp [World.frozen?, h]
theorem set_block {w : World} {g i : Nat} {c : Array Value} {t : TypeId} {f : Nat × Nat} {v : Value} (h : w.heap[g]? = some (.cells c t f)) : (w.setCell ⟨g, i, none⟩ v).heap[g]? = some (.cells (c.setIfInBounds i v) t f) := by
  simp [World.setCell, Array.getElem?_modify, h]
theorem Cs.set {w : World} {g : Nat} {k ua ub va vb : Int} (h : Cs w g k ua ub va vb) (k' ua' ub' va' vb' : Int) :
    Cs (((((w.setCell ⟨g, 0, none⟩ (.int .i64 k')).setCell ⟨g, 1, none⟩ (.int .u64 ua')).setCell ⟨g, 2, none⟩ (.int .u64 ub')).setCell ⟨g, 3, none⟩ (.int .u64 va')).setCell ⟨g, 4, none⟩ (.int .u64 vb')) g k' ua' ub' va' vb' :=
  set_block (set_block (set_block (set_block (set_block h))))
theorem Cs.inn {w w' : World} {g g' : Nat} {k ua ub va vb : Int} (h : Cs w g k ua ub va vb) (hi : In g' (g' + 1) w w') (hne : g ≠ g') : Cs w' g k ua ub va vb := by
  have := h.lt
  unfold Cs
  rw [hi.block g this (by omega)]; exact h
namespace Na
theorem Fs.small {x0 y0 : Int} {K : Nat} {ua ub va vb x y : Int} (h : Fs x0 y0 K ua ub va vb x y) (hv : (K : Int) ≤ vb) (g1 : vb ≤ y) (g2 : vb + ub ≤ x - y) (hx : x0 < 18446744073709551616) : (K : Int) ≤ 4294967296 := by
  by_cases g : (K : Int) ≤ 4294967296
  · exact g
  · exfalso
    have nn := h.nn
    have e := h.e1
    have a : vb * vb ≤ vb * x := Int.mul_le_mul_of_nonneg_left (by omega) (by omega)
    have b : 0 ≤ ub * y := Int.mul_nonneg nn.2.1 h.y0
    have c : (4294967297 : Int) * 4294967297 ≤ vb * vb := Int.mul_le_mul (by omega) (by omega) (by omega) (by omega)
    omega
theorem Fs.more {x0 y0 : Int} {K : Nat} {ua ub va vb x y : Int} (h : Fs x0 y0 K ua ub va vb x y) (hy : y ≠ 0) (hv : (K : Int) ≤ vb) : ((K + 1 : Nat) : Int) ≤ ub + x / y * vb := by
  have nn := h.nn
  have y0 := h.y0
  have hxy : y ≤ x := by rcases h.st with s | s <;> omega
  have hq : 1 ≤ x / y := by rw [Int.le_ediv_iff_mul_le (by omega)]; omega
  have a : 1 * vb ≤ x / y * vb := Int.mul_le_mul_of_nonneg_right hq (by omega)
  rcases h.st with s | s
  · omega
  · omega
end Na
end Go.Proofs.YtceecgklgkiffaaGreatDoor

/- package quot: run. -/
namespace Go.Proofs.YtceecgklgkiffaaGreatDoor
open Go.ChangeShapes Go.WideShapes Go.ChangeAt Go.RowKit
open Na Ar
set_option linter.unusedVariables false
end Go.Proofs.YtceecgklgkiffaaGreatDoor

/- package quot: euclid. -/
namespace Go.Proofs.YtceecgklgkiffaaGreatDoor
open Go.ChangeShapes Go.WideShapes Go.ChangeAt Go.RowKit
open Na Ar
set_option linter.unusedVariables false
namespace Na
/-- what foresee tells, of the whole numbers -/
theorem foreseen {A B H : Int} {K : Nat} {ua ub va vb x y : Int} (hH : 0 < H) (hA : 0 < A) (hB : 0 ≤ B) (hlt : A / H < 18446744073709551616) (hF : Fs (A / H) (B / H) K ua ub va vb x y) (hK : K ≠ 0) (g1 : vb ≤ y) (g2 : vb + ub ≤ x - y) :
    (∃ A' B', Crs K ua ub va vb A B A' B') ∧ U ua ∧ U ub ∧ U va ∧ U vb := by
  have mA := Int.mul_ediv_add_emod A H
  have mB := Int.mul_ediv_add_emod B H
  have c := hF.course (by omega) g1 g2 hH ⟨Int.emod_nonneg A (show H ≠ 0 by omega), Int.emod_lt_of_pos A hH⟩ ⟨Int.emod_nonneg B (show H ≠ 0 by omega), Int.emod_lt_of_pos B hH⟩
  have eA : A / H * H + A % H = A := by rw [Int.mul_comm]; exact mA
  have eB : B / H * H + B % H = B := by rw [Int.mul_comm]; exact mB
  rw [eA, eB] at c
  have nn := hF.nn
  have b := hF.both (show 1 ≤ x by omega) (show 1 ≤ y by omega)
  have w := hF.word (show 1 ≤ x by omega)
  have hh : ua ≤ ub ∧ va ≤ vb := by
    rcases hF.st with s | s
    · omega
    · omega
  refine ⟨c, ?_, ?_, ?_, ?_⟩ <;> unfold U <;> omega
end Na

end Go.Proofs.YtceecgklgkiffaaGreatDoor

/- package quot: Gcd, Lowest. -/
namespace Go.Proofs.YtceecgklgkiffaaGreatDoor
open Go.ChangeShapes Go.WideShapes Go.ChangeAt Go.RowKit
open Na Ar
set_option linter.unusedVariables false
namespace Na
end Na
end Go.Proofs.YtceecgklgkiffaaGreatDoor

/- What the laws of layer 3 call: the answers under fresh names; the laws' own helpers. -/
namespace Go.Proofs.YtceecgklgkiffaaGreatDoor
open Go.ChangeShapes Go.WideShapes Go.ChangeAt Go.RowKit
open Na Ar
set_option linter.unusedVariables false
section
variable {a b : Option Addr} {n m c1 c2 : Nat} {xs ys : List Int} {A B : Int} {w : World} {k : Nat}
end
end Go.Proofs.YtceecgklgkiffaaGreatDoor

/- package quot: Lowest; plumblaw03.divides. -/
namespace Go.Proofs.YtceecgklgkiffaaGreatDoor
open Go.ChangeShapes Go.WideShapes Go.ChangeAt Go.RowKit
open Na Ar
set_option linter.unusedVariables false
end Go.Proofs.YtceecgklgkiffaaGreatDoor

/- Rational numbers: a sign and two numbers; the order; what the four operations come to. -/
namespace Go.Proofs.YtceecgklgkiffaaGreatDoor
set_option linter.unusedVariables false
set_option linter.unusedSimpArgs false

/-- a number with a sign -/
def sg (s : Bool) (A : Int) : Int := if s then -A else A
theorem sg_false (A : Int) : sg false A = A := rfl
theorem sg_true (A : Int) : sg true A = -A := rfl
theorem sg_abs (s : Bool) {A : Int} (hA : 0 ≤ A) : ((sg s A).natAbs : Int) = A := by
  cases s <;> simp [sg] <;> omega
theorem sg_toNat (s : Bool) {A : Int} (hA : 0 ≤ A) : (sg s A).natAbs = A.toNat := by
  cases s <;> simp [sg] <;> omega
theorem den_pos (q : Rat) : (0 : Int) < (q.den : Int) := by have := q.den_nz; omega
/-- num by den, with a sign -/
def mkR (s : Bool) (A B : Int) : Rat := mkRat (sg s A) B.toNat
section
variable {s : Bool} {A B : Int}
theorem toNat_ne (hB : 0 < B) : B.toNat ≠ 0 := by omega
theorem gcd_sg (s : Bool) (hA : 0 ≤ A) (hB : 0 < B) : B.toNat.gcd (sg s A).natAbs = Int.gcd A B := by
  rw [sg_toNat s hA, Int.gcd, Nat.gcd_comm, show A.natAbs = A.toNat by omega, show B.natAbs = B.toNat by omega]
theorem rat_num (hA : 0 ≤ A) (hB : 0 < B) : (mkR s A B).num = sg s (A / (Int.gcd A B : Int)) := by
  unfold mkR
  rw [Rat.num_mkRat, if_neg (toNat_ne hB), gcd_sg s hA hB]
  cases s
  · rfl
  · show -A / (Int.gcd A B : Int) = -(A / (Int.gcd A B : Int))
    exact Int.neg_ediv_of_dvd (Int.gcd_dvd_left ..)
theorem rat_abs (hA : 0 ≤ A) (hB : 0 < B) : ((mkR s A B).num.natAbs : Int) = A / (Int.gcd A B : Int) := by
  rw [rat_num hA hB, sg_abs]
  exact Int.ediv_nonneg hA (by omega)
theorem rat_den (hA : 0 ≤ A) (hB : 0 < B) : ((mkR s A B).den : Int) = B / (Int.gcd A B : Int) := by
  unfold mkR
  rw [Rat.den_mkRat, if_neg (toNat_ne hB), gcd_sg s hA hB, Int.natCast_ediv, Int.toNat_of_nonneg (Int.le_of_lt hB)]
theorem rat_neg (hA : 0 ≤ A) (hB : 0 < B) : decide ((mkR s A B).num < 0) = (s && decide (A / (Int.gcd A B : Int) ≠ 0)) := by
  have h0 : 0 ≤ A / (Int.gcd A B : Int) := Int.ediv_nonneg hA (by omega)
  rw [rat_num hA hB]
  generalize A / (Int.gcd A B : Int) = C at *
  cases s
  · simp [sg]; omega
  · show decide (-C < 0) = (true && decide (C ≠ 0))
    rw [Bool.true_and, decide_eq_decide]; omega
theorem rat_abs_le (hA : 0 ≤ A) (hB : 0 < B) : ((mkR s A B).num.natAbs : Int) ≤ A := by
  rw [rat_abs hA hB]; exact Int.ediv_le_self _ hA
theorem rat_den_le (hA : 0 ≤ A) (hB : 0 < B) : ((mkR s A B).den : Int) ≤ B := by
  rw [rat_den hA hB]; exact Int.ediv_le_self _ (Int.le_of_lt hB)
end
theorem rat_eq (p q : Rat) : p = q ↔ p.num * (q.den : Int) = q.num * (p.den : Int) := Rat.eq_iff_mul_eq_mul
end Go.Proofs.YtceecgklgkiffaaGreatDoor

/- Rational numbers as they come, num by den: their order and their sums. -/
namespace Go.Proofs.YtceecgklgkiffaaGreatDoor
open Na
set_option linter.unusedVariables false
theorem mkR_cross (s : Bool) {A B : Int} (hA : 0 ≤ A) (hB : 0 < B) : (mkR s A B).num * B = sg s A * ((mkR s A B).den : Int) := by
  have hg : 0 < (Int.gcd A B : Int) := by
    have : Int.gcd A B ≠ 0 := by
      intro e
      rw [Int.gcd_eq_zero_iff] at e
      omega
    omega
  have e1 := rat_num (s := s) hA hB
  have e2 := rat_den (s := s) hA hB
  rw [e1, e2]
  have dA : A / (Int.gcd A B : Int) * (Int.gcd A B : Int) = A := Int.ediv_mul_cancel (Int.gcd_dvd_left ..)
  have dB : B / (Int.gcd A B : Int) * (Int.gcd A B : Int) = B := Int.ediv_mul_cancel (Int.gcd_dvd_right ..)
  generalize (Int.gcd A B : Int) = g at *
  generalize A / g = a at *
  generalize B / g = b at *
  subst dA dB
  have c : a * (b * g) = a * g * b := by rw [Int.mul_comm b g, Int.mul_assoc]
  cases s
  · rw [sg_false, sg_false]; exact c
  · rw [sg_true, sg_true, Int.neg_mul, Int.neg_mul, c]
theorem mk_cross2 {s s' : Bool} {A B A' B' : Int} (hA : 0 ≤ A) (hB : 0 < B) (hA' : 0 ≤ A') (hB' : 0 < B') :
    (mkR s A B).num * ((mkR s' A' B').den : Int) * (B * B') = sg s A * B' * (((mkR s A B).den : Int) * ((mkR s' A' B').den : Int)) := by
  have h := mkR_cross s hA hB
  generalize (mkR s A B).num = n at *
  generalize ((mkR s A B).den : Int) = d at *
  generalize ((mkR s' A' B').den : Int) = d' at *
  have e1 : n * d' * (B * B') = n * B * (d' * B') := by rw [Int.mul_assoc, Int.mul_left_comm d', ← Int.mul_assoc]
  have e2 : sg s A * B' * (d * d') = sg s A * d * (d' * B') := by
    rw [Int.mul_assoc, Int.mul_left_comm B', Int.mul_comm B', ← Int.mul_assoc]
  rw [e1, e2, h]
theorem mk_eq {s s' : Bool} {A B A' B' : Int} (hA : 0 ≤ A) (hB : 0 < B) (hA' : 0 ≤ A') (hB' : 0 < B') : mkR s A B = mkR s' A' B' ↔ sg s A * B' = sg s' A' * B := by
  rw [rat_eq]
  have h1 := mk_cross2 (s := s) (s' := s') hA hB hA' hB'
  have h2 := mk_cross2 (s := s') (s' := s) hA' hB' hA hB
  have p1 := den_pos (mkR s A B)
  have p2 := den_pos (mkR s' A' B')
  have q1 : 0 < B * B' := Int.mul_pos hB hB'
  have q2 : 0 < ((mkR s A B).den : Int) * ((mkR s' A' B').den : Int) := Int.mul_pos p1 p2
  rw [Int.mul_comm B' B, Int.mul_comm ((mkR s' A' B').den : Int)] at h2
  have l : ∀ x y k : Int, 0 < k → (x * k = y * k ↔ x = y) := fun x y k hk => ⟨fun h => Int.eq_of_mul_eq_mul_right (by omega) h, fun h => by rw [h]⟩
  rw [← l _ _ _ q1, h1, h2, l _ _ _ q2]
end Go.Proofs.YtceecgklgkiffaaGreatDoor


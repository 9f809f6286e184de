/- plumblaw07: exact. -/
import Derived.Test.YtceecgklgkiffaaGreatDoorNearF
import Derived.Test.YtceecgklgkiffaaGreatDoorRatF
import Derived.Test.YtceecgklgkiffaaGreatDoorNearRat
namespace Go.Proofs.YtceecgklgkiffaaGreatDoor
open Go.ChangeShapes Go.WideShapes Go.ChangeAt Go.RowKit
open Na Ar
set_option linter.unusedVariables false
def eNum (xs : List Int) : Int := num (xs.take 60)
def eDen (ys : List Int) : Int := if num (ys.take 60) = 0 then 1 else num (ys.take 60)
theorem eNum_lt {xs : List Int} (h : Ws xs) : Lt (eNum xs) 60 := by
  have := num_bd (h.take 60)
  refine ⟨num_nonneg (h.take 60), Int.lt_of_lt_of_le this (wpow_mono (by rw [List.length_take]; omega))⟩
theorem eDen_lt {ys : List Int} (h : Ws ys) : Lt (eDen ys) 60 ∧ 0 < eDen ys := by
  have h1 : Lt (num (ys.take 60)) 60 := eNum_lt h
  unfold eDen
  by_cases hz : num (ys.take 60) = 0
  · rw [if_pos hz]; exact ⟨(Lt.word (x := 1) (by omega)).mono (by omega), by omega⟩
  · rw [if_neg hz]; exact ⟨h1, by have := h1.1; omega⟩
theorem GrVar.inn {w w' : World} {g : Nat} (h : GrVar w) (hi : In g (g + 1) w w') (hne : ¬ 0 = g) : GrVar w' := by
  have hl := h.lt
  have hbk := hi.block 0 hl (by omega)
  have hc : ∀ i, w'.cell? ⟨0, i, none⟩ = w.cell? ⟨0, i, none⟩ := fun i => by unfold World.cell?; simp only [hbk]
  unfold GrVar at *
  simp only [hc]
  exact h
theorem off_old {w : World} {a : Option Addr} {n c g : Nat} {xs : List Int} (h : RowC w a n c xs) (hg : w.heap.size ≤ g) : 0 < n → Off a g := fun hn b off e => by
  obtain ⟨b', o', e', hb, _⟩ := h.1.at hn
  rw [e'] at e
  simp only [Option.some.injEq, Addr.mk.injEq] at e
  omega
theorem off_own {w : World} {base n c : Nat} {e : TypeId} {a : Option Addr} {xs : List Int} (h : Own .u64 w base e (.slice a n c) xs) {g : Nat} (hg : g < base) : 0 < n → Off a g := fun _ b off e' => by
  subst e'
  have := own_blk h (g := b) rfl
  omega
theorem st_three7 (w : World) (x y z x' y' z' x'' y'' z'' : Value) (t t' t'' : TypeId) : St (((w.alloc (.cells #[x, y, z] t)).alloc (.cells #[x', y', z'] t')).alloc (.cells #[x'', y'', z''] t'')) w.heap.size t x y z ∧ St (((w.alloc (.cells #[x, y, z] t)).alloc (.cells #[x', y', z'] t')).alloc (.cells #[x'', y'', z''] t'')) (w.heap.size + 1) t' x' y' z' ∧ St (((w.alloc (.cells #[x, y, z] t)).alloc (.cells #[x', y', z'] t')).alloc (.cells #[x'', y'', z''] t'')) (w.heap.size + 2) t'' x'' y'' z'' ∧ Below w.heap.size w (((w.alloc (.cells #[x, y, z] t)).alloc (.cells #[x', y', z'] t')).alloc (.cells #[x'', y'', z''] t'')) := by
  have b1 := alloc_below (w := w) (.cells #[x, y, z] t)
  have b2 := alloc_below (w := w.alloc (.cells #[x, y, z] t)) (.cells #[x', y', z'] t')
  have b3 := alloc_below (w := (w.alloc (.cells #[x, y, z] t)).alloc (.cells #[x', y', z'] t')) (.cells #[x'', y'', z''] t'')
  have s1 := ((st_new w x y z t).later b2).later b3
  have s2 := (st_new (w.alloc (.cells #[x, y, z] t)) x' y' z' t').later b3
  have s3 := st_new ((w.alloc (.cells #[x, y, z] t)).alloc (.cells #[x', y', z'] t')) x'' y'' z'' t''
  have e1 : (w.alloc (.cells #[x, y, z] t)).heap.size = w.heap.size + 1 := by simp
  have e2 : ((w.alloc (.cells #[x, y, z] t)).alloc (.cells #[x', y', z'] t')).heap.size = w.heap.size + 2 := by simp
  rw [e1] at s2
  rw [e2] at s3
  exact ⟨s1, s2, s3, (b1.trans (b2.mono b1.size)).trans (b3.mono (Nat.le_trans b1.size b2.size))⟩
theorem ref_cmp_nil {w : World} {a : Option Addr} {n c : Nat} {xs : List Int} (h : RowC w a n c xs) (hx : Ws xs) (hn : n ≤ 4000000) {B : Bool} (hB : (decide (num xs = 0)) = B) :
    Calls Tryz.prog 15 #[.slice a n c, .slice none 0 0] w fun e w' => ∃ C : Int, e = .returned (.int .i64 C) ∧ (C == 0) = B ∧ Below w.heap.size w w' := by
  have hnil : RowC w none 0 0 [] := ⟨⟨rfl, Or.inl rfl⟩, Nat.le_refl _, Nat.zero_le _⟩
  have h0 : num [] = 0 := by simp [num, val]
  refine (natCmp_any h hnil hx (Dg.nil _) hn (by omega)).mono ?_
  rintro e w' ⟨rfl, hb⟩
  refine ⟨_, rfl, ?_, hb⟩
  rw [← hB, h0, Bool.eq_iff_iff]
  have p := num_nonneg hx
  simp only [beq_iff_eq, decide_eq_true_eq]
  unfold ordN
  constructor
  · intro q
    apply Decidable.byContradiction
    intro hc
    rw [if_neg (by omega), if_pos (by omega)] at q
    cases q
  · intro q; rw [q]; rfl
end Go.Proofs.YtceecgklgkiffaaGreatDoor

/- package nat: Norm, From, Word. -/
import Derived.Test.YtbdljmboilapeaaNatCopy
import Derived.Test.YtbdljmboilapeaaLens
import Derived.Test.YtbdljmboilapeaaLawTold
import Derived.Laws.IdiomRangeMap
namespace Go.Proofs.Ytbdljmboilapeaa
open Go.ChangeShapes Go.WideShapes Go.ChangeAt Go.RowKit
open Na
set_option linter.unusedVariables false

/-- Norm, with the block that it has made -/
theorem norm_any {a : Option Addr} {n cap : Nat} {xs : List Int} {w : World} (hrow : RowC w a n cap xs) (hx : Ws xs) (hn : n ≤ 4000000) :
    Calls Try.prog 14 #[.slice a n cap] w fun e w' => ∃ g, e = .returned (.slice (some ⟨g, 0, none⟩) (words (num xs)).length (words (num xs)).length) ∧ Own .u64 w' w.heap.size 36 (.slice (some ⟨g, 0, none⟩) (words (num xs)).length (words (num xs)).length) (words (num xs)) ∧ Below w.heap.size w w' := by
  obtain ⟨i_u64, hi_u64, hz0_u64, hz1_u64, hz2_u64⟩ := info_parts info_u64
  have hsz : (Try.prog.info? 36).map (·.size) = some 1 := by rw [hi_u64]; simp [hz1_u64]
  go_enter Try.func14, Try.ntmps14
  go_wp2_with fail
  refine (trim_any hrow hx hn).mono ?_
  rintro e w' ⟨rfl, hr, ht, hl, rfl⟩
  obtain ⟨ps, hps⟩ : ∃ ps, ps = words (num xs) := ⟨_, rfl⟩
  rw [← hps] at hr hl ⊢
  have HP : Hid (words (num xs) = ps) := hps.symm
  obtain ⟨m, hm⟩ : ∃ m, m = ps.length := ⟨_, rfl⟩
  rw [← hm] at hr hl ⊢
  have HM : Hid (m = ps.length) := hm
  clear hrow ht hm hps
  go_wp2_with (at_make; refine wpList_make_full _ rfl _ _ 22 rfl w.heap.size 36 i_u64 (.int .u64 0) 1 Try.underlying22 hi_u64 hz0_u64 hz1_u64 .i64 .i64 _ _ m rfl rfl (by omega) (by omega) (by rw [hz2_u64]; omega) (by unfold maxLen; omega) (Nat.le_refl _) ?_)
  intro w3 hmade hgr
  have hown := own_zeros hmade
  have hb3 : Below w.heap.size w w3 := (Below.refl _ _).grown hgr (Nat.le_refl _) (fun k hk => by cases hk)
  have hr3 := hr.1.later hb3
  clear hmade hgr hr
  have hz : Hid (m = (List.replicate m (0 : Int)).length) := by show _ = _; simp
  go_wp2_with (refine copy_own rfl _ _ 22 22 rfl 36 Try.underlying22 hsz w.heap.size 0 m m m m w.heap.size 36 _ ps hown hz.out _ m _ hr3 rfl rfl (Nat.le_refl _) (by omega) ?_)
  intro w4 hown4 hb4
  have e : over (List.replicate m (0 : Int)) ps 0 = ps := by
    unfold over; rw [← HM.out]; simp
  rw [e] at hown4
  have hbb := hb3.trans hb4
  clear hown hr3 hz hb3 hb4 e
  go_wp2
  go_ret
  exact ⟨_, by rw [HP.out, ← HM.out]; rfl, by rw [HP.out, ← HM.out]; exact hown4, hbb⟩
theorem natNorm_any {a : Option Addr} {n cap : Nat} {xs : List Int} {w : World} (hrow : RowC w a n cap xs) (hx : Ws xs) (hn : n ≤ 4000000) :
    Calls Try.prog 14 #[.slice a n cap] w fun e w' => ∃ v, e = .returned v ∧ Own .u64 w' w.heap.size 36 v (Na.words (num xs)) ∧ Below w.heap.size w w' := by
  refine (norm_any hrow hx hn).mono ?_
  rintro e w' ⟨g, rfl, ho, hb⟩
  exact ⟨_, rfl, ho, hb⟩


end Go.Proofs.Ytbdljmboilapeaa

/- package nat: Norm, From, Word. -/
import Derived.Test.YtbdljmboilapeabNatCopy
import Derived.Test.YtbdljmboilapeabLens
import Derived.Test.YtbdljmboilapeabLawTold
import Derived.Laws.IdiomRangeMap
namespace Go.Proofs.Ytbdljmboilapeab
open Go.ChangeShapes Go.WideShapes Go.ChangeAt Go.RowKit
open Na
set_option linter.unusedVariables false

/-- Norm, with the block that it has made -/
theorem norm_any {a : Option Addr} {n cap : Nat} {xs : List Int} {w : World} (hrow : RowC w a n cap xs) (hx : Ws xs) (hn : n ≤ 4000000) :
    Calls Try.prog 31 #[.slice a n cap] w fun e w' => ∃ g, e = .returned (.slice (some ⟨g, 0, none⟩) (words (num xs)).length (words (num xs)).length) ∧ Own .u64 w' w.heap.size 47 (.slice (some ⟨g, 0, none⟩) (words (num xs)).length (words (num xs)).length) (words (num xs)) ∧ Below w.heap.size w w' := by
  obtain ⟨i_u64, hi_u64, hz0_u64, hz1_u64, hz2_u64⟩ := info_parts info_u64
  have hsz : (Try.prog.info? 47).map (·.size) = some 1 := by rw [hi_u64]; simp [hz1_u64]
  go_enter Try.func31, Try.ntmps31
  go_wp2_with fail
  refine (trim_any hrow hx hn).mono ?_
  rintro e w' ⟨rfl, hr, ht, hl, rfl⟩
  obtain ⟨ps, hps⟩ : ∃ ps, ps = words (num xs) := ⟨_, rfl⟩
  rw [← hps] at hr hl ⊢
  have HP : Hid (words (num xs) = ps) := hps.symm
  obtain ⟨m, hm⟩ : ∃ m, m = ps.length := ⟨_, rfl⟩
  rw [← hm] at hr hl ⊢
  have HM : Hid (m = ps.length) := hm
  clear hrow ht hm hps
  go_wp2_with (at_make; refine wpList_make_full _ rfl _ _ 22 rfl w.heap.size 47 i_u64 (.int .u64 0) 1 Try.underlying22 hi_u64 hz0_u64 hz1_u64 .i64 .i64 _ _ m rfl rfl (by omega) (by omega) (by rw [hz2_u64]; omega) (by unfold maxLen; omega) (Nat.le_refl _) ?_)
  intro w3 hmade hgr
  have hown := own_zeros hmade
  have hb3 : Below w.heap.size w w3 := (Below.refl _ _).grown hgr (Nat.le_refl _) (fun k hk => by cases hk)
  have hr3 := hr.1.later hb3
  clear hmade hgr hr
  have hz : Hid (m = (List.replicate m (0 : Int)).length) := by show _ = _; simp
  go_wp2_with (refine copy_own rfl _ _ 22 22 rfl 47 Try.underlying22 hsz w.heap.size 0 m m m m w.heap.size 47 _ ps hown hz.out _ m _ hr3 rfl rfl (Nat.le_refl _) (by omega) ?_)
  intro w4 hown4 hb4
  have e : over (List.replicate m (0 : Int)) ps 0 = ps := by
    unfold over; rw [← HM.out]; simp
  rw [e] at hown4
  have hbb := hb3.trans hb4
  clear hown hr3 hz hb3 hb4 e
  go_wp2
  go_ret
  exact ⟨_, by rw [HP.out, ← HM.out]; rfl, by rw [HP.out, ← HM.out]; exact hown4, hbb⟩
theorem natNorm_any {a : Option Addr} {n cap : Nat} {xs : List Int} {w : World} (hrow : RowC w a n cap xs) (hx : Ws xs) (hn : n ≤ 4000000) :
    Calls Try.prog 31 #[.slice a n cap] w fun e w' => ∃ v, e = .returned v ∧ Own .u64 w' w.heap.size 47 v (Na.words (num xs)) ∧ Below w.heap.size w w' := by
  refine (norm_any hrow hx hn).mono ?_
  rintro e w' ⟨g, rfl, ho, hb⟩
  exact ⟨_, rfl, ho, hb⟩

theorem natFrom_any {v : Int} (hv : 0 ≤ v ∧ v < 18446744073709551616) (w : World) :
    Calls Try.prog 37 #[.int .u64 v] w fun e w' => ∃ r, e = .returned r ∧ Own .u64 w' w.heap.size 47 r (Na.words v) ∧ Below w.heap.size w w' := by
  have hd : Ws [v] := Dg.one hv
  have hnum : num [v] = v := by simp [num, val]
  have hown : Own .u64 (w.alloc (.cells #[.int .u64 v] 47)) w.heap.size 47 (.slice (some ⟨w.heap.size, 0, none⟩) [v].length 1) [v] := by
    refine ⟨rfl, Or.inr ⟨w.heap.size, 1, #[.int .u64 v], rfl, Nat.le_refl _, ?_, Nat.le_refl _, by decide, rfl, rfl⟩⟩
    exact heap_alloc_new _ _
  obtain ⟨a2, c2, hv2, hrc⟩ := hown.readsC
  simp only [Value.slice.injEq] at hv2
  obtain ⟨ha, _, hc⟩ := hv2
  rw [← ha, ← hc] at hrc
  clear ha hc
  have hcut := fun (m : Nat) (h : m ≤ [v].length) => hown.cut h
  have hb0 := alloc_below (w := w) (.cells #[.int .u64 v] 47)
  go_enter Try.func37, Try.ntmps37
  go_wp2_with fail
  refine (trim_any hrc hd (by simp)).mono ?_
  rintro e w' ⟨rfl, hr, ht, hl, rfl⟩
  have ho := hcut _ hl
  rw [ht] at ho
  rw [hnum] at ho ⊢
  clear hr hrc hcut ht hl hown
  go_wp2
  go_ret
  exact ⟨_, rfl, ho, hb0⟩

theorem natWord_any {a : Option Addr} {n cap : Nat} {xs : List Int} {w : World} (hrow : RowC w a n cap xs) (hx : Ws xs) (hn : n ≤ 4000000) :
    Calls Try.prog 35 #[.slice a n cap] w fun e w' => e = .returned (.tuple #[.int .u64 (wordV (num xs)), .bool (wordB (num xs))]) ∧ Below w.heap.size w w' := by
  have p := num_nonneg hx
  have ht := trim_any hrow hx hn
  clear hrow
  rcases words_cases p with ⟨h0, hw⟩ | ⟨h1, h2, hw⟩ | ⟨h1, hw⟩
  · have E1 : Hid (0 = wordV (num xs)) := by show _ = _; rw [h0]; rfl
    have E2 : Hid (true = wordB (num xs)) := by show _ = _; rw [h0]; rfl
    clear h0
    rw [hw] at ht
    go_enter Try.func35, Try.ntmps35
    go_wp2_with fail
    refine ht.mono ?_
    rintro e w' ⟨rfl, hr, _, hl, rfl⟩
    clear hr hl ht p
    go_wp2
    go_ret2
    exact ⟨ret_ib E1.out E2.out, Below.refl _ _⟩
  · have E1 : Hid (num xs = wordV (num xs)) := by show _ = _; unfold wordV; rw [if_pos h2]
    have E2 : Hid (true = wordB (num xs)) := by show _ = _; unfold wordB; rw [decide_eq_true h2]
    clear h1 h2
    rw [hw] at ht
    go_enter Try.func35, Try.ntmps35
    go_wp2_with fail
    refine ht.mono ?_
    rintro e w' ⟨rfl, hr, _, hl, rfl⟩
    obtain ⟨b, off, rfl, _, hc⟩ := hr.1.at (by simp)
    have hcx : w.cell? ⟨b, off, none⟩ = some (.int .u64 (num xs)) := by have := hc 0 (by simp); simpa using this
    clear hr hl ht p hc
    go_wp2
    go_ret2
    exact ⟨ret_ib E1.out E2.out, Below.refl _ _⟩
  · have hge : ¬ num xs < 18446744073709551616 := by omega
    have E1 : Hid (0 = wordV (num xs)) := by show _ = _; unfold wordV; rw [if_neg hge]
    have E2 : Hid (false = wordB (num xs)) := by show _ = _; unfold wordB; rw [decide_eq_false hge]
    clear h1 hge
    go_enter Try.func35, Try.ntmps35
    go_wp2_with fail
    refine ht.mono ?_
    rintro e w' ⟨rfl, hr, _, hl, rfl⟩
    generalize (words (num xs)).length = L at *
    have t2 : 1 < (L : Int) := by omega
    clear hr ht p
    go_wp2
    go_ret2
    exact ⟨ret_ib E1.out E2.out, Below.refl _ _⟩
end Go.Proofs.Ytbdljmboilapeab

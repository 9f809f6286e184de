/- plumblaw04.room: a copy with two words behind it. -/
import Derived.Test.YtmenhfnakcdnnabDoorRadixLimb
namespace Go.Proofs.YtmenhfnakcdnnabDoor
open Go.ChangeShapes Go.WideShapes Go.ChangeAt Go.RowKit
open Na Ar
set_option linter.unusedVariables false
theorem row_news4 {w : World} {b off n : Nat} {xs : List Int} (hl : xs.length = n) (hc : ∀ i, i < n → w.cell? ⟨b, off + i, none⟩ = some (.int .u64 (xs.getD i 0))) : ∀ j u, (xs.map (Value.int .u64))[j]? = some u → w.cell? ((⟨b, off, none⟩ : Addr).add j) = some u := by
  intro j u hj
  have hjl : j < xs.length := by
    by_cases q : j < xs.length
    · exact q
    · rw [List.getElem?_eq_none (by simp; omega)] at hj; simp at hj
  have ea : (⟨b, off, none⟩ : Addr).add j = ⟨b, off + j, none⟩ := by
    unfold Addr.add
    by_cases hi0 : j = 0
    · subst hi0; simp
    · simp [hi0]
  rw [ea, hc j (by omega), ← hj]
  simp [List.getElem?_eq_getElem hjl, List.getD_eq_getElem?_getD]
theorem ints_one4 {xs : List Int} : ∀ u ∈ xs.map (Value.int .u64), u.oneCell' = true := by
  intro u hu
  simp only [List.mem_map] at hu
  obtain ⟨x, _, rfl⟩ := hu
  rfl
theorem own_more4 {w1 : World} {base : Nat} {e : TypeId} {v : Value} {n m : Nat} {xs ys : List Int} (h : w1.ownsRow base e 1 v (n + m) (xs.map (Value.int .u64) ++ ys.map (Value.int .u64))) (hn : n = xs.length) (hm : m = ys.length) : Own .u64 w1 base e v (xs ++ ys) := by
  subst hn hm; unfold Own; rw [List.map_append, List.length_append]; exact h
/-- an empty list, built -/
theorem own_empty (w : World) (e : TypeId) : Own .u64 (w.alloc (.cells #[] e)) w.heap.size e (.slice (some ⟨w.heap.size, 0, none⟩) 0 0) [] := by
  refine ⟨rfl, Or.inr ⟨w.heap.size, 0, #[], rfl, Nat.le_refl _, heap_alloc_new _ _, Nat.le_refl _, Nat.zero_le _, by simp, by simp⟩⟩
set_option maxHeartbeats 1600000 in
set_option maxRecDepth 100000 in
theorem room_any {a : Option Addr} {n cap : Nat} {xs : List Int} {w : World} (hrow : RowAt .u64 w a n xs) (hn : n ≤ 3000000) (hp : 0 < n) :
    Calls Tryd.prog 26 #[.slice a n cap] w fun e w' => ∃ v, e = .returned v ∧ Own .u64 w' w.heap.size 35 v (xs ++ [42405, 42406]) ∧ Below w.heap.size w w' := by
  obtain ⟨i_u64, hi_u64, hz0_u64, hz1_u64, hz2_u64⟩ := info_parts info_u64
  have hlen := hrow.1
  have hba : Below w.heap.size w (w.alloc (.cells #[] 35)) := (Below.refl _ _).alloc (Nat.le_refl _) _
  have hra := hrow.later hba
  obtain ⟨b, off, rfl, hbB, hc⟩ := hra.at hp
  have hnews := row_news4 hlen hc
  go_enter Tryd.func26, Tryd.ntmps26
  go_wp2_with (at_builtin; refine wpList_append_own _ rfl _ _ 22 rfl w.heap.size 35 i_u64 (.int .u64 0) 1 8 Tryd.underlying22 hi_u64 hz0_u64 hz1_u64 hz2_u64 rfl (by decide) _ 0 [] rfl (own_empty w 35) ⟨b, off, none⟩ n cap (xs.map (Value.int .u64)) rfl (by rw [List.length_map, hlen, Nat.mul_one]) hnews ints_one4 (by unfold maxLen; omega) (by omega) (by simp) ?_)
  intro v1 w1 hown hgrow _
  have h1 : Own .u64 w1 w.heap.size 35 v1 xs := by
    unfold Own; rw [hlen]; exact hown
  have hb1 : Below w.heap.size w w1 := hba.grown hgrow (by simp) (fun k hk => by simp [Value.ownBlock] at hk; omega)
  clear hown hgrow hnews hc hrow hra hba
  go_wp2_with (at_builtin; refine wpList_append_own _ rfl _ _ 22 rfl w.heap.size 35 i_u64 (.int .u64 0) 1 8 Tryd.underlying22 hi_u64 hz0_u64 hz1_u64 hz2_u64 rfl (by decide) _ _ _ rfl (h1.row.alloc _) ⟨w1.heap.size, 0, none⟩ 2 2 [.int .u64 42405, .int .u64 42406] rfl rfl two_new two_cell (by unfold maxLen; omega) (by omega) (by simp; have := hb1.size; omega) ?_)
  intro v2 w2 hown2 hgrow2 _
  have hb2 := grow_below hb1.size h1.row hb1 hgrow2
  have h2 := own_more4 (ys := [42405, 42406]) hown2 hlen.symm rfl
  clear hown2 hgrow2 h1 hb1
  go_wp2
  go_ret
  exact ⟨_, rfl, h2, hb2⟩
set_option maxHeartbeats 1600000 in
set_option maxRecDepth 100000 in
theorem roomZero_any {a : Option Addr} {cap : Nat} {w : World} :
    Calls Tryd.prog 26 #[.slice a 0 cap] w fun e w' => ∃ v, e = .returned v ∧ Own .u64 w' w.heap.size 35 v [42405, 42406] ∧ Below w.heap.size w w' := by
  obtain ⟨i_u64, hi_u64, hz0_u64, hz1_u64, hz2_u64⟩ := info_parts info_u64
  have hba : Below w.heap.size w (w.alloc (.cells #[] 35)) := (Below.refl _ _).alloc (Nat.le_refl _) _
  have h1 := own_empty w 35
  have hsz : (w.alloc (.cells #[] 35)).heap.size = w.heap.size + 1 := by simp
  cases a with
  | none =>
    go_enter Tryd.func26, Tryd.ntmps26
    go_wp2_with (at_builtin; refine wpList_append_own _ rfl _ _ 22 rfl w.heap.size 35 i_u64 (.int .u64 0) 1 8 Tryd.underlying22 hi_u64 hz0_u64 hz1_u64 hz2_u64 rfl (by decide) _ 0 [] rfl (h1.row.alloc _) ⟨w.heap.size + 1, 0, none⟩ 2 2 [.int .u64 42405, .int .u64 42406] rfl rfl (by rw [← hsz]; exact two_new) two_cell (by unfold maxLen; omega) (by omega) (by simp; omega) ?_)
    intro v2 w2 hown2 hgrow2 _
    have hb2 := grow_below hba.size h1.row hba hgrow2
    have h2 := own_more4 (xs := []) (ys := [42405, 42406]) hown2 rfl rfl
    clear hown2 hgrow2
    go_wp2
    go_ret
    exact ⟨_, rfl, h2, hb2⟩
  | some ad =>
    go_enter Tryd.func26, Tryd.ntmps26
    go_wp2_with (at_builtin; refine wpList_append_own _ rfl _ _ 22 rfl w.heap.size 35 i_u64 (.int .u64 0) 1 8 Tryd.underlying22 hi_u64 hz0_u64 hz1_u64 hz2_u64 rfl (by decide) _ 0 [] rfl (h1.row.alloc _) ⟨w.heap.size + 1, 0, none⟩ 2 2 [.int .u64 42405, .int .u64 42406] rfl rfl (by rw [← hsz]; exact two_new) two_cell (by unfold maxLen; omega) (by omega) (by simp; omega) ?_)
    intro v2 w2 hown2 hgrow2 _
    have hb2 := grow_below hba.size h1.row hba hgrow2
    have h2 := own_more4 (xs := []) (ys := [42405, 42406]) hown2 rfl rfl
    clear hown2 hgrow2
    go_wp2
    go_ret
    exact ⟨_, rfl, h2, hb2⟩
theorem roomAll_any {a : Option Addr} {n cap : Nat} {xs : List Int} {w : World} (hrow : RowAt .u64 w a n xs) (hn : n ≤ 3000000) :
    Calls Tryd.prog 26 #[.slice a n cap] w fun e w' => ∃ v, e = .returned v ∧ Own .u64 w' w.heap.size 35 v (xs ++ [42405, 42406]) ∧ Below w.heap.size w w' := by
  by_cases hp : 0 < n
  · exact room_any hrow hn hp
  · have h0 : n = 0 := by omega
    subst h0
    have e : xs = [] := List.eq_nil_of_length_eq_zero hrow.1
    rw [e, List.nil_append]
    exact roomZero_any
end Go.Proofs.YtmenhfnakcdnnabDoor

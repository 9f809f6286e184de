/- plumblaw03: lent, kept. -/
import Derived.Test.YtmenhfnakcdnnaaRef3Cmp
namespace Go.Proofs.Ytmenhfnakcdnnaa
open Go.ChangeShapes Go.WideShapes Go.ChangeAt Go.RowKit
open Na Ar
set_option linter.unusedVariables false
theorem row_news {w : World} {b off n : Nat} {xs : List Int} (hl : xs.length = n) (hc : ∀ i, i < n → w.cell? ⟨b, off + i, none⟩ = some (.int .u64 (xs.getD i 0))) : ∀ j u, (xs.map (Value.int .u64))[j]? = some u → w.cell? ((⟨b, off, none⟩ : Addr).add j) = some u := by
  intro j u hj
  have hjl : j < xs.length := by
    by_cases q : j < xs.length
    · exact q
    · rw [List.getElem?_eq_none (by simp; omega)] at hj; simp at hj
  have ea : (⟨b, off, none⟩ : Addr).add j = ⟨b, off + j, none⟩ := by
    unfold Addr.add
    by_cases hi0 : j = 0
    · subst hi0; simp
    · simp [hi0]
  rw [ea, hc j (by omega), ← hj]
  simp [List.getElem?_eq_getElem hjl, List.getD_eq_getElem?_getD]
theorem ints_one {xs : List Int} : ∀ u ∈ xs.map (Value.int .u64), u.oneCell' = true := by
  intro u hu
  simp only [List.mem_map] at hu
  obtain ⟨x, _, rfl⟩ := hu
  rfl
theorem own_more {w1 : World} {base : Nat} {e : TypeId} {v : Value} {n m : Nat} {xs ys : List Int} (h : w1.ownsRow base e 1 v (n + m) (xs.map (Value.int .u64) ++ ys.map (Value.int .u64))) (hn : n = xs.length) (hm : m = ys.length) : Own .u64 w1 base e v (xs ++ ys) := by
  subst hn hm; unfold Own; rw [List.map_append, List.length_append]; exact h
theorem two_new {wr : World} {e : TypeId} {v u : Value} : ∀ j x, ([v, u] : List Value)[j]? = some x → (wr.alloc (.cells #[v, u] e)).cell? ((⟨wr.heap.size, 0, none⟩ : Addr).add j) = some x := by
  intro j x hj
  match j, hj with
  | 0, hj => simp at hj; subst hj; simp [Addr.add]
  | 1, hj => simp at hj; subst hj; simp [Addr.add]
theorem two_cell {k : IntKind} {x y : Int} : ∀ u ∈ [Value.int k x, Value.int k y], u.oneCell' = true := by
  intro u hu
  simp at hu
  rcases hu with rfl | rfl <;> rfl
set_option maxHeartbeats 1600000 in
set_option maxRecDepth 100000 in
theorem lent_any {a : Option Addr} {n cap : Nat} {xs : List Int} {w : World} (hrow : RowAt .u64 w a n xs) (hn : n ≤ 3000000) (hp : 0 < n) :
    Calls Try.prog 7 #[.slice a n cap] w fun e w' => ∃ v, e = .returned v ∧ Own .u64 w' w.heap.size 32 v (xs ++ [7777, 8888]) ∧ Below w.heap.size w w' := by
  obtain ⟨i_u64, hi_u64, hz0_u64, hz1_u64, hz2_u64⟩ := info_parts info_u64
  have hlen := hrow.1
  obtain ⟨b, off, rfl, hbB, hc⟩ := hrow.at hp
  have hnews := row_news hlen hc
  go_enter Try.func7, Try.ntmps7
  go_wp2_with (at_builtin; refine wpList_append_own _ rfl _ _ 22 rfl w.heap.size 32 i_u64 (.int .u64 0) 1 8 Try.underlying22 hi_u64 hz0_u64 hz1_u64 hz2_u64 rfl (by decide) _ 0 [] rfl (own_nil .u64 w w.heap.size 32) ⟨b, off, none⟩ n cap (xs.map (Value.int .u64)) rfl (by rw [List.length_map, hlen, Nat.mul_one]) hnews ints_one (by unfold maxLen; omega) (by omega) (Nat.le_refl _) ?_)
  intro v1 w1 hown hgrow _
  have h1 : Own .u64 w1 w.heap.size 32 v1 xs := by
    unfold Own; rw [hlen]; exact hown
  have hb1 : Below w.heap.size w w1 := (Below.refl _ _).grown hgrow (Nat.le_refl _) (fun k hk => by cases hk)
  clear hown hgrow hnews hc hrow
  go_wp2_with (at_builtin; refine wpList_append_own _ rfl _ _ 22 rfl w.heap.size 32 i_u64 (.int .u64 0) 1 8 Try.underlying22 hi_u64 hz0_u64 hz1_u64 hz2_u64 rfl (by decide) _ _ _ rfl (h1.row.alloc _) ⟨w1.heap.size, 0, none⟩ 2 2 [.int .u64 7777, .int .u64 8888] rfl rfl two_new two_cell (by unfold maxLen; omega) (by omega) (by simp; have := hb1.size; omega) ?_)
  intro v2 w2 hown2 hgrow2 _
  have hb2 := grow_below hb1.size h1.row hb1 hgrow2
  have h2 := own_more (ys := [7777, 8888]) hown2 hlen.symm rfl
  clear hown2 hgrow2 h1 hb1
  go_wp2
  go_ret
  exact ⟨_, rfl, h2, hb2⟩
set_option maxHeartbeats 1600000 in
set_option maxRecDepth 100000 in
theorem lentZero_any {a : Option Addr} {cap : Nat} {w : World} :
    Calls Try.prog 7 #[.slice a 0 cap] w fun e w' => ∃ v, e = .returned v ∧ Own .u64 w' w.heap.size 32 v [7777, 8888] ∧ Below w.heap.size w w' := by
  obtain ⟨i_u64, hi_u64, hz0_u64, hz1_u64, hz2_u64⟩ := info_parts info_u64
  cases a with
  | none =>
    go_enter Try.func7, Try.ntmps7
    go_wp2_with (at_builtin; refine wpList_append_own _ rfl _ _ 22 rfl w.heap.size 32 i_u64 (.int .u64 0) 1 8 Try.underlying22 hi_u64 hz0_u64 hz1_u64 hz2_u64 rfl (by decide) _ 0 [] rfl ((own_nil .u64 w w.heap.size 32).row.alloc _) ⟨w.heap.size, 0, none⟩ 2 2 [.int .u64 7777, .int .u64 8888] rfl rfl two_new two_cell (by unfold maxLen; omega) (by omega) (by simp) ?_)
    intro v2 w2 hown2 hgrow2 _
    have hb2 := grow_below (Nat.le_refl _) (own_nil .u64 w w.heap.size 32).row (Below.refl _ _) hgrow2
    have h2 := own_more (xs := []) (ys := [7777, 8888]) hown2 rfl rfl
    clear hown2 hgrow2
    go_wp2
    go_ret
    exact ⟨_, rfl, h2, hb2⟩
  | some ad =>
    go_enter Try.func7, Try.ntmps7
    go_wp2_with (at_builtin; refine wpList_append_own _ rfl _ _ 22 rfl w.heap.size 32 i_u64 (.int .u64 0) 1 8 Try.underlying22 hi_u64 hz0_u64 hz1_u64 hz2_u64 rfl (by decide) _ 0 [] rfl ((own_nil .u64 w w.heap.size 32).row.alloc _) ⟨w.heap.size, 0, none⟩ 2 2 [.int .u64 7777, .int .u64 8888] rfl rfl two_new two_cell (by unfold maxLen; omega) (by omega) (by simp) ?_)
    intro v2 w2 hown2 hgrow2 _
    have hb2 := grow_below (Nat.le_refl _) (own_nil .u64 w w.heap.size 32).row (Below.refl _ _) hgrow2
    have h2 := own_more (xs := []) (ys := [7777, 8888]) hown2 rfl rfl
    clear hown2 hgrow2
    go_wp2
    go_ret
    exact ⟨_, rfl, h2, hb2⟩
/-- a copy with two marked words behind it -/
theorem lentAll_any {a : Option Addr} {n cap : Nat} {xs : List Int} {w : World} (hrow : RowAt .u64 w a n xs) (hn : n ≤ 3000000) :
    Calls Try.prog 7 #[.slice a n cap] w fun e w' => ∃ v, e = .returned v ∧ Own .u64 w' w.heap.size 32 v (xs ++ [7777, 8888]) ∧ Below w.heap.size w w' := by
  by_cases hp : 0 < n
  · exact lent_any hrow hn hp
  · have h0 : n = 0 := by omega
    subst h0
    have e : xs = [] := List.eq_nil_of_length_eq_zero hrow.1
    rw [e, List.nil_append]
    exact lentZero_any
set_option maxHeartbeats 1600000 in
set_option maxRecDepth 100000 in
theorem kept_any {a b : Option Addr} {n c1 c2 : Nat} {xs : List Int} {w : World} (hl : RowC w a (n + 2) c1 (xs ++ [7777, 8888])) (hx : RowC w b n c2 xs) (hn : n ≤ 3000000) :
    Calls Try.prog 12 #[.slice a (n + 2) c1, .slice b n c2] w fun e w' => e = .returned (.bool true) ∧ Below w.heap.size w w' := by
  have hlen := hx.1.1
  have hcut := hl.cut (m := n) (by omega)
  have htk : (xs ++ [7777, 8888]).take n = xs := by rw [List.take_append, List.take_of_length_le (by omega)]; simp [hlen]
  rw [htk] at hcut
  have hs := sameN hcut hx (by omega) (by omega) rfl
  obtain ⟨lb, lo, rfl, hlb, hlc⟩ := hl.1.at (by omega)
  have g0 : (xs ++ [7777, 8888]).getD n 0 = 7777 := by simp [List.getD_eq_getElem?_getD, hlen]
  have g1 : (xs ++ [7777, 8888]).getD (n + 1) 0 = 8888 := by rw [List.getD_eq_getElem?_getD, List.getElem?_append_right (by omega)]; simp [hlen]
  have k0 := hlc n (by omega)
  have k1 := hlc (n + 1) (by omega)
  rw [g0] at k0
  rw [g1] at k1
  have hcap := hl.2.1
  have hk0 := fun (w1 : World) (h : Below w.heap.size w w1) => (h.cell (p := ⟨lb, lo + n, none⟩) hlb).trans k0
  have hk1 := fun (w1 : World) (h : Below w.heap.size w w1) => (h.cell (p := ⟨lb, lo + (n + 1), none⟩) hlb).trans k1
  have i1 : ((n : Int) + 1).toNat = n + 1 := by omega
  clear hlc hl hx hcut htk g0 g1 k0 k1
  go_enter Try.func12, Try.ntmps12
  go_wp2_with fail
  refine hs.mono ?_
  rintro e w2 ⟨rfl, hb2⟩
  have q0 := hk0 w2 hb2
  have q1 := hk1 w2 hb2
  clear hs hk0 hk1
  go_wp2
  go_ret
  exact ⟨rfl, hb2⟩
end Go.Proofs.Ytmenhfnakcdnnaa

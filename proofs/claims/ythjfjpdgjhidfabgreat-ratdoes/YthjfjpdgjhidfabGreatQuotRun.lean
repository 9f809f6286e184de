/- package quot: run. -/
import Derived.Test.YthjfjpdgjhidfabGreatQuotDiff
import Derived.Deep.RegionWith
import Derived.Deep.RegionHeld3
namespace Go.Proofs.YthjfjpdgjhidfabGreat
open Go.ChangeShapes Go.WideShapes Go.ChangeAt Go.RowKit
open Na Ar
set_option linter.unusedVariables false
set_option maxHeartbeats 6400000 in
set_option maxRecDepth 100000 in
theorem run_any {a b : Option Addr} {n m c1 c2 K : Nat} {xs ys : List Int} {ua ub va vb A' B' : Int} {w : World} (hr1 : RowC w a n c1 xs) (hr2 : RowC w b m c2 ys) (hx : Ws xs) (hy : Ws ys) (hn : n ≤ 3800000) (hm : m ≤ 3800000)
    (hua : U ua) (hub : U ub) (hva : U va) (hvb : U vb) (hK : (K : Int) ≤ 4294967296) (hc : Crs K ua ub va vb (num xs) (num ys) A' B') :
    Calls Tryz.prog 100 #[.agg #[.int .i64 (K : Int), .int .u64 ua, .int .u64 ub, .int .u64 va, .int .u64 vb], .slice a n c1, .slice b m c2] w fun e w' => ∃ v1 v2, e = .returned (.tuple #[v1, v2]) ∧ Own .u64 w' w.heap.size 53 v1 (words A') ∧ Own .u64 w' w.heap.size 53 v2 (words B') ∧ Below w.heap.size w w' := by
  have hA := hc.da
  have hB := hc.db
  have n1 := hc.nn
  have n2 := hc.ord
  obtain ⟨w0, hw0⟩ : ∃ w0, w0 = w.alloc (.cells #[.int .i64 (K : Int), .int .u64 ua, .int .u64 ub, .int .u64 va, .int .u64 vb] 97) := ⟨_, rfl⟩
  have hb0 := alloc_below (w := w) (.cells #[.int .i64 (K : Int), .int .u64 ua, .int .u64 ub, .int .u64 va, .int .u64 vb] 97)
  rw [← hw0] at hb0
  have hcl : ∀ w1, Below w0.heap.size w0 w1 → w1.cell? ⟨w.heap.size, 1, none⟩ = some (.int .u64 ua) ∧ w1.cell? ⟨w.heap.size, 2, none⟩ = some (.int .u64 ub) ∧ w1.cell? ⟨w.heap.size, 3, none⟩ = some (.int .u64 va) ∧ w1.cell? ⟨w.heap.size, 4, none⟩ = some (.int .u64 vb) := fun w1 h => by
    have hl : w.heap.size < w0.heap.size := by rw [hw0]; simp
    have e : w1.heap[w.heap.size]? = some (.cells #[.int .i64 (K : Int), .int .u64 ua, .int .u64 ub, .int .u64 va, .int .u64 vb] 97 (0, 0)) := by
      rw [h.block _ hl, hw0]; exact heap_alloc_new _ _
    simp [World.cell?, e]
  obtain ⟨p1, p2, p3, p4⟩ := hcl w0 (Below.refl _ _)
  by_cases hp : K % 2 = 0
  · rw [if_pos hp] at hA hB
    have hd1 : ∀ w1, Below w0.heap.size w0 w1 → Calls Tryz.prog 108 #[.slice a n c1, .int .u64 ua, .slice b m c2, .int .u64 ub] w1 fun e w' => ∃ v, e = .returned v ∧ Own .u64 w' w.heap.size 53 v (words A') ∧ Below w0.heap.size w0 w' ∧ Below w1.heap.size w1 w' := fun w1 h => by
      have hh := hb0.trans (h.mono hb0.size)
      refine (difference_any (p := ua) (q := ub) (hr1.later hh) (hr2.later hh) hx hy hua hub (by omega) (by omega) (by omega)).mono ?_
      rintro e w' ⟨v, rfl, ho, hb⟩
      exact ⟨v, rfl, by rw [hA]; exact ho.wider hh.size, h.trans (hb.mono h.size), hb⟩
    have hd2 : ∀ w1, Below w0.heap.size w0 w1 → Calls Tryz.prog 108 #[.slice b m c2, .int .u64 vb, .slice a n c1, .int .u64 va] w1 fun e w' => ∃ v, e = .returned v ∧ Own .u64 w' w.heap.size 53 v (words B') ∧ Below w0.heap.size w0 w' ∧ Below w1.heap.size w1 w' := fun w1 h => by
      have hh := hb0.trans (h.mono hb0.size)
      refine (difference_any (p := vb) (q := va) (hr2.later hh) (hr1.later hh) hy hx hvb hva (by omega) (by omega) (by omega)).mono ?_
      rintro e w' ⟨v, rfl, ho, hb⟩
      exact ⟨v, rfl, by rw [hB]; exact ho.wider hh.size, h.trans (hb.mono h.size), hb⟩
    have hk : (K : Int) % 2 = 0 := by omega
    clear hA hB hc hr1 hr2 n1 n2 hp
    go_enter Tryz.func100, Tryz.ntmps100
    go_wp2
    rw [← hw0]
    have HB0 := hb0
    have HS := hb0.size
    obtain ⟨g, hg⟩ : ∃ g, g = w.heap.size := ⟨_, rfl⟩
    have HG : Hid (w.heap.size = g) := hg.symm
    rw [← hg] at hcl hd1 hd2 p1 p2 p3 p4 HB0 HS ⊢
    clear hw0 hb0 hg
    go_region_held3 (fun w' => w'.cell? ⟨g, 1, none⟩ = some (.int .u64 ua) ∧ w'.cell? ⟨g, 2, none⟩ = some (.int .u64 ub) ∧ w'.cell? ⟨g, 3, none⟩ = some (.int .u64 va) ∧ w'.cell? ⟨g, 4, none⟩ = some (.int .u64 vb)) (go_keep) (first | (go_at_call_of 108 ua; refine (hd1 _ (by first | exact hB2 | exact below_drewN hB2 _ | exact Below.refl _ _ | exact below_drewN (Below.refl _ _) _)).mono ?_; rintro e wA ⟨v1, rfl, hv1, hB1, hbA⟩; obtain ⟨p1, p2, p3, p4⟩ := hcl wA hB1) | (go_at_call_of 108 va; refine (hd2 _ (by first | exact hB1 | exact below_drewN hB1 _ | exact Below.refl _ _ | exact below_drewN (Below.refl _ _) _)).mono ?_; rintro e wB ⟨v2, rfl, hv2, hB2, hbB⟩; obtain ⟨p1, p2, p3, p4⟩ := hcl wB hB2))
    go_wp2
    go_ret2
    exact ⟨_, _, rfl, by rw [HG.out]; exact hv1.later hbB, by rw [HG.out]; exact hv2, by rw [HG.out]; exact HB0.trans (hB2.mono HS)⟩
  · rw [if_neg hp] at hA hB
    have hd1 : ∀ w1, Below w0.heap.size w0 w1 → Calls Tryz.prog 108 #[.slice b m c2, .int .u64 ub, .slice a n c1, .int .u64 ua] w1 fun e w' => ∃ v, e = .returned v ∧ Own .u64 w' w.heap.size 53 v (words A') ∧ Below w0.heap.size w0 w' ∧ Below w1.heap.size w1 w' := fun w1 h => by
      have hh := hb0.trans (h.mono hb0.size)
      refine (difference_any (p := ub) (q := ua) (hr2.later hh) (hr1.later hh) hy hx hub hua (by omega) (by omega) (by omega)).mono ?_
      rintro e w' ⟨v, rfl, ho, hb⟩
      exact ⟨v, rfl, by rw [hA]; exact ho.wider hh.size, h.trans (hb.mono h.size), hb⟩
    have hd2 : ∀ w1, Below w0.heap.size w0 w1 → Calls Tryz.prog 108 #[.slice a n c1, .int .u64 va, .slice b m c2, .int .u64 vb] w1 fun e w' => ∃ v, e = .returned v ∧ Own .u64 w' w.heap.size 53 v (words B') ∧ Below w0.heap.size w0 w' ∧ Below w1.heap.size w1 w' := fun w1 h => by
      have hh := hb0.trans (h.mono hb0.size)
      refine (difference_any (p := va) (q := vb) (hr1.later hh) (hr2.later hh) hx hy hva hvb (by omega) (by omega) (by omega)).mono ?_
      rintro e w' ⟨v, rfl, ho, hb⟩
      exact ⟨v, rfl, by rw [hB]; exact ho.wider hh.size, h.trans (hb.mono h.size), hb⟩
    have hk : (K : Int) % 2 = 1 := by omega
    clear hA hB hc hr1 hr2 n1 n2 hp
    go_enter Tryz.func100, Tryz.ntmps100
    go_wp2
    rw [← hw0]
    have HB0 := hb0
    have HS := hb0.size
    obtain ⟨g, hg⟩ : ∃ g, g = w.heap.size := ⟨_, rfl⟩
    have HG : Hid (w.heap.size = g) := hg.symm
    rw [← hg] at hcl hd1 hd2 p1 p2 p3 p4 HB0 HS ⊢
    clear hw0 hb0 hg
    go_region_held3 (fun w' => w'.cell? ⟨g, 1, none⟩ = some (.int .u64 ua) ∧ w'.cell? ⟨g, 2, none⟩ = some (.int .u64 ub) ∧ w'.cell? ⟨g, 3, none⟩ = some (.int .u64 va) ∧ w'.cell? ⟨g, 4, none⟩ = some (.int .u64 vb)) (go_keep) (first | (go_at_call_of 108 ua; refine (hd1 _ (by first | exact hB2 | exact below_drewN hB2 _ | exact Below.refl _ _ | exact below_drewN (Below.refl _ _) _)).mono ?_; rintro e wA ⟨v1, rfl, hv1, hB1, hbA⟩; obtain ⟨p1, p2, p3, p4⟩ := hcl wA hB1) | (go_at_call_of 108 va; refine (hd2 _ (by first | exact hB1 | exact below_drewN hB1 _ | exact Below.refl _ _ | exact below_drewN (Below.refl _ _) _)).mono ?_; rintro e wB ⟨v2, rfl, hv2, hB2, hbB⟩; obtain ⟨p1, p2, p3, p4⟩ := hcl wB hB2))
    go_wp2
    go_ret2
    exact ⟨_, _, rfl, by rw [HG.out]; exact hv1.later hbB, by rw [HG.out]; exact hv2, by rw [HG.out]; exact HB0.trans (hB2.mono HS)⟩
end Go.Proofs.YthjfjpdgjhidfabGreat

/- NearScaleds. -/
import Derived.Test.YtildkknpbpdnnaaDoorNearRefD
import Derived.Test.YtildkknpbpdnnaaDoorNearC
import Derived.Test.YtildkknpbpdnnaaDoorBaseH
namespace Go.Proofs.YtildkknpbpdnnaaDoor
open Go.ChangeShapes Go.WideShapes Go.ChangeAt Go.RowKit
open Na Ar
set_option linter.unusedVariables false
theorem num7_any (e : Int) (w : World) : Calls Tryd.prog 11 #[.int .i64 e] w fun r w' => r = .returned (.int .i64 e) ∧ w = w' := by
  go_enter Tryd.func11, Tryd.ntmps11
  go_wp2
  go_ret
  exact ⟨rfl, rfl⟩
/-- what Scaled answers, in any mode and in none -/
def SAns (A B : Int) (more neg : Bool) (k v E : Int) : Prop := (k < 0 ∨ 4 < k → v = 0 ∧ E = 71) ∧ (0 ≤ k → k ≤ 4 → RoundIs A B more neg k v E)
theorem sAns_uniq {A B k v E v' E' : Int} {more neg : Bool} (hB : 0 < B) (h : SAns A B more neg k v E) (h' : SAns A B more neg k v' E') : v = v' ∧ E = E' := by
  by_cases hk : 0 ≤ k ∧ k ≤ 4
  · exact roundIs_uniq hB (h.2 hk.1 hk.2) (h'.2 hk.1 hk.2)
  · obtain ⟨a1, a2⟩ := h.1 (by omega)
    obtain ⟨b1, b2⟩ := h'.1 (by omega)
    omega
theorem sBad {A B k : Int} {more neg : Bool} (h : k < 0 ∨ 4 < k) : SAns A B more neg k 0 71 := ⟨fun _ => ⟨rfl, rfl⟩, fun h0 h1 => by omega⟩
theorem sGood {A B k v E : Int} {more neg : Bool} (h0 : 0 ≤ k) (h1 : k ≤ 4) (h : RoundIs A B more neg k v E) : SAns A B more neg k v E := ⟨fun h => by omega, fun _ _ => h⟩
theorem near_sc {w : World} {a : Option Addr} {n c : Nat} {xs : List Int} (hr : RowC w a n c xs) (hx : Ws xs) (hn : n ≤ 4000000) {x : Int} (x0 : -9223372036854775808 ≤ x) (x1 : x ≤ 9223372036854775807) {neg more : Bool} (hG : GrVar w) (k : Int) :
    Calls Tryd.prog 9 #[.bool neg, .slice a n c, .int .i64 x, .bool more, .int .i64 k] w fun e w' => ∃ v E, e = .returned (.tuple #[.int .u64 v, .int .i64 E]) ∧ SAns (scA (num xs) x) (scB 1 x) more neg k v E ∧ U v ∧ Below w.heap.size w w' := by
  by_cases hk : 0 ≤ k ∧ k ≤ 4
  · refine (scaled_go hr hx hn x0 x1 hk.1 hk.2 hG).mono ?_
    rintro e w' ⟨v, E, rfl, h, u, b⟩
    exact ⟨v, E, rfl, sGood hk.1 hk.2 h, u, b⟩
  · have hk' : k < 0 ∨ 4 < k := by omega
    refine (scaled_bad hk').mono ?_
    rintro e w' ⟨rfl, b⟩
    exact ⟨0, 71, rfl, sBad hk', by unfold U; omega, b⟩
theorem ref_sc {w : World} {a : Option Addr} {n c : Nat} {xs : List Int} (hr : RowC w a n c xs) (hx : Ws xs) (hn : n ≤ 1050000) {x : Int} (x0 : -9223372036854775808 ≤ x) (x1 : x ≤ 9223372036854775807) {neg more : Bool} (k : Int) :
    Calls Tryd.prog 10 #[.bool neg, .slice a n c, .int .i64 x, .bool more, .int .i64 k] w fun e w' => ∃ v E, e = .returned (.tuple #[.int .u64 v, .int .i64 E]) ∧ SAns (scA (num xs) x) (scB 1 x) more neg k v E ∧ U v ∧ Below w.heap.size w w' := by
  by_cases hk : 0 ≤ k ∧ k ≤ 4
  · refine (r7Scaled_any hr hx hn x0 x1 hk.1 hk.2).mono ?_
    rintro e w' ⟨v, E, rfl, h, u, b⟩
    exact ⟨v, E, rfl, sGood hk.1 hk.2 h, u, b⟩
  · have hk' : k < 0 ∨ 4 < k := by omega
    refine (r7Scaled_bad hk').mono ?_
    rintro e w' ⟨rfl, b⟩
    exact ⟨0, 71, rfl, sBad hk', by unfold U; omega, b⟩
/-- a Scale in its variable -/
def Sc7 (w : World) (g : Nat) (x y z u : Value) : Prop := w.heap[g]? = some (.cells #[x, y, z, u] 24)
section
variable {w w' : World} {g : Nat} {x y z u : Value}
theorem Sc7.lt (h : Sc7 w g x y z u) : g < w.heap.size := by
  by_cases hlt : g < w.heap.size
  · exact hlt
  · unfold Sc7 at h; simp [Array.getElem?_eq_none (Nat.le_of_not_lt hlt)] at h
theorem Sc7.later (h : Sc7 w g x y z u) (hb : Below w.heap.size w w') : Sc7 w' g x y z u := by
  have := h.lt
  unfold Sc7
  rw [hb.block g this]; exact h
theorem Sc7.cells (h : Sc7 w g x y z u) : w.cell? ⟨g, 0, none⟩ = some x ∧ w.cell? ⟨g, 1, none⟩ = some y ∧ w.cell? ⟨g, 2, none⟩ = some z ∧ w.cell? ⟨g, 3, none⟩ = some u := by
  unfold Sc7 at h
  simp [World.cell?, h]
theorem sc7_new (w : World) (x y z u : Value) : Sc7 (w.alloc (.cells #[x, y, z, u] 24)) w.heap.size x y z u := heap_alloc_new _ _
end
set_option maxHeartbeats 6400000 in
set_option maxRecDepth 100000 in
theorem scaleds_walk {w : World} {s z : Bool} {a : Option Addr} {n c : Nat} {xs : List Int} {x mode : Int} (ha : RowC w a n c xs) (hx : Ws xs) (sa : n ≤ 1048576) (G : -9223372036854775808 ≤ x ∧ x ≤ 9223372036854775807) (Gm : -9223372036854775808 ≤ mode ∧ mode ≤ 9223372036854775807) (hG : GrVar w) :
    Calls Tryd.prog 3 #[.agg #[.bool s, .slice a n c, .int .i64 x, .bool z], .int .i64 mode] w fun e w' => e = .returned (.bool true) ∧ Below w.heap.size w w' := by
  have t0 := sc7_new w (.bool s) (.slice a n c) (.int .i64 x) (.bool z)
  have hb0 := alloc_below (w := w) (.cells #[.bool s, .slice a n c, .int .i64 x, .bool z] 24)
  obtain ⟨w0, hw0⟩ : ∃ w0, w0 = w.alloc (.cells #[.bool s, .slice a n c, .int .i64 x, .bool z] 24) := ⟨_, rfl⟩
  rw [← hw0] at t0 hb0
  have r0 := ha.later hb0
  have G0 := hG.later hb0
  have hlen := ha.1.1
  obtain ⟨x0, x1⟩ := G
  clear ha hG
  obtain ⟨g, hg⟩ : ∃ g, g = w.heap.size := ⟨_, rfl⟩
  have HG : Hid (w.heap.size = g) := hg.symm
  rw [← hg] at t0
  have HB0 : Below w.heap.size w w0 := hb0
  obtain ⟨p0, p1, p2, p3⟩ := t0.cells
  have hle := lentAll_any (cap := c) r0.1 (by omega)
  go_enter Tryd.func3, Tryd.ntmps3
  go_wp2_with fail
  rw [← hw0, ← hg]
  refine hle.mono ?_
  rintro e w1 ⟨v, rfl, ho, hb1⟩
  obtain ⟨va, vc, rfl, hv⟩ := ho.readsC
  have hvl : (xs ++ [7777, 8888]).length = n + 2 := by simp [hlen]
  rw [hvl] at hv ⊢
  obtain ⟨vb, vo, rfl, _, _⟩ := hv.1.at (by omega)
  have t1 := t0.later hb1
  have r1 := r0.later hb1
  have G1 := G0.later hb1
  have HB1 := HB0.trans (hb1.mono HB0.size)
  have rc := hv.cut (m := n) (by omega)
  have ec : (xs ++ [7777, 8888]).take n = xs := by rw [← hlen]; exact List.take_left
  rw [ec] at rc
  have hvc := hv.2.1
  have hvc2 := hv.2.2
  unfold maxLen at hvc2
  have sb0 : (0 : Int) ≤ (n : Int) := by omega
  have sb1 : (n : Int) ≤ (vc : Int) := by omega
  clear hle ho hb0 hb1 hw0 hg t0 r0 G0 ec p0 p1 p2 p3
  have hB : 0 < scB 1 x := scB_pos (by omega)
  obtain ⟨p0, p1, p2, p3⟩ := t1.cells
  go_wp2
  go_loopw [6] (fun mv wr => ∃ m : Nat, mv = .int .i64 m ∧ m ≤ 6 ∧ Below w1.heap.size w1 wr) (fun mv _ => 6 - (intOf mv).toNat)
  case atStart => exact ⟨0, rfl, by omega, Below.refl _ _⟩
  case round =>
    obtain ⟨m, rfl, hm, hnx⟩ := hrel
    clear p0 p1 p2 p3
    have t2 := t1.later hnx
    have r2 := r1.later hnx
    have G2 := G1.later hnx
    have V2 := hv.later hnx
    have c2 := rc.later hnx
    have HB2 := HB1.trans (hnx.mono HB1.size)
    obtain ⟨p0, p1, p2, p3⟩ := t2.cells
    by_cases hm6 : m ≤ 5
    · obtain ⟨K, hK⟩ : ∃ K, K = if m = 5 then mode else (m : Int) := ⟨_, rfl⟩
      have hS : ∀ w3, Below wr.heap.size wr w3 → Calls Tryd.prog 9 #[.bool s, .slice (some ⟨vb, vo, none⟩) n vc, .int .i64 x, .bool z, .int .i64 K] w3 fun e w' => ∃ v E, e = .returned (.tuple #[.int .u64 v, .int .i64 E]) ∧ SAns (scA (num xs) x) (scB 1 x) z s K v E ∧ Below wr.heap.size wr w' := fun w3 h => by
        refine (near_sc (neg := s) (more := z) (c2.later h) hx (by omega) x0 x1 (G2.later h) K).mono ?_
        rintro e w' ⟨v, E, rfl, A, _, b⟩
        exact ⟨v, E, rfl, A, h.trans (b.mono h.size)⟩
      have hF : ∀ w3, Below wr.heap.size wr w3 → Calls Tryd.prog 10 #[.bool s, .slice a n c, .int .i64 x, .bool z, .int .i64 K] w3 fun e w' => ∃ v E, e = .returned (.tuple #[.int .u64 v, .int .i64 E]) ∧ SAns (scA (num xs) x) (scB 1 x) z s K v E ∧ Below wr.heap.size wr w' := fun w3 h => by
        refine (ref_sc (neg := s) (more := z) (r2.later h) hx (by omega) x0 x1 K).mono ?_
        rintro e w' ⟨v, E, rfl, A, _, b⟩
        exact ⟨v, E, rfl, A, h.trans (b.mono h.size)⟩
      generalize scA (num xs) x = A at hS hF
      generalize scB 1 x = B at hS hF hB
      by_cases h5 : m = 5
      · rw [if_pos h5] at hK
        subst hK
        have t5 : ((m : Int) == 5) = true := by simp [h5]
        clear h5
        go_wp2
        go_region_held3 (fun w' => w'.cell? ⟨g, 0, none⟩ = some (.bool s) ∧ w'.cell? ⟨g, 1, none⟩ = some (.slice a n c) ∧ w'.cell? ⟨g, 2, none⟩ = some (.int .i64 x) ∧ w'.cell? ⟨g, 3, none⟩ = some (.bool z)) (go_keep) ((go_at_call 9; refine (hS _ (by first | exact Below.refl _ _ | exact below_drewN (Below.refl _ _) _)).mono ?_; rintro e w3 ⟨v1, E1, rfl, A1, hB3⟩; obtain ⟨p0, p1, p2, p3⟩ := (t2.later hB3).cells))
        clear hS
        go_wp2_with fail
        refine (hF w3 hB3).mono ?_
        rintro e w4 ⟨v2, E2, rfl, A2, hB4⟩
        obtain ⟨rfl, rfl⟩ := sAns_uniq hB A1 A2
        clear hF A1 A2 hB3 p0 p1 p2 p3
        obtain ⟨p0, p1, p2, p3⟩ := (t2.later hB4).cells
        have hk := kept_any (V2.later hB4) (r2.later hB4) (by omega)
        have hb := hnx.trans (hB4.mono hnx.size)
        go_wp2_with fail
        refine (num7_any E1 w4).mono ?_
        rintro e w5 ⟨rfl, rfl⟩
        go_wp2_with fail
        refine hk.mono ?_
        rintro e w5 ⟨rfl, hb5⟩
        have hb9 := hb.trans (hb5.mono hb.size)
        clear hk p0 p1 p2 p3 hb5 hb hB4 V2 r2 c2 G2 t2 hnx HB2
        go_wp2
        go_roundw
        case rel => exact ⟨m + 1, by go_num, by omega, hb9⟩
        case measure => simp [intOf]; omega
      · rw [if_neg h5] at hK
        subst hK
        have t5 : ((m : Int) == 5) = false := by simp; omega
        clear h5
        go_wp2
        go_region_held3 (fun w' => w'.cell? ⟨g, 0, none⟩ = some (.bool s) ∧ w'.cell? ⟨g, 1, none⟩ = some (.slice a n c) ∧ w'.cell? ⟨g, 2, none⟩ = some (.int .i64 x) ∧ w'.cell? ⟨g, 3, none⟩ = some (.bool z)) (go_keep) ((go_at_call 9; refine (hS _ (by first | exact Below.refl _ _ | exact below_drewN (Below.refl _ _) _)).mono ?_; rintro e w3 ⟨v1, E1, rfl, A1, hB3⟩; obtain ⟨p0, p1, p2, p3⟩ := (t2.later hB3).cells))
        clear hS
        go_wp2_with fail
        refine (hF w3 hB3).mono ?_
        rintro e w4 ⟨v2, E2, rfl, A2, hB4⟩
        obtain ⟨rfl, rfl⟩ := sAns_uniq hB A1 A2
        clear hF A1 A2 hB3 p0 p1 p2 p3
        obtain ⟨p0, p1, p2, p3⟩ := (t2.later hB4).cells
        have hk := kept_any (V2.later hB4) (r2.later hB4) (by omega)
        have hb := hnx.trans (hB4.mono hnx.size)
        go_wp2_with fail
        refine (num7_any E1 w4).mono ?_
        rintro e w5 ⟨rfl, rfl⟩
        go_wp2_with fail
        refine hk.mono ?_
        rintro e w5 ⟨rfl, hb5⟩
        have hb9 := hb.trans (hb5.mono hb.size)
        clear hk p0 p1 p2 p3 hb5 hb hB4 V2 r2 c2 G2 t2 hnx HB2
        go_wp2
        go_roundw
        case rel => exact ⟨m + 1, by go_num, by omega, hb9⟩
        case measure => simp [intOf]; omega
    · clear r2 G2 V2 c2 t2 p0 p1 p2 p3
      go_wp2
      go_ret
      exact ⟨rfl, HB2⟩
end Go.Proofs.YtildkknpbpdnnaaDoor

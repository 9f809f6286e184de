import Derived.Below
import Derived.BigQuiet
import Derived.BigRegion
import Derived.ChangeOld
import Derived.Deep.DeepCutAuto
import Derived.Deep.DeepFit
import Derived.Deep.LoopGhost
import Derived.Deep.QuietTactic
import Derived.Deep.RegionHeld3
import Derived.Deep.RegionLaw
import Derived.Deep.RegionWith
import Derived.Defers
import Derived.KernelRfl
import Derived.Laws.BitsAllLaws
import Derived.Laws.CopyRow
import Derived.Laws.EntriesVeiled
import Derived.Laws.IdiomCopy
import Derived.Laws.IdiomRangeMap
import Derived.Laws.IdiomStrings
import Derived.Laws.RangeAny
import Derived.Laws.ResultCell
import Derived.Laws.Strings3
import Derived.Lib.OthersKept
import Derived.Lib.Strings
import Derived.Lib.TrimByte
import Derived.Lib.Walk
import Derived.OpenShut
import Derived.Orders
import Derived.OwnWalk
import Derived.ProofKit
import Derived.Recover
import Derived.Scope
import Derived.ShutString
import Derived.WalkKit
import Derived.WalkLawsBesides
import Derived.WalkMore
import Derived.WalkSpells
import Derived.Test.YtalglldkjbinbaaGreatPt13
import Derived.Test.YtalglldkjbinbaaGreatPt22
import Derived.Test.YtalglldkjbinbaaGreatPt24
/- plumbref07: Made. -/
namespace Go.Proofs.YtalglldkjbinbaaGreat
open Go.ChangeShapes Go.WideShapes Go.ChangeAt Go.RowKit
open Na Ar Ry
set_option linter.unusedVariables false
theorem rowC_offSt12 {w : World} {a : Option Addr} {n c : Nat} {xs : List Int} {g : Nat} {T : TypeId} {s : Bool} {a2 b2 : Option Addr} {n2 c2 m2 d2 : Nat} (h : RowC w a n c xs) (t : St w g T (.bool s) (.slice a2 n2 c2) (.slice b2 m2 d2)) : 0 < n → Off a g := by
  intro hn
  obtain ⟨bb, off, rfl, hbb, hc⟩ := h.1.at hn
  have h0 := hc 0 hn
  simp only [Nat.add_zero] at h0
  intro b' off' e
  simp only [Option.some.injEq, Addr.mk.injEq, and_true] at e
  obtain ⟨rfl, rfl⟩ := e
  rintro rfl
  obtain ⟨e0, e1, e2⟩ := t.cells
  have h3 : off = 0 ∨ off = 1 ∨ off = 2 ∨ 3 ≤ off := by omega
  rcases h3 with rfl | rfl | rfl | h3
  · rw [e0] at h0; simp at h0
  · rw [e1] at h0; simp at h0
  · rw [e2] at h0; simp at h0
  · unfold St at t
    have hge : ¬ off < 3 := by omega
    simp [World.cell?, t, hge] at h0
theorem rt_in3 {w : World} {neg s : Bool} {a b a2 b2 : Option Addr} {n c m d n2 c2 m2 d2 : Nat} {q : Rat} {g : Nat} {T : TypeId} (h : Rt w neg a n c b m d q) (t : St w g T (.bool s) (.slice a2 n2 c2) (.slice b2 m2 d2)) (x y z : Value) : Rt (((w.setCell ⟨g, 0, none⟩ x).setCell ⟨g, 1, none⟩ y).setCell ⟨g, 2, none⟩ z) neg a n c b m d q :=
  ⟨h.sgn, h.nu.inn (in3 _ _ _ _ _) (rowC_offSt12 h.nu t), h.de.inn (in3 _ _ _ _ _) (rowC_offSt12 h.de t)⟩
theorem low12r {w : World} {a b : Option Addr} {n m c1 c2 : Nat} {xs ys : List Int} {N D : Int} (hr1 : RowC w a n c1 xs) (hr2 : RowC w b m c2 ys) (h1 : Nm xs N) (h2 : Nm ys D) (hn : n ≤ 100) (hm : m ≤ 100) (pN : 0 < N) (pD : 0 < D) :
    Calls Tryz.prog 48 #[.slice a n c1, .slice b m c2] w fun e w' => ∃ a1 n1 d1 a2 n2 d2, e = .returned (.tuple #[.slice a1 n1 d1, .slice a2 n2 d2]) ∧ (∀ neg, Rt w' neg a1 n1 d1 a2 n2 d2 (mkR neg N D)) ∧ 0 < n1 ∧ Below w.heap.size w w' := by
  have hL := ref3Lowest_any (c1 := c1) (c2 := c2) hr1.1 hr2.1 h1.ws h2.ws (by omega) (by omega)
  rw [h1.num, h2.num] at hL
  have gp : (0 : Int) < (Int.gcd N D : Int) := by
    have : Int.gcd N D ≠ 0 := fun h => by have := Int.gcd_eq_zero_iff.mp h; omega
    omega
  have e1 : quoL N (Int.gcd N D : Int) = words (N / (Int.gcd N D : Int)) := by unfold quoL; rw [if_neg (by omega)]
  have e2' : quoL D (Int.gcd N D : Int) = words (D / (Int.gcd N D : Int)) := by unfold quoL; rw [if_neg (by omega)]
  rw [e1, e2'] at hL
  have np : 0 < N / (Int.gcd N D : Int) := Int.ediv_pos_of_pos_of_dvd pN (Int.le_of_lt gp) (Int.gcd_dvd_left ..)
  have rn := fun neg => rat_num (s := neg) (Int.le_of_lt pN) pD
  have rd := fun neg => rat_den (s := neg) (Int.le_of_lt pN) pD
  refine hL.mono ?_
  rintro e w' ⟨a1, n1, d1, a2, n2, d2, rfl, r1, r2, hb⟩
  refine ⟨a1, n1, d1, a2, n2, d2, rfl, fun neg => ⟨?_, ?_, ?_⟩, ?_, hb⟩
  · rw [rn neg]; unfold sg; cases neg <;> simp <;> omega
  · have nu : ((mkR neg N D).num.natAbs : Int) = N / (Int.gcd N D : Int) := by rw [rn neg]; unfold sg; cases neg <;> simp <;> omega
    rw [nu]; exact r1
  · rw [rd neg]; exact r2
  · have l := r1.1.1
    rcases Nat.eq_zero_or_pos n1 with z | z
    · exfalso
      rw [z] at l
      have : words (N / (Int.gcd N D : Int)) = [] := List.eq_nil_of_length_eq_zero l
      have nn := num_words (N := N / (Int.gcd N D : Int)) (by omega)
      rw [this] at nn
      simp [num, val] at nn
      omega
    · exact z
set_option maxHeartbeats 6400000 in
set_option maxRecDepth 100000 in
theorem made7_pos {neg : Bool} {A x : Int} {w : World} {a : Option Addr} {n c : Nat} {xs : List Int} (hr : RowC w a n c xs) (hm : Nm xs A) (hA : 0 < A) (hn : n ≤ 100) (lA : Lt A 2) (x0 : 0 < x) (x1 : x ≤ 1100) :
    Calls Tryz.prog 22 #[.bool neg, .slice a n c, .int .i64 x] w fun r w' => ∃ a1 n1 c1 b1 m1 d1, r = .returned (.agg #[.bool neg, .slice a1 n1 c1, .slice b1 m1 d1]) ∧ Rt w' neg a1 n1 c1 b1 m1 d1 (mkR neg (A * 2 ^ x.toNat) (1)) ∧ Below w.heap.size w w' := by
  have g1 : decide (x > 0) = true := by simp; omega
  have g1' : decide (0 < x) = true := by simp; omega
  have t0 := st_new w (.bool false) (.slice none 0 0) (.slice none 0 0) 31
  have b0 := alloc_below (w := w) (.cells #[.bool false, .slice none 0 0, .slice none 0 0] 31)
  have es : (w.alloc (.cells #[.bool false, .slice none 0 0, .slice none 0 0] 31)).heap.size = w.heap.size + 1 := by simp
  have r1 := rowC_one (w.alloc (.cells #[.bool false, .slice none 0 0, .slice none 0 0] 31)) 1 22
  have b1 := alloc_below (w := w.alloc (.cells #[.bool false, .slice none 0 0, .slice none 0 0] 31)) (.cells #[.int .u64 1] 22)
  rw [es] at r1
  have T1 := t0.later b1
  have B1 := b0.trans (b1.mono b0.size)
  obtain ⟨w0, hw0⟩ : ∃ z, z = (w.alloc (.cells #[.bool false, .slice none 0 0, .slice none 0 0] 31)).alloc (.cells #[.int .u64 1] 22) := ⟨_, rfl⟩
  obtain ⟨g, hg⟩ : ∃ z, z = w.heap.size := ⟨_, rfl⟩
  rw [← hw0] at r1 T1 B1
  rw [← hg] at r1 T1
  have HG : Hid (g = w.heap.size) := hg
  have hrA := hr.later B1
  have m1 := nm_of (show U 1 by unfold U; omega)
  have l1 : Lt 1 1 := Lt.word (by omega)
  have pN : (0 : Int) < A * 2 ^ x.toNat := by first | exact hA | exact Int.mul_pos hA (Int.pow_pos (by omega))
  have pD : (0 : Int) < 1 := by first | omega | exact Int.mul_pos (by omega) (Int.pow_pos (by omega))
  have lS : Lt (A * 2 ^ x.toNat) 60 := (lA.pow2).mono (by omega)
  have hS := shl12r (T := x) hrA hm hn (by omega) (by omega) lS (by omega)
  clear t0 b0 b1 es hr
  go_enter Tryz.func22, Tryz.ntmps22
  go_wp2_with fail
  rw [← hw0, ← hg]
  clear hw0 hg
  refine hS.mono ?_
  rintro r w1 ⟨a2, n2, c2, l2, rfl, rS, mS, qS, bS⟩
  have B2 := B1.trans (bS.mono B1.size)
  have T2 := T1.later bS
  have rO := r1.later bS
  have hL := low12r rS rO mS m1 qS (by omega) pN (by omega)
  clear hS B1 T1 bS r1 hrA rO rS lS
  go_wp2_with fail
  refine hL.mono ?_
  rintro r w2 ⟨a3, n3, c3, a4, n4, c4, rfl, RT, len, bL⟩
  have B3 := B2.trans (bL.mono B2.size)
  have T3 := T2.later bL
  have RTn := RT neg
  have q1 : decide ((n3 : Int) > 0) = true := by simp; omega
  have q1' : decide (0 < (n3 : Int)) = true := by simp; omega
  obtain ⟨y0, y1, y2⟩ := T3.cells
  obtain ⟨f0, f1, f2⟩ := T3.frozen
  have hlt := T2.lt
  clear hL B2 T2 bL RT
  cases neg
  · go_wp2
    have st9 := (T3.set (.bool false) (.slice a3 n3 c3) (.slice a4 n4 c4)).cells
    refine bodyPost_ret (v := .agg #[.bool false, .slice a3 n3 c3, .slice a4 n4 c4]) (by simp [results, Tryz.results22, go_sem, st9]) rfl ?_
    have gw := HG.out
    exact ⟨_, _, _, _, _, _, rfl, rt_in3 RTn T3 _ _ _, below_in B3 (in3 _ _ _ _ _) (by omega) (Nat.le_refl _)⟩
  · go_wp2
    have st9 := (T3.set (.bool true) (.slice a3 n3 c3) (.slice a4 n4 c4)).cells
    refine bodyPost_ret (v := .agg #[.bool true, .slice a3 n3 c3, .slice a4 n4 c4]) (by simp [results, Tryz.results22, go_sem, st9]) rfl ?_
    have gw := HG.out
    exact ⟨_, _, _, _, _, _, rfl, rt_in3 RTn T3 _ _ _, below_in B3 (in3 _ _ _ _ _) (by omega) (Nat.le_refl _)⟩
set_option maxHeartbeats 6400000 in
set_option maxRecDepth 100000 in
theorem made7_neg {neg : Bool} {A x : Int} {w : World} {a : Option Addr} {n c : Nat} {xs : List Int} (hr : RowC w a n c xs) (hm : Nm xs A) (hA : 0 < A) (hn : n ≤ 100) (lA : Lt A 2) (x0 : -1100 ≤ x) (x1 : x ≤ 0) :
    Calls Tryz.prog 22 #[.bool neg, .slice a n c, .int .i64 x] w fun r w' => ∃ a1 n1 c1 b1 m1 d1, r = .returned (.agg #[.bool neg, .slice a1 n1 c1, .slice b1 m1 d1]) ∧ Rt w' neg a1 n1 c1 b1 m1 d1 (mkR neg (A) (1 * 2 ^ (-x).toNat)) ∧ Below w.heap.size w w' := by
  have g1 : decide (x > 0) = false := by simp; omega
  have g1' : decide (0 < x) = false := by simp; omega
  have t0 := st_new w (.bool false) (.slice none 0 0) (.slice none 0 0) 31
  have b0 := alloc_below (w := w) (.cells #[.bool false, .slice none 0 0, .slice none 0 0] 31)
  have es : (w.alloc (.cells #[.bool false, .slice none 0 0, .slice none 0 0] 31)).heap.size = w.heap.size + 1 := by simp
  have r1 := rowC_one (w.alloc (.cells #[.bool false, .slice none 0 0, .slice none 0 0] 31)) 1 22
  have b1 := alloc_below (w := w.alloc (.cells #[.bool false, .slice none 0 0, .slice none 0 0] 31)) (.cells #[.int .u64 1] 22)
  rw [es] at r1
  have T1 := t0.later b1
  have B1 := b0.trans (b1.mono b0.size)
  obtain ⟨w0, hw0⟩ : ∃ z, z = (w.alloc (.cells #[.bool false, .slice none 0 0, .slice none 0 0] 31)).alloc (.cells #[.int .u64 1] 22) := ⟨_, rfl⟩
  obtain ⟨g, hg⟩ : ∃ z, z = w.heap.size := ⟨_, rfl⟩
  rw [← hw0] at r1 T1 B1
  rw [← hg] at r1 T1
  have HG : Hid (g = w.heap.size) := hg
  have hrA := hr.later B1
  have m1 := nm_of (show U 1 by unfold U; omega)
  have l1 : Lt 1 1 := Lt.word (by omega)
  have pN : (0 : Int) < A := by first | exact hA | exact Int.mul_pos hA (Int.pow_pos (by omega))
  have pD : (0 : Int) < 1 * 2 ^ (-x).toNat := by first | omega | exact Int.mul_pos (by omega) (Int.pow_pos (by omega))
  have lS : Lt (1 * 2 ^ (-x).toNat) 60 := (l1.pow2).mono (by omega)
  have hS := shl12r (T := -x) r1 m1 (by omega) (by omega) (by omega) lS (by omega)
  clear t0 b0 b1 es hr
  go_enter Tryz.func22, Tryz.ntmps22
  go_wp2_with fail
  rw [← hw0, ← hg]
  clear hw0 hg
  refine hS.mono ?_
  rintro r w1 ⟨a2, n2, c2, l2, rfl, rS, mS, qS, bS⟩
  have B2 := B1.trans (bS.mono B1.size)
  have T2 := T1.later bS
  have rO := hrA.later bS
  have hL := low12r rO rS hm mS hn qS pN pD
  clear hS B1 T1 bS r1 hrA rO rS lS
  go_wp2_with fail
  refine hL.mono ?_
  rintro r w2 ⟨a3, n3, c3, a4, n4, c4, rfl, RT, len, bL⟩
  have B3 := B2.trans (bL.mono B2.size)
  have T3 := T2.later bL
  have RTn := RT neg
  have q1 : decide ((n3 : Int) > 0) = true := by simp; omega
  have q1' : decide (0 < (n3 : Int)) = true := by simp; omega
  obtain ⟨y0, y1, y2⟩ := T3.cells
  obtain ⟨f0, f1, f2⟩ := T3.frozen
  have hlt := T2.lt
  clear hL B2 T2 bL RT
  cases neg
  · go_wp2
    have st9 := (T3.set (.bool false) (.slice a3 n3 c3) (.slice a4 n4 c4)).cells
    refine bodyPost_ret (v := .agg #[.bool false, .slice a3 n3 c3, .slice a4 n4 c4]) (by simp [results, Tryz.results22, go_sem, st9]) rfl ?_
    have gw := HG.out
    exact ⟨_, _, _, _, _, _, rfl, rt_in3 RTn T3 _ _ _, below_in B3 (in3 _ _ _ _ _) (by omega) (Nat.le_refl _)⟩
  · go_wp2
    have st9 := (T3.set (.bool true) (.slice a3 n3 c3) (.slice a4 n4 c4)).cells
    refine bodyPost_ret (v := .agg #[.bool true, .slice a3 n3 c3, .slice a4 n4 c4]) (by simp [results, Tryz.results22, go_sem, st9]) rfl ?_
    have gw := HG.out
    exact ⟨_, _, _, _, _, _, rfl, rt_in3 RTn T3 _ _ _, below_in B3 (in3 _ _ _ _ _) (by omega) (Nat.le_refl _)⟩
end Go.Proofs.YtalglldkjbinbaaGreat

/- plumbref12: Interval. -/
namespace Go.Proofs.YtalglldkjbinbaaGreat
open Go.ChangeShapes Go.WideShapes Go.ChangeAt Go.RowKit
open Na Ar Ry
set_option linter.unusedVariables false
theorem made7_any {neg : Bool} {A x : Int} {w : World} {a : Option Addr} {n c : Nat} {xs : List Int} (hr : RowC w a n c xs) (hm : Nm xs A) (hA : 0 < A) (hn : n ≤ 100) (lA : Lt A 2) (x0 : -1100 ≤ x) (x1 : x ≤ 1100) :
    Calls Tryz.prog 22 #[.bool neg, .slice a n c, .int .i64 x] w fun r w' => ∃ a1 n1 c1 b1 m1 d1, r = .returned (.agg #[.bool neg, .slice a1 n1 c1, .slice b1 m1 d1]) ∧ Rt w' neg a1 n1 c1 b1 m1 d1 (mkR neg (A * e2 x) (e2 (-x))) ∧ Below w.heap.size w w' := by
  by_cases h : 0 < x
  · have e1 : e2 (-x) = 1 := e2_zero (by omega)
    rw [e1]
    exact made7_pos hr hm hA hn lA h x1
  · have e1 : e2 x = 1 := e2_zero (by omega)
    have f := made7_neg (neg := neg) hr hm hA hn lA x0 (by omega)
    rw [Int.one_mul] at f
    rw [e1, Int.mul_one]
    exact f
namespace Ry
theorem e2_75 : 2 * e2 1074 = e2 1075 := by
  have := e2_add (j := 1074) (k := 1) (by omega) (by omega)
  have e : e2 1075 = e2 1074 * e2 1 := this
  rw [e, e2_one]; omega
theorem low_made {p : Int} (h0 : 0 < p) (h1 : p ≤ mostP) : mkR false (loQ p * e2 (spX p - 2)) (e2 (-(spX p - 2))) = lowR p ∧ mkR false (hiQ p * e2 (spX p - 2)) (e2 (-(spX p - 2))) = highR p := by
  obtain ⟨q1, q2, q3, q4, q5, q6, q7, q8, q9⟩ := parts_of h0 h1
  have dc := dn_cases (mP p) (iP p)
  have t := e2_turn (i := (iP p : Int)) (T := spX p - 2) (c := 1076) (by omega) (by omega) (by omega)
  have k := e2_76
  have pL : 0 ≤ loQ p := by unfold loQ; omega
  have pH : 0 ≤ hiQ p := by unfold hiQ; omega
  have n1 := num_nonneg' (p := p - 1) (by omega) (by omega)
  have n2 := num_nonneg' (p := p) (by omega) h1
  have n3 := nxt_gt p
  have p2 : 0 < 2 * e2 1074 := Int.mul_pos (by omega) (e2_pos _)
  have w1 : 2 * (numW p + nxtN p) = hiQ p * e2 (iP p : Int) := by rw [q7, pow_e2]; rfl
  have w2 : 2 * (numW (p - 1) + numW p) = loQ p * e2 (iP p : Int) := by rw [q8, pow_e2]; rfl
  have pe := e2_pos (spX p - 2)
  unfold lowR highR
  rw [if_neg (by omega), show decide (p = 0) = false by simp; omega]
  constructor
  · rw [mk_eq (Int.mul_nonneg pL (Int.le_of_lt pe)) (e2_pos _) (by omega) p2, sg_false, sg_false]
    generalize loQ p = L at *
    generalize numW (p - 1) + numW p = X at *
    generalize e2 (spX p - 2) = a at *
    generalize e2 (-(spX p - 2)) = b at *
    generalize e2 (iP p : Int) = f at *
    generalize e2 1076 = g at *
    generalize e2 1074 = m at *
    have : 2 * (L * a * (2 * m)) = 2 * (X * b) := by grind
    omega
  · rw [mk_eq (Int.mul_nonneg pH (Int.le_of_lt pe)) (e2_pos _) (by omega) p2, sg_false, sg_false]
    generalize hiQ p = L at *
    generalize numW p + nxtN p = X at *
    generalize e2 (spX p - 2) = a at *
    generalize e2 (-(spX p - 2)) = b at *
    generalize e2 (iP p : Int) = f at *
    generalize e2 1076 = g at *
    generalize e2 1074 = m at *
    have : 2 * (L * a * (2 * m)) = 2 * (X * b) := by grind
    omega
theorem zero_made : mkR true (1 * e2 (-1075)) (e2 (-(-1075))) = lowR 0 ∧ mkR false (1 * e2 (-1075)) (e2 (-(-1075))) = highR 0 := by
  have e1 : e2 (-1075) = 1 := e2_zero (by omega)
  have e3 : e2 (-(-1075)) = 2 * e2 1074 := by rw [e2_75]; rfl
  unfold lowR highR
  rw [e1, e3, num_zero', nxt_zero]
  exact ⟨rfl, rfl⟩
end Ry
set_option maxHeartbeats 6400000 in
set_option maxRecDepth 100000 in
theorem rinterval_fin {b : Int} (hu : U b) (hf : ef b ≠ 2047) (hz : mg b ≠ 0) (w : World) :
    Calls Tryz.prog 8 #[.int .u64 b] w fun r w' => ∃ s1 a1 n1 c1 b1 m1 d1 s2 a2 n2 c2 b2 m2 d2, r = .returned (.tuple #[.agg #[.bool s1, .slice a1 n1 c1, .slice b1 m1 d1], .agg #[.bool s2, .slice a2 n2 c2, .slice b2 m2 d2], .bool (decide (mg b % 2 = 0)), .int .i64 0]) ∧ Rt w' s1 a1 n1 c1 b1 m1 d1 (lowR (mg b)) ∧ Rt w' s2 a2 n2 c2 b2 m2 d2 (highR (mg b)) ∧ Below w.heap.size w w' := by
  have hs := size_bits hu
  have hF := fun w => fin7_any hu w
  rw [bne_yes hf] at hF
  have h1 : mg b ≤ mostP := by
    have := mg_bd b
    have := ef_bd b
    have := fr_bd b
    have := mg_parts b
    unfold mostP
    omega
  have up := U_mg b
  have h0 : 0 < mg b := by have := (mg_bd b).1; omega
  obtain ⟨q1, q2, q3, q4, q5, -⟩ := parts_of h0 h1
  have dc := dn_cases (mP (mg b)) (iP (mg b))
  have hE := fun w => ends12r_any h0 h1 w
  obtain ⟨eLo, eHi⟩ := low_made h0 h1
  have uL : U (loQ (mg b)) ∧ 0 < loQ (mg b) := by unfold U loQ; omega
  have uH : U (hiQ (mg b)) ∧ 0 < hiQ (mg b) := by unfold U hiQ; omega
  have m1 := nm_of uL.1
  have m2 := nm_of uH.1
  have l1 := (Lt.word uL.1).mono (show 1 ≤ 2 by omega)
  have l2 := (Lt.word uH.1).mono (show 1 ≤ 2 by omega)
  have pz : (mg b == 0) = false := beq_no hz
  have ha := and_one up
  have hev : ((mg b % 2) == 0) = decide (mg b % 2 = 0) := by rw [Bool.eq_iff_iff, beq_iff_eq, decide_eq_true_eq]
  have x0 : -1076 ≤ spX (mg b) - 2 ∧ spX (mg b) - 2 ≤ 971 := by omega
  obtain ⟨-, uL⟩ := uL
  obtain ⟨-, uH⟩ := uH
  clear hf hz q1 q2 q3 q4 q5 dc h0 h1
  generalize decide (mg b % 2 = 0) = ev at *
  generalize mg b % 2 = mo at *
  generalize lowR (mg b) = QL at *
  generalize highR (mg b) = QH at *
  generalize loQ (mg b) = lo at *
  generalize hiQ (mg b) = hi at *
  generalize spX (mg b) - 2 = X at *
  generalize mg b = s at *
  obtain ⟨x1, x2⟩ := x0
  obtain ⟨t1, t2, hb0⟩ := st_two w (.bool false) (.slice none 0 0) (.slice none 0 0) (.bool false) (.slice none 0 0) (.slice none 0 0) 31 31
  obtain ⟨w0, hw0⟩ : ∃ w0, w0 = (w.alloc (.cells #[.bool false, .slice none 0 0, .slice none 0 0] 31)).alloc (.cells #[.bool false, .slice none 0 0, .slice none 0 0] 31) := ⟨_, rfl⟩
  obtain ⟨g, hg⟩ : ∃ g, g = w.heap.size := ⟨_, rfl⟩
  have HG : Hid (w.heap.size = g) := hg.symm
  rw [← hw0] at t1 t2 hb0
  rw [← hg] at t1 t2
  go_enter Tryz.func8, Tryz.ntmps8
  go_wp2_with fail
  rw [← hw0, ← hg]
  clear hw0 hg
  refine (hF _).mono ?_
  rintro r wz ⟨rfl, hz'⟩
  rw [hz']
  clear hz' hF
  go_wp2_with fail
  refine (hE _).mono ?_
  rintro r wz ⟨rfl, hz'⟩
  rw [hz']
  clear hz' hE
  have r1 := rowC_one w0 lo 22
  have b1 := alloc_below (w := w0) (.cells #[.int .u64 lo] 22)
  have hM1 := made7_any (neg := false) (x := X) r1 m1 (by omega) (by omega) l1 (by omega) (by omega)
  rw [eLo] at hM1
  go_wp2_with fail
  refine hM1.mono ?_
  rintro r w1 ⟨aL, nL, cL, bL, mL, dL, rfl, RL, hb1⟩
  have H1 := b1.trans (hb1.mono b1.size)
  have B1 := hb0.trans (H1.mono hb0.size)
  have T1 := t1.later H1
  have T2 := t2.later H1
  clear hM1 r1 b1 hb1 t1 t2 H1
  have r2 := rowC_one w1 hi 22
  have b2 := alloc_below (w := w1) (.cells #[.int .u64 hi] 22)
  have hM2 := made7_any (neg := false) (x := X) r2 m2 (by omega) (by omega) l2 (by omega) (by omega)
  rw [eHi] at hM2
  go_wp2_with fail
  refine hM2.mono ?_
  rintro r w2 ⟨aH, nH, cH, bH, mH, dH, rfl, RH, hb2⟩
  have H2 := b2.trans (hb2.mono b2.size)
  have B2 := B1.trans (H2.mono B1.size)
  have T3 := T1.later H2
  have T4 := T2.later H2
  have RL2 := RL.later H2
  clear hM2 r2 b2 hb2 T1 T2 H2 RL
  have n1 : ¬ g = g + 1 := by omega
  have n2 : ¬ g + 1 = g := by omega
  obtain ⟨y0, y1, y2⟩ := T3.cells
  obtain ⟨v0, v1, v2⟩ := T4.cells
  obtain ⟨f0, f1, f2⟩ := T3.frozen
  obtain ⟨k0, k1, k2⟩ := T4.frozen
  have S2 := T4.inn (in3 w2 g (.bool false) (.slice aL nL cL) (.slice bL mL dL)) (by omega)
  have S1 := T3.set (.bool false) (.slice aL nL cL) (.slice bL mL dL)
  have S3 := S1.inn (in3 _ (g + 1) (.bool false) (.slice aH nH cH) (.slice bH mH dH)) (by omega)
  have S4 := S2.set (.bool false) (.slice aH nH cH) (.slice bH mH dH)
  have RL3 := rt_in3 (rt_in3 RL2 T3 (.bool false) (.slice aL nL cL) (.slice bL mL dL)) S2 (.bool false) (.slice aH nH cH) (.slice bH mH dH)
  have RH3 := rt_in3 (rt_in3 RH T3 (.bool false) (.slice aL nL cL) (.slice bL mL dL)) S2 (.bool false) (.slice aH nH cH) (.slice bH mH dH)
  have HR3 : Hid _ := RL3
  have gw := HG.out
  have C1 := below_in B2 (in3 w2 g (.bool false) (.slice aL nL cL) (.slice bL mL dL)) (by omega) (Nat.le_refl _)
  have C2 := below_in C1 (in3 _ (g + 1) (.bool false) (.slice aH nH cH) (.slice bH mH dH)) (by omega) (Nat.le_refl _)
  have c1 := S3.cells
  have c2 := S4.cells
  clear gw
  go_wp2
  refine bodyPost_ret (v := .tuple #[.agg #[.bool false, .slice aL nL cL, .slice bL mL dL], .agg #[.bool false, .slice aH nH cH, .slice bH mH dH], .bool ev, .int .i64 0]) (by simp [results, Tryz.results8, go_sem, c1, c2]) rfl ?_
  exact ⟨_, _, _, _, _, _, _, _, _, _, _, _, _, _, rfl, RL3, RH3, C2⟩
end Go.Proofs.YtalglldkjbinbaaGreat

/- plumbref12: Interval of the zeros and of what is no number; Shortest likewise; sameRat; RyuTells. -/
namespace Go.Proofs.YtalglldkjbinbaaGreat
open Go.ChangeShapes Go.WideShapes Go.ChangeAt Go.RowKit
open Na Ar Ry
set_option linter.unusedVariables false
set_option maxHeartbeats 6400000 in
set_option maxRecDepth 100000 in
theorem rinterval_zero {b : Int} (hu : U b) (hf : ef b ≠ 2047) (hz : mg b = 0) (w : World) :
    Calls Tryz.prog 8 #[.int .u64 b] w fun r w' => ∃ s1 a1 n1 c1 b1 m1 d1 s2 a2 n2 c2 b2 m2 d2, r = .returned (.tuple #[.agg #[.bool s1, .slice a1 n1 c1, .slice b1 m1 d1], .agg #[.bool s2, .slice a2 n2 c2, .slice b2 m2 d2], .bool (decide (mg b % 2 = 0)), .int .i64 0]) ∧ Rt w' s1 a1 n1 c1 b1 m1 d1 (lowR (mg b)) ∧ Rt w' s2 a2 n2 c2 b2 m2 d2 (highR (mg b)) ∧ Below w.heap.size w w' := by
  have hs := size_bits hu
  have hF := fun w => fin7_any hu w
  rw [bne_yes hf] at hF
  have h1 : mg b ≤ mostP := by
    have := mg_bd b
    have := ef_bd b
    have := fr_bd b
    have := mg_parts b
    unfold mostP
    omega
  have up := U_mg b
  obtain ⟨eLo, eHi⟩ := zero_made
  have m1 := nm_of (show U 1 by unfold U; omega)
  have m2 := nm_of (show U 1 by unfold U; omega)
  have l1 : Lt 1 2 := (Lt.word (x := 1) (by omega)).mono (by omega)
  have l2 : Lt 1 2 := l1
  rw [hz] at hs ⊢
  have hev : decide ((0 : Int) % 2 = 0) = true := rfl
  rw [hev]
  generalize lowR 0 = QL at *
  generalize highR 0 = QH at *
  clear hf h1 hev up hz
  obtain ⟨t1, t2, hb0⟩ := st_two w (.bool false) (.slice none 0 0) (.slice none 0 0) (.bool false) (.slice none 0 0) (.slice none 0 0) 31 31
  obtain ⟨w0, hw0⟩ : ∃ w0, w0 = (w.alloc (.cells #[.bool false, .slice none 0 0, .slice none 0 0] 31)).alloc (.cells #[.bool false, .slice none 0 0, .slice none 0 0] 31) := ⟨_, rfl⟩
  obtain ⟨g, hg⟩ : ∃ g, g = w.heap.size := ⟨_, rfl⟩
  have HG : Hid (w.heap.size = g) := hg.symm
  rw [← hw0] at t1 t2 hb0
  rw [← hg] at t1 t2
  go_enter Tryz.func8, Tryz.ntmps8
  go_wp2_with fail
  rw [← hw0, ← hg]
  clear hw0 hg
  refine (hF _).mono ?_
  rintro r wz ⟨rfl, hz'⟩
  rw [hz']
  clear hz' hF
  have r1 := rowC_one w0 1 22
  have b1 := alloc_below (w := w0) (.cells #[.int .u64 1] 22)
  have hM1 := made7_any (neg := true) (x := -1075) r1 m1 (by omega) (by omega) l1 (by omega) (by omega)
  rw [eLo] at hM1
  go_wp2_with fail
  refine hM1.mono ?_
  rintro r w1 ⟨aL, nL, cL, bL, mL, dL, rfl, RL, hb1⟩
  have H1 := b1.trans (hb1.mono b1.size)
  have B1 := hb0.trans (H1.mono hb0.size)
  have T1 := t1.later H1
  have T2 := t2.later H1
  clear hM1 r1 b1 hb1 t1 t2 H1
  have r2 := rowC_one w1 1 22
  have b2 := alloc_below (w := w1) (.cells #[.int .u64 1] 22)
  have hM2 := made7_any (neg := false) (x := -1075) r2 m2 (by omega) (by omega) l2 (by omega) (by omega)
  rw [eHi] at hM2
  go_wp2_with fail
  refine hM2.mono ?_
  rintro r w2 ⟨aH, nH, cH, bH, mH, dH, rfl, RH, hb2⟩
  have H2 := b2.trans (hb2.mono b2.size)
  have B2 := B1.trans (H2.mono B1.size)
  have T3 := T1.later H2
  have T4 := T2.later H2
  have RL2 := RL.later H2
  clear hM2 r2 b2 hb2 T1 T2 H2 RL
  have n1 : ¬ g = g + 1 := by omega
  have n2 : ¬ g + 1 = g := by omega
  obtain ⟨y0, y1, y2⟩ := T3.cells
  obtain ⟨v0, v1, v2⟩ := T4.cells
  obtain ⟨f0, f1, f2⟩ := T3.frozen
  obtain ⟨k0, k1, k2⟩ := T4.frozen
  have S2 := T4.inn (in3 w2 g (.bool true) (.slice aL nL cL) (.slice bL mL dL)) (by omega)
  have S1 := T3.set (.bool true) (.slice aL nL cL) (.slice bL mL dL)
  have S3 := S1.inn (in3 _ (g + 1) (.bool false) (.slice aH nH cH) (.slice bH mH dH)) (by omega)
  have S4 := S2.set (.bool false) (.slice aH nH cH) (.slice bH mH dH)
  have RL3 := rt_in3 (rt_in3 RL2 T3 (.bool true) (.slice aL nL cL) (.slice bL mL dL)) S2 (.bool false) (.slice aH nH cH) (.slice bH mH dH)
  have RH3 := rt_in3 (rt_in3 RH T3 (.bool true) (.slice aL nL cL) (.slice bL mL dL)) S2 (.bool false) (.slice aH nH cH) (.slice bH mH dH)
  have HR3 : Hid _ := RL3
  have gw := HG.out
  have C1 := below_in B2 (in3 w2 g (.bool true) (.slice aL nL cL) (.slice bL mL dL)) (by omega) (Nat.le_refl _)
  have C2 := below_in C1 (in3 _ (g + 1) (.bool false) (.slice aH nH cH) (.slice bH mH dH)) (by omega) (Nat.le_refl _)
  have c1 := S3.cells
  have c2 := S4.cells
  clear gw
  go_wp2
  refine bodyPost_ret (v := .tuple #[.agg #[.bool true, .slice aL nL cL, .slice bL mL dL], .agg #[.bool false, .slice aH nH cH, .slice bH mH dH], .bool true, .int .i64 0]) (by simp [results, Tryz.results8, go_sem, c1, c2]) rfl ?_
  exact ⟨_, _, _, _, _, _, _, _, _, _, _, _, _, _, rfl, RL3, RH3, C2⟩
theorem rinterval_inf {b : Int} (hu : U b) (hf : ef b = 2047) (w : World) :
    Calls Tryz.prog 8 #[.int .u64 b] w fun r w' => r = .returned (.tuple #[.agg #[.bool false, .slice none 0 0, .slice none 0 0], .agg #[.bool false, .slice none 0 0, .slice none 0 0], .bool false, .int .i64 120]) ∧ Below w.heap.size w w' := by
  have hF := fun w => fin7_any hu w
  rw [bne_of hf] at hF
  obtain ⟨t1, t2, hb0⟩ := st_two w (.bool false) (.slice none 0 0) (.slice none 0 0) (.bool false) (.slice none 0 0) (.slice none 0 0) 31 31
  obtain ⟨w0, hw0⟩ : ∃ w0, w0 = (w.alloc (.cells #[.bool false, .slice none 0 0, .slice none 0 0] 31)).alloc (.cells #[.bool false, .slice none 0 0, .slice none 0 0] 31) := ⟨_, rfl⟩
  obtain ⟨g, hg⟩ : ∃ g, g = w.heap.size := ⟨_, rfl⟩
  have HG : Hid (w.heap.size = g) := hg.symm
  rw [← hw0] at t1 t2 hb0
  rw [← hg] at t1 t2
  have n1 : ¬ g = g + 1 := by omega
  have n2 : ¬ g + 1 = g := by omega
  go_enter Tryz.func8, Tryz.ntmps8
  go_wp2_with fail
  rw [← hw0, ← hg]
  clear hw0 hg
  refine (hF _).mono ?_
  rintro r wz ⟨rfl, hz⟩
  rw [hz]
  clear hz hF
  obtain ⟨x0, x1, x2⟩ := t1.cells
  obtain ⟨y0, y1, y2⟩ := t2.cells
  obtain ⟨f0, f1, f2⟩ := t1.frozen
  obtain ⟨k0, k1, k2⟩ := t2.frozen
  have T1 := t1.set (.bool false) (.slice none 0 0) (.slice none 0 0)
  have T2 := t2.inn (in3 w0 g (.bool false) (.slice none 0 0) (.slice none 0 0)) (by omega)
  have T3 := T1.inn (in3 _ (g + 1) (.bool false) (.slice none 0 0) (.slice none 0 0)) (by omega)
  have T4 := T2.set (.bool false) (.slice none 0 0) (.slice none 0 0)
  have B1 := below_in hb0 (in3 w0 g (.bool false) (.slice none 0 0) (.slice none 0 0)) (by have := HG.out; omega) (Nat.le_refl _)
  have B2 := below_in B1 (in3 _ (g + 1) (.bool false) (.slice none 0 0) (.slice none 0 0)) (by have := HG.out; omega) (Nat.le_refl _)
  go_wp2
  have s1 := T3.cells
  have s2 := T4.cells
  refine bodyPost_ret (v := .tuple #[.agg #[.bool false, .slice none 0 0, .slice none 0 0], .agg #[.bool false, .slice none 0 0, .slice none 0 0], .bool false, .int .i64 120]) (by simp [results, Tryz.results8, go_sem, s1, s2]) rfl ?_
  exact ⟨rfl, B2⟩
theorem rshort12_inf {b : Int} (hu : U b) (hf : ef b = 2047) (w : World) :
    Calls Tryz.prog 5 #[.int .u64 b] w fun r w' => r = .returned (.tuple #[.int .u64 0, .int .i64 0, .int .i64 120]) ∧ Below w.heap.size w w' := by
  have hF := fun w => fin7_any hu w
  rw [bne_of hf] at hF
  go_enter Tryz.func5, Tryz.ntmps5
  go_wp2_with fail
  refine (hF _).mono ?_
  rintro r wz ⟨rfl, hz⟩
  rw [hz]
  go_wp2
  refine bodyPost_ret (v := .tuple #[.int .u64 0, .int .i64 0, .int .i64 120]) (by simp [results, Tryz.results5, go_sem]) rfl ?_
  exact ⟨rfl, Below.refl _ _⟩
theorem rshort12_zero {b : Int} (hu : U b) (hf : ef b ≠ 2047) (h0 : mg b = 0) (w : World) :
    Calls Tryz.prog 5 #[.int .u64 b] w fun r w' => r = .returned (.tuple #[.int .u64 0, .int .i64 0, .int .i64 0]) ∧ Below w.heap.size w w' := by
  have hs := size_bits hu
  rw [h0] at hs
  have hF := fun w => fin7_any hu w
  rw [bne_yes hf] at hF
  go_enter Tryz.func5, Tryz.ntmps5
  go_wp2_with fail
  refine (hF _).mono ?_
  rintro r wz ⟨rfl, hz⟩
  rw [hz]
  go_wp2
  refine bodyPost_ret (v := .tuple #[.int .u64 0, .int .i64 0, .int .i64 0]) (by simp [results, Tryz.results5, go_sem]) rfl ?_
  exact ⟨rfl, Below.refl _ _⟩
end Go.Proofs.YtalglldkjbinbaaGreat

/- plumblaw12: sameRat; RyuTells. -/
namespace Go.Proofs.YtalglldkjbinbaaGreat
open Go.ChangeShapes Go.WideShapes Go.ChangeAt Go.RowKit
open Na Ar Ry
set_option linter.unusedVariables false
theorem highR_size {s : Int} (h0 : 0 ≤ s) (h1 : s ≤ mostP) : Sz (highR s) 40 := by
  have n0 := num_nonneg' h0 h1
  have n1 := num_mono h0 h1 (Int.le_refl _)
  have n2 := nxt_gt mostP
  have n3 : nxtN s ≤ nxtN mostP := by
    by_cases z : s = mostP
    · rw [z]; exact Int.le_refl _
    · rw [← num_succ h0 (by omega)]
      have := num_mono (p := s + 1) (q := mostP) (by omega) (by omega) (Int.le_refl _)
      omega
  have n4 := nxt_gt s
  have one : Lt 1 1 := Lt.word (by omega)
  have p1 : Lt (1 * 2 ^ 2100) 34 := one.pow2
  have p2 : Lt (1 * 2 ^ 1075) 18 := one.pow2
  have e1 : nxtN mostP = 2 ^ 2098 := nxt_most
  have e3 : (2 : Int) ^ 2100 = 2 ^ 2098 * 2 * 2 := by rw [Int.pow_succ, Int.pow_succ]
  have e4 : (2 : Int) ^ 1075 = 2 ^ 1074 * 2 := Int.pow_succ _ _
  have e5 : e2 1074 = (2 : Int) ^ 1074 := rfl
  unfold highR
  refine Sz.mkR ((p1.le (by omega) ?_).mono (by omega)) ((p2.le (Int.le_of_lt (Int.mul_pos (by omega) (e2_pos _))) ?_).mono (by omega)) (Int.mul_pos (by omega) (e2_pos _))
  · rw [e3]
    rw [e1] at n2 n3
    generalize (2 : Int) ^ 2098 = T at *
    omega
  · rw [e4, e5]
    generalize (2 : Int) ^ 1074 = T
    omega
/-- a number's sign and its two rows, as words -/
structure Rx (w : World) (s : Bool) (a : Option Addr) (n c : Nat) (b : Option Addr) (m d : Nat) (sg : Bool) (xs ys : List Int) : Prop where
  sgn : s = sg
  nu : RowC w a n c xs
  de : RowC w b m d ys
  ln : n ≤ 4096
  lm : m ≤ 4096
section
variable {w w' : World} {s sg : Bool} {a b : Option Addr} {n c m d k : Nat} {xs ys : List Int} {q : Rat}
theorem Rx.later (h : Rx w s a n c b m d sg xs ys) (hb : Below w.heap.size w w') : Rx w' s a n c b m d sg xs ys := ⟨h.sgn, h.nu.later hb, h.de.later hb, h.ln, h.lm⟩
theorem Rx.of (h : Rt w s a n c b m d q) (z : Sz q k) (hk : k ≤ 4096) : Rx w s a n c b m d (decide (q.num < 0)) (words (q.num.natAbs : Int)) (words (q.den : Int)) :=
  ⟨h.sgn, h.nu, h.de, Nat.le_trans (h.le z) hk, Nat.le_trans (h.leD z) hk⟩
theorem Rx.nil (w : World) : Rx w false none 0 0 none 0 0 false [] [] := ⟨rfl, rowC_nil w, rowC_nil w, by omega, by omega⟩
end
set_option maxHeartbeats 3200000 in
set_option maxRecDepth 100000 in
theorem sameRat12_any {w : World} {sg s1 s2 : Bool} {a1 b1 a2 b2 : Option Addr} {n1 c1 m1 d1 n2 c2 m2 d2 : Nat} {xs ys : List Int} (h1 : Rx w s1 a1 n1 c1 b1 m1 d1 sg xs ys) (h2 : Rx w s2 a2 n2 c2 b2 m2 d2 sg xs ys) :
    Calls Tryz.prog 9 #[.agg #[.bool s1, .slice a1 n1 c1, .slice b1 m1 d1], .agg #[.bool s2, .slice a2 n2 c2, .slice b2 m2 d2]] w fun r w' => r = .returned (.bool true) ∧ Below w.heap.size w w' := by
  obtain ⟨t1, t2, hb0⟩ := st_two w (.bool s1) (.slice a1 n1 c1) (.slice b1 m1 d1) (.bool s2) (.slice a2 n2 c2) (.slice b2 m2 d2) 31 31
  have e1 : s1 = s2 := h1.sgn.trans h2.sgn.symm
  subst e1
  have l1 := h1.ln
  have l2 := h2.ln
  have l3 := h1.lm
  have l4 := h2.lm
  have f1 : ∀ {w1 : World}, Below w.heap.size w w1 → Calls Tryz.prog 24 #[.slice a1 n1 c1, .slice a2 n2 c2] w1 fun e w' => e = .returned (.bool true) ∧ Below w1.heap.size w1 w' := fun {w1} h => by
    have := same_any (c1 := c1) (c2 := c2) (h1.later h).nu.1 (h2.later h).nu.1 (by omega) (by omega)
    rw [decide_eq_true rfl] at this
    exact this
  have f2 : ∀ {w1 : World}, Below w.heap.size w w1 → Calls Tryz.prog 24 #[.slice b1 m1 d1, .slice b2 m2 d2] w1 fun e w' => e = .returned (.bool true) ∧ Below w1.heap.size w1 w' := fun {w1} h => by
    have := same_any (c1 := d1) (c2 := d2) (h1.later h).de.1 (h2.later h).de.1 (by omega) (by omega)
    rw [decide_eq_true rfl] at this
    exact this
  obtain ⟨w0, hw0⟩ : ∃ w0, w0 = (w.alloc (.cells #[.bool s1, .slice a1 n1 c1, .slice b1 m1 d1] 31)).alloc (.cells #[.bool s1, .slice a2 n2 c2, .slice b2 m2 d2] 31) := ⟨_, rfl⟩
  rw [← hw0] at t1 t2 hb0
  obtain ⟨g, hg⟩ : ∃ g, g = w.heap.size := ⟨_, rfl⟩
  rw [← hg] at t1 t2
  clear h1 h2
  go_enter Tryz.func9, Tryz.ntmps9
  go_wp2_with fail
  rw [← hw0]
  refine (f1 hb0).mono ?_
  rintro r w1 ⟨rfl, hb1⟩
  have H1 := hb0.trans (hb1.mono hb0.size)
  obtain ⟨x0, x1, x2⟩ := (t1.later hb1).cells
  obtain ⟨y0, y1, y2⟩ := (t2.later hb1).cells
  rw [← hg]
  clear f1 hw0 hg hb1
  go_wp2_with fail
  refine (f2 H1).mono ?_
  rintro r w2 ⟨rfl, hb2⟩
  have H2 := H1.trans (hb2.mono H1.size)
  clear f2 hb2
  go_wp2
  go_ret
  exact ⟨rfl, H2⟩
def IvIs (f : FuncId) (b : Int) (ev : Bool) (E : Int) (sl sh : Bool) (xl yl xh yh : List Int) : Prop := ∀ w, Calls Tryz.prog f #[.int .u64 b] w fun r w' => ∃ s1 a1 n1 c1 b1 m1 d1 s2 a2 n2 c2 b2 m2 d2, r = .returned (.tuple #[.agg #[.bool s1, .slice a1 n1 c1, .slice b1 m1 d1], .agg #[.bool s2, .slice a2 n2 c2, .slice b2 m2 d2], .bool ev, .int .i64 E]) ∧ Rx w' s1 a1 n1 c1 b1 m1 d1 sl xl yl ∧ Rx w' s2 a2 n2 c2 b2 m2 d2 sh xh yh ∧ Below w.heap.size w w'
set_option maxHeartbeats 6400000 in
set_option maxRecDepth 100000 in
theorem tells_go {b t D E X : Int} {ev sl sh : Bool} {xl yl xh yh : List Int} (hx : bits .xor .u64 b 9223372036854775808 = t)
    (S1 : ∀ w, Calls Tryz.prog 4 #[.int .u64 b] w fun e w' => e = .returned (.tuple #[.int .u64 D, .int .i64 E, .int .i64 X]) ∧ Below w.heap.size w w')
    (S2 : ∀ w, Calls Tryz.prog 5 #[.int .u64 b] w fun e w' => e = .returned (.tuple #[.int .u64 D, .int .i64 E, .int .i64 X]) ∧ Below w.heap.size w w')
    (S3 : ∀ w, Calls Tryz.prog 4 #[.int .u64 t] w fun e w' => e = .returned (.tuple #[.int .u64 D, .int .i64 E, .int .i64 X]) ∧ Below w.heap.size w w')
    (I1 : IvIs 7 b ev X sl sh xl yl xh yh) (I2 : IvIs 8 b ev X sl sh xl yl xh yh) (w : World) :
    Calls Tryz.prog 3 #[.int .u64 b] w fun r w' => r = .returned (.bool true) ∧ Below w.heap.size w w' := by
  have qe : (ev == ev) = true := by cases ev <;> rfl
  have qd : (D != D) = false := bne_of rfl
  have qE : (E != E) = false := bne_of rfl
  have qX : (X != X) = false := bne_of rfl
  have qY : (X == X) = true := beq_of rfl
  go_enter Tryz.func3, Tryz.ntmps3
  go_wp2_with fail
  refine (S1 _).mono ?_
  rintro r v1 ⟨rfl, B1⟩
  clear S1
  go_wp2_with fail
  refine (S2 _).mono ?_
  rintro r v2 ⟨rfl, b2⟩
  have B2 := B1.trans (b2.mono B1.size)
  clear S2 B1 b2
  go_wp2_with fail
  refine (S3 _).mono ?_
  rintro r v3 ⟨rfl, b3⟩
  have B3 := B2.trans (b3.mono B2.size)
  clear S3 B2 b3
  go_wp2_with fail
  refine (num12_same _ _).mono ?_
  rintro r vz ⟨rfl, hz⟩
  rw [hz]
  clear hz
  go_wp2_with fail
  refine (num12_same _ _).mono ?_
  rintro r vz ⟨rfl, hz⟩
  rw [hz]
  clear hz
  go_wp2_with fail
  refine (I1 _).mono ?_
  rintro r v4 ⟨sL, aL, nL, cL, bL, mL, dL, sH, aH, nH, cH, bH, mH, dH, rfl, RL, RH, b4⟩
  have B4 := B3.trans (b4.mono B3.size)
  clear B3 b4 I1
  obtain ⟨tL, tH, hb4⟩ := st_two v4 (.bool sL) (.slice aL nL cL) (.slice bL mL dL) (.bool sH) (.slice aH nH cH) (.slice bH mH dH) 31 31
  obtain ⟨W0, hW0⟩ : ∃ z, z = (v4.alloc (.cells #[.bool sL, .slice aL nL cL, .slice bL mL dL] 31)).alloc (.cells #[.bool sH, .slice aH nH cH, .slice bH mH dH] 31) := ⟨_, rfl⟩
  obtain ⟨gL, hgL⟩ : ∃ z, z = v4.heap.size := ⟨_, rfl⟩
  rw [← hW0] at tL tH hb4
  rw [← hgL] at tL tH
  have qL := RL.later hb4
  have qH := RH.later hb4
  have B5 := B4.trans (hb4.mono B4.size)
  clear RL RH hb4 B4
  go_wp2_with fail
  rw [← hW0, ← hgL]
  clear hW0 hgL
  refine (I2 _).mono ?_
  rintro r v6 ⟨sM, aM, nM, cM, bM, mM, dM, sO, aO, nO, cO, bO, mO, dO, rfl, RM, RO, b6⟩
  have B6 := B5.trans (b6.mono B5.size)
  obtain ⟨tM, tO, hb6⟩ := st_two v6 (.bool sM) (.slice aM nM cM) (.slice bM mM dM) (.bool sO) (.slice aO nO cO) (.slice bO mO dO) 31 31
  obtain ⟨W1, hW1⟩ : ∃ z, z = (v6.alloc (.cells #[.bool sM, .slice aM nM cM, .slice bM mM dM] 31)).alloc (.cells #[.bool sO, .slice aO nO cO, .slice bO mO dO] 31) := ⟨_, rfl⟩
  obtain ⟨gM, hgM⟩ : ∃ z, z = v6.heap.size := ⟨_, rfl⟩
  rw [← hW1] at tM tO hb6
  rw [← hgM] at tM tO
  have H6 := b6.trans (hb6.mono b6.size)
  have qL6 := qL.later H6
  have qH6 := qH.later H6
  have tL6 := tL.later H6
  have tH6 := tH.later H6
  have qM := RM.later hb6
  have qO := RO.later hb6
  have B7 := B6.trans (hb6.mono B6.size)
  clear RM RO hb6 B6 B5 b6 I2 qL qH tL tH H6
  have C1 := sameRat12_any qL6 qM
  obtain ⟨x0, x1, x2⟩ := tL6.cells
  obtain ⟨y0, y1, y2⟩ := tM.cells
  go_upto_region 8 with fail
  rw [← hW1, ← hgM]
  clear hW1 hgM
  go_wp2_with fail
  refine C1.mono ?_
  rintro r v7 ⟨rfl, b7⟩
  clear C1 x0 x1 x2 y0 y1 y2
  have C2 := sameRat12_any (qH6.later b7) (qO.later b7)
  obtain ⟨x0, x1, x2⟩ := (tH6.later b7).cells
  obtain ⟨y0, y1, y2⟩ := (tO.later b7).cells
  have B8 := B7.trans (b7.mono B7.size)
  clear B7
  go_wp2_with fail
  refine C2.mono ?_
  rintro r v8 ⟨rfl, b8⟩
  have B9 := B8.trans (b8.mono B8.size)
  clear C2 B8 b8 b7 x0 x1 x2 y0 y1 y2
  go_wp2_with fail
  refine (num12_same _ _).mono ?_
  rintro r vz ⟨rfl, hz⟩
  rw [hz]
  clear hz
  go_wp2
  go_ret
  exact ⟨rfl, B9⟩
theorem tells_walk {b : Int} (hu : U b) (w : World) : Calls Tryz.prog 3 #[.int .u64 b] w fun r w' => r = .returned (.bool true) ∧ Below w.heap.size w w' := by
  have hx := sign_xor hu
  have un : U (negW b) := by unfold U at hu ⊢; unfold negW; split <;> omega
  have em := mg_negW hu
  have ee : ef (negW b) = ef b := by
    rw [← (sp_mg un).2.2, ← (sp_mg hu).2.2, em]
  have hm := mg_bd b
  by_cases hf : ef b = 2047
  · refine tells_go hx (fun w => rshort_inf hu hf w) (fun w => rshort12_inf hu hf w) (fun w => rshort_inf un (ee.trans hf) w) (ev := false) (sl := false) (sh := false) (xl := []) (yl := []) (xh := []) (yh := []) ?_ ?_ w
    · intro w
      refine (interval_inf hu hf w).mono ?_
      rintro r w' ⟨rfl, hb⟩
      exact ⟨_, _, _, _, _, _, _, _, _, _, _, _, _, _, rfl, Rx.nil _, Rx.nil _, hb⟩
    · intro w
      refine (rinterval_inf hu hf w).mono ?_
      rintro r w' ⟨rfl, hb⟩
      exact ⟨_, _, _, _, _, _, _, _, _, _, _, _, _, _, rfl, Rx.nil _, Rx.nil _, hb⟩
  · have p1 : mg b ≤ mostP := by
      have := ef_bd b
      have := fr_bd b
      have := mg_parts b
      unfold mostP
      omega
    have zL := low_size hm.1 p1
    have zH := highR_size hm.1 p1
    have i1 : IvIs 7 b (decide (mg b % 2 = 0)) 0 (decide ((lowR (mg b)).num < 0)) (decide ((highR (mg b)).num < 0)) (words ((lowR (mg b)).num.natAbs : Int)) (words ((lowR (mg b)).den : Int)) (words ((highR (mg b)).num.natAbs : Int)) (words ((highR (mg b)).den : Int)) := by
      intro w
      refine (interval_fin hu hf w).mono ?_
      rintro r w' ⟨s1, a1, n1, c1, b1, m1, d1, s2, a2, n2, c2, b2, m2, d2, rfl, h1, h2, hb⟩
      exact ⟨_, _, _, _, _, _, _, _, _, _, _, _, _, _, rfl, Rx.of h1 zL (by omega), Rx.of h2 zH (by omega), hb⟩
    have en : ef (negW b) ≠ 2047 := by rw [ee]; exact hf
    by_cases hz : mg b = 0
    · refine tells_go hx (fun w => rshort_zero hu hf hz w) (fun w => rshort12_zero hu hf hz w) (fun w => rshort_zero un en (em.trans hz) w) i1 ?_ w
      intro w
      refine (rinterval_zero hu hf hz w).mono ?_
      rintro r w' ⟨s1, a1, n1, c1, b1, m1, d1, s2, a2, n2, c2, b2, m2, d2, rfl, h1, h2, hb⟩
      exact ⟨_, _, _, _, _, _, _, _, _, _, _, _, _, _, rfl, Rx.of h1 zL (by omega), Rx.of h2 zH (by omega), hb⟩
    · have s3 := fun w => rshort_fin un en (by rw [em]; exact hz) w
      rw [em] at s3
      refine tells_go hx (fun w => rshort_fin hu hf hz w) (fun w => rshort12_fin hu hf hz w) s3 i1 ?_ w
      intro w
      refine (rinterval_fin hu hf hz w).mono ?_
      rintro r w' ⟨s1, a1, n1, c1, b1, m1, d1, s2, a2, n2, c2, b2, m2, d2, rfl, h1, h2, hb⟩
      exact ⟨_, _, _, _, _, _, _, _, _, _, _, _, _, _, rfl, Rx.of h1 zL (by omega), Rx.of h2 zH (by omega), hb⟩
end Go.Proofs.YtalglldkjbinbaaGreat


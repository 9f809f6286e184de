import Derived.Deep.RegionHeld3
import Derived.Below
import Derived.BigQuiet
import Derived.ChangeOld
import Derived.Deep.CutRange
import Derived.Deep.DeepCutAuto
import Derived.Deep.DeepFit
import Derived.Deep.LoopGhost
import Derived.Deep.QuietTactic
import Derived.Deep.RegionWith
import Derived.Deep.WholeRow
import Derived.Defers
import Derived.KernelRfl
import Derived.Laws.BitsAllLaws
import Derived.Laws.CopyRow
import Derived.Laws.EntriesVeiled
import Derived.Laws.Externs
import Derived.Laws.IdiomCopy
import Derived.Laws.IdiomRangeMap
import Derived.Laws.IdiomStrings
import Derived.Laws.RangeAny
import Derived.Laws.RangeString
import Derived.Laws.ResultCell
import Derived.Laws.Runes
import Derived.Laws.Strings3
import Derived.Lib.AsciiSet
import Derived.Lib.AtoiErrMem
import Derived.Lib.Bytealg
import Derived.Lib.ConvBytes
import Derived.Lib.IndexBytes
import Derived.Lib.OthersKept
import Derived.Lib.Strings
import Derived.Lib.TrimByte
import Derived.Lib.Walk
import Derived.OpenShut
import Derived.Orders
import Derived.OwnWalk
import Derived.ProofKit
import Derived.Recover
import Derived.Scope
import Derived.Shelf.Strconv.Clone
import Derived.Shelf.Strings.OnBuilder
import Derived.ShutString
import Derived.WalkKit
import Derived.WalkLawsBesides
import Derived.WalkMore
import Derived.WalkSpells
import Derived.Test.YtjeoiffloghonabGreatDoorAnj10
import Derived.Test.YtjeoiffloghonabGreatDoorAnj16
import Derived.Test.YtjeoiffloghonabGreatDoorAnj20
import Derived.Test.YtjeoiffloghonabGreatDoorAnj25
/- package lex: number, distance, two, scaled (what Value is made of). -/
namespace Go.Proofs.YtjeoiffloghonabGreatDoor
open Go.ChangeShapes Go.WideShapes Go.ChangeAt Go.RowKit
open Na Ar Lx
set_option linter.unusedVariables false
namespace Lx
theorem pow_le_v {b : Int} (h0 : 0 ≤ b) (hb : b ≤ 18446744073709551616) (n : Nat) : b ^ n ≤ (18446744073709551616 : Int) ^ n := by
  induction n with
  | zero => simp
  | succ n ih =>
    rw [Int.pow_succ, Int.pow_succ]
    exact Int.mul_le_mul ih hb h0 (Int.pow_nonneg (by omega))
theorem lt_pow_v {b : Int} (h0 : 0 ≤ b) (hb : b ≤ 18446744073709551616) (n : Nat) : Lt (b ^ n) (n + 1) := by
  refine ⟨Int.pow_nonneg h0, Int.lt_of_le_of_lt (pow_le_v h0 hb n) ?_⟩
  rw [Int.pow_succ]
  have : (0 : Int) < 18446744073709551616 ^ n := Int.pow_pos (by omega)
  omega
theorem nv_LtV {b : Int} {l : B} (h2 : 2 ≤ b) (hb : b ≤ 36) (h : okB b l) : Lt (nv b l) l.length :=
  ⟨nv_nonneg (by omega) l, Int.lt_of_lt_of_le (nv_lt h2 h) (pow_le_v (by omega) (by omega) _)⟩
theorem mkR_one (s : Bool) (A : Int) : mkR s A 1 = ((sg s A : Int) : Rat) := by
  unfold mkR
  exact Rat.mkRat_one _
theorem mkR_times (s : Bool) (T P : Int) : mkR s T 1 * mkR false P 1 = mkR s (T * P) 1 := by
  rw [mkR_one, mkR_one, mkR_one, ← Rat.intCast_mul]
  congr 1
  cases s
  · rfl
  · show -T * P = -(T * P)
    rw [Int.neg_mul]
end Lx
set_option maxHeartbeats 1600000 in
theorem number9_any (s : ByteArray) {b : Int} (hb : b = 10 ∨ b = 16) (h0 : 0 < s.size) (hs : s.size ≤ 65536) (hd : okB b s.data.toList) (w : World) :
    Calls Tryz.prog 37 #[.string s, .int .i64 b] w fun r w' => ∃ a n c l, r = .returned (.slice a n c) ∧ RowC w' a n c l ∧ Nm l (nv b s.data.toList) ∧ l.length ≤ 4096 ∧ Below w.heap.size w w' := by
  have hw := nv_words hb hd (by rw [← Lib.size_eq]; exact hs)
  have hp := fun w => parse_good s b (by omega) (by omega) (by omega) h0 (fun i hi => by
    have := hd.dgt i (by rw [← Lib.size_eq]; exact hi)
    rw [str_of] at this; exact this) w
  rw [nv_of] at hp
  have nn := nv_nonneg (b := b) (by omega) s.data.toList
  generalize nv b s.data.toList = T at *
  clear hd
  go_enter Tryz.func37, Tryz.ntmps37
  go_wp2_with fail
  refine (hp _).mono ?_
  rintro e w' (⟨_, v, rfl, ho, hb'⟩ | ⟨hc, _⟩)
  · obtain ⟨a, c, rfl, hr⟩ := ho.readsC
    have HM : Hid (Nm (words T) T) := nm_words nn (by omega)
    generalize words T = l at *
    clear ho hp
    go_wp2
    go_ret
    exact ⟨_, _, _, l, rfl, hr, HM, hw, hb'⟩
  · omega
theorem distance9_any {e : Int} (h0 : -1073741824 ≤ e) (h1 : e ≤ 1073741824) (w : World) :
    Calls Tryz.prog 39 #[.int .i64 e] w fun r w' => r = .returned (.int .i64 (e.natAbs : Int)) ∧ w' = w := by
  have hw : IntKind.i64.wrap (-e) = -e := wrapI (by omega) (by omega)
  by_cases h : e < 0
  · have q : (if e < -e then -e else e) = (e.natAbs : Int) := by rw [if_pos (by omega)]; omega
    go_enter Tryz.func39, Tryz.ntmps39
    go_wp2
    go_ret
    exact ⟨by first | rfl | (show Ending.returned (Value.int .i64 _) = Ending.returned (Value.int .i64 _); congr 2; omega), rfl⟩
  · have q : (if e < -e then -e else e) = (e.natAbs : Int) := by rw [if_neg (by omega)]; omega
    go_enter Tryz.func39, Tryz.ntmps39
    go_wp2
    go_ret
    exact ⟨by first | rfl | (show Ending.returned (Value.int .i64 _) = Ending.returned (Value.int .i64 _); congr 2; omega), rfl⟩
theorem two9_any {t : Nat} (ht : t ≤ 100000) (w : World) :
    Calls Tryz.prog 38 #[.int .i64 (t : Int)] w fun r w' => ∃ a n c l, r = .returned (.tuple #[.slice a n c, .int .i64 0]) ∧ RowC w' a n c l ∧ Nm l (2 ^ t) ∧ l.length ≤ 2000 ∧ Below w.heap.size w w' := by
  have hb0 := alloc_below (w := w) (.cells #[.int .u64 1] 31)
  have r0 := rowC_one w 1 31
  have n0 : Nm [1] 1 := Nm.one (by omega)
  have hU := up_any r0 n0.ws (by omega) t (by omega)
  have d1 : decide ((t : Int) ≥ 262144) = false := by simp; omega
  have d1' : decide ((262144 : Int) ≤ (t : Int)) = false := by simp; omega
  rw [n0.num, Int.one_mul] at hU
  have lt := (Lt.word (x := 1) (by omega)).pow2 (t := t)
  rw [Int.one_mul] at lt
  generalize (2 : Int) ^ t = P at *
  go_enter Tryz.func38, Tryz.ntmps38
  go_wp2_with fail
  refine hU.mono ?_
  rintro r w1 ⟨v, rfl, ho, hb⟩
  have hB := hb0.trans (hb.mono hb0.size)
  obtain ⟨a, n, c, l, rfl, r1, m1, E⟩ := ho.opens lt (by omega)
  have hl : l.length ≤ 2000 := by rw [E.out]; have := lt.len; omega
  clear hU ho E
  go_wp2
  go_ret2
  exact ⟨_, _, _, l, rfl, r1, m1, hl, hB⟩
end Go.Proofs.YtjeoiffloghonabGreatDoor

/- package lex: scaled, Value. -/
namespace Go.Proofs.YtjeoiffloghonabGreatDoor
open Go.ChangeShapes Go.WideShapes Go.ChangeAt Go.RowKit
open Na Ar Lx
set_option linter.unusedVariables false
namespace Lx
/-- the value's two numbers -/
def vA (k : Int) (num : B) (e : Int) : Int := if k = 1 then exN (nv 10 num) e else if k = 2 then (if 0 ≤ e then nv 16 num * 2 ^ e.toNat else nv 16 num) else nv 10 num
def vB (k : Int) (e : Int) (den : B) : Int := if k = 1 then exD e else if k = 2 then (if 0 ≤ e then 1 else 2 ^ (-e).toNat) else nv 10 den
theorem nv_nil (b : Int) : nv b [] = 0 := rfl
theorem vA_nil (k e : Int) : vA k [] e = 0 := by
  unfold vA exN
  rw [nv_nil, nv_nil]
  split
  · split <;> simp
  · split
    · split <;> simp
    · rfl
theorem mkR_zero (s : Bool) (D : Int) : mkR s 0 D = ((0 : Int) : Rat) := by
  unfold mkR
  have : sg s 0 = 0 := by cases s <;> rfl
  rw [this, Rat.zero_mkRat]
  rfl
end Lx
theorem ten9_any {k : Nat} (h : k ≤ 2000) (w : World) :
    Calls Tryz.prog 41 #[.int .i64 (k : Int)] w fun e w' => ∃ a l c ls, e = .returned (.tuple #[.slice a l c, .int .i64 0]) ∧ RowC w' a l c ls ∧ Nm ls (10 ^ k) ∧ ls.length ≤ 2001 ∧ Below w.heap.size w w' := by
  have f := ten_any (k : Int) (by omega) (by omega) w
  have E1 : pwE 78913 (k : Int) = 0 := by unfold pwE; rw [if_neg (by omega), if_neg (by omega)]
  have E2 : pwL 10 78913 (k : Int) = words (10 ^ k) := by unfold pwL; rw [if_neg (by omega), if_neg (by omega), Int.toNat_natCast]
  rw [E1, E2] at f
  refine f.mono ?_
  rintro e w' ⟨v, rfl, ho, hb⟩
  have lt := lt_pow_v (b := 10) (by omega) (by omega) k
  obtain ⟨a, n, c, l, rfl, r1, m1, E⟩ := ho.opens lt (by omega)
  exact ⟨a, n, c, l, rfl, r1, m1, by rw [E.out]; have := lt.len; omega, hb⟩
theorem number9_at (s : ByteArray) {b : Int} (hb : b = 10 ∨ b = 16) (h0 : 0 < s.size) (hs : s.size ≤ 65536) (hd : okB b s.data.toList) {w0 w1 : World} (h : Below w0.heap.size w0 w1) :
    Calls Tryz.prog 37 #[.string s, .int .i64 b] w1 fun r w' => ∃ a n c l, r = .returned (.slice a n c) ∧ RowC w' a n c l ∧ Nm l (nv b s.data.toList) ∧ l.length ≤ 4096 ∧ Below w0.heap.size w0 w' ∧ Below w1.heap.size w1 w' := by
  refine (number9_any s hb h0 hs hd w1).mono ?_
  rintro r w' ⟨a, n, c, l, rfl, q1, q2, q3, q4⟩
  exact ⟨a, n, c, l, rfl, q1, q2, q3, h.trans (q4.mono h.size), q4⟩
set_option maxHeartbeats 6400000 in
set_option maxRecDepth 100000 in
theorem scaled9_any (k : Int) (ng : Bool) (nu : ByteArray) (e : Int) (de : ByteArray) {w : World} {a b : Option Addr} {n c m d : Nat} {xs ys : List Int} {T P : Int} (hr1 : RowC w a n c xs) (hr2 : RowC w b m d ys) (h1 : Nm xs T) (h2 : Nm ys P) (hP : 0 < P) {i j : Nat} (lT : Lt T i) (lP : Lt P j) (hi : 1 ≤ i) (hj : 1 ≤ j) (hij : i + j ≤ 4090) (hn : xs.length ≤ 100000) (hm : ys.length ≤ 100000) :
    Calls Tryz.prog 40 #[.agg (numC k ng nu e de), .slice a n c, .slice b m d, .int .i64 0] w fun r w' => ∃ s v1 v2, r = .returned (.tuple #[.agg #[.bool s, v1, v2], .int .i64 0]) ∧ RtO w' w.heap.size s v1 v2 (if e < 0 then mkR ng T P else mkR ng (T * P) 1) ∧ Below w.heap.size w w' := by
  have hb1 : Below w.heap.size w (w.alloc (.cells (numC k ng nu e de) 23)) := (Below.refl _ w).alloc (Nat.le_refl _) _
  have B1 : Bk (w.alloc (.cells (numC k ng nu e de) 23)) w.heap.size 23 (numC k ng nu e de) := Bk.new _ _ _
  have st1 := st_new (w.alloc (.cells (numC k ng nu e de) 23)) (.bool false) (.slice none 0 0) (.slice none 0 0) 27
  have hb2 := alloc_below (w := w.alloc (.cells (numC k ng nu e de) 23)) (.cells #[.bool false, .slice none 0 0, .slice none 0 0] 27)
  have hb0 := hb1.trans (hb2.mono hb1.size)
  have B0 := B1.later hb2
  rw [World.size_alloc] at st1
  obtain ⟨w0, hw0⟩ : ∃ w0, w0 = (w.alloc (.cells (numC k ng nu e de) 23)).alloc (.cells #[.bool false, .slice none 0 0, .slice none 0 0] 27) := ⟨_, rfl⟩
  rw [← hw0] at st1 hb0 B0
  obtain ⟨g, hg⟩ : ∃ g, g = w.heap.size := ⟨_, rfl⟩
  have HG : Hid (w.heap.size = g) := hg.symm
  rw [← hg] at B0 st1
  replace hr1 := hr1.later hb0
  replace hr2 := hr2.later hb0
  have sn := hr1.1.1
  have sm := hr2.1.1
  have l1 := lt_one
  clear hb1 hb2 B1
  unfold numC at hw0 ⊢
  by_cases he : e < 0
  · have d1 : decide (e < 0) = true := by simp; omega
    have hN := rNew_ok (neg := ng) hr1 hr2 h1 h2 hP (lT.mono (by omega)) (lP.mono (by omega)) (by omega) (by omega)
    rw [if_pos he]
    clear hr1 hr2 h1 h2 hP lT lP sn sm l1 B0 he
    go_enter Tryz.func40, Tryz.ntmps40
    go_wp2_with fail
    rw [← hw0, ← hg]
    refine hN.mono ?_
    rintro r w1 ⟨s9, v1, v2, rfl, hR, hbE⟩
    obtain ⟨a9, n9, c9, b9, m9, d9, rfl, rfl, _⟩ := hR.opens
    have tE := st1.later hbE
    obtain ⟨x0, x1, x2⟩ := tE.cells
    obtain ⟨y0, y1, y2⟩ := tE.frozen
    have sl := st1.lt
    have hB9 := hb0.trans (hbE.mono hb0.size)
    have sz := hb0.size
    clear hN hw0 hg st1 hb0 hbE
    go_wp2
    have st9 := (tE.set (.bool s9) (.slice a9 n9 c9) (.slice b9 m9 d9)).cells
    refine bodyPost_ret (v := .tuple #[.agg #[.bool s9, .slice a9 n9 c9, .slice b9 m9 d9], .int .i64 0]) (by simp [results, Tryz.results40, go_sem, st9]) rfl ?_
    exact ⟨_, _, _, rfl, (hR.inn (in3 _ _ _ _ _) sl).lower sz, below_in hB9 (in3 _ _ _ _ _) (by rw [HG.out]; omega) (Nat.le_refl _)⟩
  · have d1 : decide (e < 0) = false := by simp; omega
    have hb3 := alloc_below (w := w0) (.cells #[.int .u64 1] 31)
    have r3 := rowC_one w0 1 31
    have e0 : w0.heap.size = g + 1 + 1 := by rw [hw0, hg]; simp
    rw [e0] at r3
    clear e0
    have hN1 := rNew_ok (neg := ng) (hr1.later hb3) r3 h1 (Nm.one (by omega)) (by omega) (lT.mono (by omega)) (l1.mono (by omega)) (by omega) (by omega)
    have zT : Sz (mkR ng T 1) i := Sz.mkR lT (l1.mono hi) (by omega)
    have zP : Sz (mkR false P 1) j := Sz.mkR lP (l1.mono hj) (by omega)
    have HM : Hid (mkR ng T 1 * mkR false P 1 = mkR ng (T * P) 1) := mkR_times ng T P
    rw [if_neg he]
    generalize mkR ng (T * P) 1 = Q at *
    generalize mkR ng T 1 = Q1 at *
    clear hr1 h1 lT B0 he r3
    go_enter Tryz.func40, Tryz.ntmps40
    go_wp2_with fail
    rw [← hw0, ← hg]
    refine hN1.mono ?_
    rintro r w1 ⟨s1, v1, v2, rfl, hR1, hbE⟩
    obtain ⟨a1, n1, c1, b1, m1, d1', rfl, rfl, q1⟩ := hR1.opens
    have H1 := hb3.trans (hbE.mono hb3.size)
    clear hN1 hw0 hg hb3 hbE hR1
    go_upto_region 6 with fail
    have tx := st_new w1 (.bool s1) (.slice a1 n1 c1) (.slice b1 m1 d1') 27
    have ha1 := alloc_below (w := w1) (.cells #[.bool s1, .slice a1 n1 c1, .slice b1 m1 d1'] 27)
    have qx := q1.later ha1
    have H2 := H1.trans (ha1.mono H1.size)
    generalize w1.alloc (.cells #[.bool s1, .slice a1 n1 c1, .slice b1 m1 d1'] 27) = z1 at *
    obtain ⟨gx, hgx⟩ : ∃ gx, gx = w1.heap.size := ⟨_, rfl⟩
    rw [← hgx] at tx ⊢
    clear hgx ha1 q1 H1
    have hb4 := alloc_below (w := z1) (.cells #[.int .u64 1] 31)
    have r4 := rowC_one z1 1 31
    have hN2 := rNew_ok (neg := false) ((hr2.later H2).later hb4) r4 h2 (Nm.one (by omega)) (by omega) (lP.mono (by omega)) (l1.mono (by omega)) (by omega) (by omega)
    generalize mkR false P 1 = Q2 at *
    clear hr2 h2 lP r4
    go_wp2_with fail
    refine hN2.mono ?_
    rintro r w2 ⟨s2, v1, v2, rfl, hR2, hbF⟩
    obtain ⟨a2, n2, c2, b2, m2, d2, rfl, rfl, q2⟩ := hR2.opens
    have H3 := hb4.trans (hbF.mono hb4.size)
    have tx2 := tx.later H3
    have qx2 := qx.later H3
    have H4 := H2.trans (H3.mono H2.size)
    clear hN2 hb4 hbF hR2 tx qx H3 H2
    go_upto_region 7 with fail
    have ty := st_new w2 (.bool s2) (.slice a2 n2 c2) (.slice b2 m2 d2) 27
    have ha2 := alloc_below (w := w2) (.cells #[.bool s2, .slice a2 n2 c2, .slice b2 m2 d2] 27)
    have qy := q2.later ha2
    have qx3 := qx2.later ha2
    have tx3 := tx2.later ha2
    have H5 := H4.trans (ha2.mono H4.size)
    generalize w2.alloc (.cells #[.bool s2, .slice a2 n2 c2, .slice b2 m2 d2] 27) = z2 at *
    obtain ⟨gy, hgy⟩ : ∃ gy, gy = w2.heap.size := ⟨_, rfl⟩
    rw [← hgy] at ty ⊢
    clear hgy ha2 q2 qx2 tx2 H4
    have hM := rMul_ok qx3 qy zT zP (by omega)
    rw [HM.out] at hM
    obtain ⟨x0, x1, x2⟩ := tx3.cells
    obtain ⟨y0, y1, y2⟩ := ty.cells
    clear qx3 qy zT zP HM
    go_wp2_with fail
    refine hM.mono ?_
    rintro r w3 ⟨s9, v1, v2, rfl, hR, hsz, hbG⟩
    obtain ⟨a9, n9, c9, b9, m9, d9, rfl, rfl, _⟩ := hR.opens
    have H6 := H5.trans (hbG.mono H5.size)
    have tE := st1.later H6
    obtain ⟨p0, p1, p2⟩ := tE.cells
    obtain ⟨o0, o1, o2⟩ := tE.frozen
    have sl := st1.lt
    have hB9 := hb0.trans (H6.mono hb0.size)
    have sz : w.heap.size ≤ z2.heap.size := Nat.le_trans hb0.size H5.size
    have sy : g + 1 < z2.heap.size := Nat.lt_of_lt_of_le sl H5.size
    clear hM x0 x1 x2 y0 y1 y2 tx3 ty hsz st1 hb0 H5 H6 hbG
    go_wp2
    have st9 := (tE.set (.bool s9) (.slice a9 n9 c9) (.slice b9 m9 d9)).cells
    refine bodyPost_ret (v := .tuple #[.agg #[.bool s9, .slice a9 n9 c9, .slice b9 m9 d9], .int .i64 0]) (by simp [results, Tryz.results40, go_sem, st9]) rfl ?_
    exact ⟨_, _, _, rfl, (hR.inn (in3 _ _ _ _ _) sy).lower sz, below_in hB9 (in3 _ _ _ _ _) (by rw [HG.out]; omega) (Nat.le_refl _)⟩
end Go.Proofs.YtjeoiffloghonabGreatDoor

/- The order of values, and of their patterns. -/
namespace Go.Proofs.YtjeoiffloghonabGreatDoor
open Go.ChangeShapes Go.WideShapes Go.ChangeAt Go.RowKit
open Na Ar Lx
set_option linter.unusedVariables false
theorem round_nil {B : Int} (hB : 0 < B) : RoundIs 0 B false false 0 0 0 := by
  have ha : agn 0 B (numW 0) false = 0 := by
    unfold agn
    rw [num_zero', Int.zero_mul, if_neg (by omega), if_pos rfl]
    rfl
  refine ⟨0, ⟨by omega, by unfold mostP; omega, by rw [num_zero']; omega, Or.inr ?_⟩, Or.inl ⟨Or.inl ha, rfl, rfl⟩⟩
  rw [show (0 + 1 : Int) = 1 by omega, num_one']
  omega
theorem vA_nonneg (k : Int) (num : B) (e : Int) : 0 ≤ vA k num e := by
  unfold vA
  have h10 := nv_nonneg (b := 10) (by omega) num
  have h16 := nv_nonneg (b := 16) (by omega) num
  split
  · exact exN_nonneg h10 e
  · split
    · split
      · exact Int.mul_nonneg h16 (Int.pow_nonneg (by omega))
      · exact h16
    · exact h10
theorem vB_pos {k e : Int} {num den : B} (h : refE k num e den = 0) : 0 < vB k e den := by
  obtain ⟨hr, h3⟩ := refE_right h
  unfold vB
  rcases right_kinds hr with ⟨rfl, _⟩ | ⟨rfl, _⟩ | ⟨rfl, _, hd, _⟩
  · rw [if_pos rfl]; exact exD_pos e
  · rw [if_neg (by decide), if_pos rfl]
    split
    · omega
    · exact Int.pow_pos (by omega)
  · rw [if_neg (by decide), if_neg (by decide)]
    exact val_pos_den hd (fun q => h3 ⟨rfl, q⟩)
theorem hex_flat (T e : Int) : scA T e * scB (if 0 ≤ e then 1 else 2 ^ (-e).toNat) 0 = scA (if 0 ≤ e then T * 2 ^ e.toNat else T) 0 * scB 1 e := by
  have z : ∀ x : Int, scB x 0 = x := fun x => by unfold scB; rw [e2_zero (by omega), Int.mul_one]
  rw [z]
  unfold scA scB
  rw [Int.one_mul, Int.zero_add]
  by_cases h : 0 ≤ e
  · rw [if_pos h, if_pos h, e2_zero (k := -(e + 1074)) (by omega), e2_add h (by omega)]
    have q : e2 e = 2 ^ e.toNat := rfl
    rw [q]
    generalize e2 1074 = Z
    generalize (2 : Int) ^ e.toNat = Y
    rw [Int.mul_assoc T Y Z]
  · have q : e2 (-e) = 2 ^ (-e).toNat := rfl
    rw [if_neg h, if_neg h, ← q, Int.mul_assoc, Int.mul_assoc]
    have key : e2 (e + 1074) * e2 (-e) = e2 1074 * e2 (-(e + 1074)) := by
      by_cases h2 : 0 ≤ e + 1074
      · rw [e2_zero (k := -(e + 1074)) (by omega), Int.mul_one, ← e2_add h2 (by omega), show e + 1074 + -e = 1074 by omega]
      · rw [e2_zero (k := e + 1074) (by omega), Int.one_mul, ← e2_add (by omega) (by omega), show 1074 + -(e + 1074) = -e by omega]
    rw [key]
theorem val_flat {k e m F : Int} {num den : B} (h : refE k num e den = 0) (q : ValIs k num e den m F) : RoundIs (scA (vA k num e) 0) (scB (vB k e den) 0) false false 0 m F := by
  obtain ⟨hr, h3⟩ := refE_right h
  have hp := vB_pos h
  unfold ValIs at q
  rcases right_kinds hr with ⟨rfl, _⟩ | ⟨rfl, _⟩ | ⟨rfl, _, hd, _⟩
  · rw [if_pos rfl] at q
    have a1 : vA 1 num e = exN (nv 10 num) e := by unfold vA; rw [if_pos rfl]
    have a2 : vB 1 e den = exD e := by unfold vB; rw [if_pos rfl]
    rw [a1, a2]
    exact q
  · rw [if_neg (by decide), if_pos rfl] at q
    have a1 : vA 2 num e = if 0 ≤ e then nv 16 num * 2 ^ e.toNat else nv 16 num := by unfold vA; rw [if_neg (by decide), if_pos rfl]
    have a2 : vB 2 e den = if 0 ≤ e then 1 else 2 ^ (-e).toNat := by unfold vB; rw [if_neg (by decide), if_pos rfl]
    rw [a2] at hp
    rw [a1, a2]
    exact (round_cross (scB_pos' (by omega)) (scB_pos' hp) (hex_flat (nv 16 num) e)).mp q
  · rw [if_neg (by decide), if_neg (by decide)] at q
    have a1 : vA 3 num e = nv 10 num := by unfold vA; rw [if_neg (by decide), if_neg (by decide)]
    have a2 : vB 3 e den = nv 10 den := by unfold vB; rw [if_neg (by decide), if_neg (by decide)]
    rw [a1, a2]
    exact q
/-- a pattern that is told, by its size -/
theorem bits_flat {k e b : Int} {ng : Bool} {num den : B} (h : BitsIs k ng num e den b 0) (hr : refE k num e den = 0) : ∃ m, 0 ≤ m ∧ m ≤ mostP ∧ b = m + sgB ng ∧ RoundIs (scA (vA k num e) 0) (scB (vB k e den) 0) false false 0 m 0 := by
  rcases h with ⟨a1, _⟩ | ⟨_, rfl, a3, a4⟩ | ⟨a1, a2, m, F, a3, a4⟩
  · exact absurd hr a1
  · refine ⟨0, by omega, by unfold mostP; omega, by omega, ?_⟩
    rw [vA_nil]
    have : scA 0 0 = 0 := by unfold scA; rw [Int.zero_mul]
    rw [this]
    exact round_nil (scB_pos' (vB_pos hr))
  · rcases a4 with ⟨x1, _, x3⟩ | ⟨x1, _, x3⟩
    · exact absurd x3.symm x1
    · subst x1
      rcases val_over a1 a3 with ⟨q, _⟩ | ⟨_, q1, q2⟩
      · exact absurd q (by decide)
      · exact ⟨m, q1, q2, x3, val_flat a1 a3⟩
theorem flat_zero {B m : Int} (hB : 0 < B) (q : RoundIs (scA 0 0) (scB B 0) false false 0 m 0) : m = 0 := by
  have : scA 0 0 = 0 := by unfold scA; rw [Int.zero_mul]
  rw [this] at q
  exact (roundIs_uniq (scB_pos' hB) q (round_nil (scB_pos' hB))).1
end Go.Proofs.YtjeoiffloghonabGreatDoor

/- Distances: the nearest pattern's number. -/
namespace Go.Proofs.YtjeoiffloghonabGreatDoor
open Go.ChangeShapes Go.WideShapes Go.ChangeAt Go.RowKit
open Na Ar Lx
set_option linter.unusedVariables false
namespace Lx
/-- without its sign -/
def absR (q : Rat) : Rat := if q.num < 0 then -q else q
theorem num_lt0 (q : Rat) : q.num < 0 ↔ q < 0 := by
  rw [← Int.not_le, ← Rat.not_le, Rat.num_nonneg]
theorem absR_lt (q : Rat) : absR q = if q < 0 then -q else q := by
  unfold absR
  by_cases h : q < 0
  · rw [if_pos h, if_pos ((num_lt0 q).mpr h)]
  · rw [if_neg h, if_neg (fun k => h ((num_lt0 q).mp k))]
theorem dist_lt {x y q : Rat} (hxy : x < y) (h : q + q < x + y) : absR (x - q) < absR (y - q) := by
  rw [absR_lt, absR_lt]
  split <;> split <;> grind
theorem dist_gt {x y q : Rat} (hxy : x < y) (h : x + y < q + q) : absR (y - q) < absR (x - q) := by
  rw [absR_lt, absR_lt]
  split <;> split <;> grind
theorem dist_eq {x y q : Rat} (hxy : x < y) (h : q + q = x + y) : absR (x - q) = absR (y - q) := by
  rw [absR_lt, absR_lt]
  split <;> split <;> grind
theorem absR_mk {s : Bool} {A B : Int} (hA : 0 ≤ A) (hB : 0 < B) : absR (mkR s A B) = mkR false A B := by
  have hneg : mkR true A B = -(mkR false A B) := by
    unfold mkR
    rw [Rat.neg_mkRat]
    rfl
  have hnn : 0 ≤ mkR false A B := by
    rw [← Rat.num_nonneg, rat_num hA hB, sg_false]
    exact Int.ediv_nonneg hA (by omega)
  rw [absR_lt]
  cases s
  · rw [if_neg (Rat.not_lt.mpr hnn)]
  · rw [hneg]
    generalize mkR false A B = p at *
    split <;> grind
theorem absR_num (q : Rat) : ((absR q).num.natAbs : Int) = (q.num.natAbs : Int) ∧ (absR q).den = q.den ∧ ¬ (absR q).num < 0 := by
  unfold absR
  split
  · next h =>
    rw [Rat.neg_num, Rat.neg_den]
    exact ⟨by omega, rfl, by omega⟩
  · next h => exact ⟨rfl, rfl, h⟩
theorem Rt_abs {w : World} {s : Bool} {a b : Option Addr} {n c m d : Nat} {q : Rat} (h : Rt w s a n c b m d q) : Rt w false a n c b m d (absR q) := by
  obtain ⟨h1, h2, h3⟩ := absR_num q
  refine ⟨by simp only [h3, decide_false], ?_, ?_⟩
  · rw [h1]; exact h.nu
  · rw [h2]; exact h.de
theorem Sz_abs {q : Rat} {k : Nat} (h : Sz q k) : Sz (absR q) k := by
  obtain ⟨h1, h2, h3⟩ := absR_num q
  unfold Sz
  rw [h1, h2]
  exact h
theorem twice_ord {N D x y E : Int} (hN : 0 ≤ N) (hD : 0 < D) (hx : 0 ≤ x) (hy : 0 ≤ y) (hE : 0 < E) : ordR (mkR false N D + mkR false N D) (mkR false x E + mkR false y E) = ordN (2 * (N * E)) ((x + y) * D) := by
  rw [add_mk hD hD, add_mk hE hE]
  have n0 : 0 ≤ N * D := Int.mul_nonneg hN (by omega)
  have x0 : 0 ≤ x * E := Int.mul_nonneg hx (by omega)
  have y0 : 0 ≤ y * E := Int.mul_nonneg hy (by omega)
  rw [ordR_mk (by omega) (Int.mul_pos hD hD) (by omega) (Int.mul_pos hE hE)]
  have s1 : ∀ z : Int, sg false z = z := fun z => rfl
  rw [s1, s1]
  have e1 : (N * D + N * D) * (E * E) = 2 * (N * E) * (D * E) := by grind
  have e2 : (x * E + y * E) * (D * D) = (x + y) * D * (D * E) := by grind
  rw [e1, e2, ordN_mul (Int.mul_pos hD hE)]
theorem mk_lt {x y E : Int} (hx : 0 ≤ x) (h : x < y) (hE : 0 < E) : mkR false x E < mkR false y E := by
  rw [← ordR_neg, ordR_mk hx hE (by omega) hE, sg_false, sg_false, ordN_lt (Int.mul_lt_mul_of_pos_right h hE)]
  decide
/-- the lower of two is the nearer, or as near -/
theorem near_low {N D x y E : Int} {ev : Prop} (hN : 0 ≤ N) (hD : 0 < D) (hx : 0 ≤ x) (hxy : x < y) (hE : 0 < E) (h : 2 * (N * E) ≤ (x + y) * D) (ht : 2 * (N * E) = (x + y) * D → ev) :
    ordR (absR (mkR false x E - mkR false N D)) (absR (mkR false y E - mkR false N D)) < 0 ∨ (ordR (absR (mkR false x E - mkR false N D)) (absR (mkR false y E - mkR false N D)) = 0 ∧ ev) := by
  have o := twice_ord hN hD hx (by omega : 0 ≤ y) hE
  have l := mk_lt hx hxy hE
  generalize mkR false x E = X at *
  generalize mkR false y E = Y at *
  generalize mkR false N D = Q at *
  by_cases q : 2 * (N * E) = (x + y) * D
  · right
    rw [ordN_eq q, ordR_zero] at o
    exact ⟨ordR_zero.mpr (dist_eq l o), ht q⟩
  · left
    rw [ordN_lt (by omega)] at o
    have o' : Q + Q < X + Y := ordR_neg.mp (by rw [o]; decide)
    exact ordR_neg.mpr (dist_lt l o')
/-- the upper of two is the nearer, or as near -/
theorem near_high {N D x y E : Int} {ev : Prop} (hN : 0 ≤ N) (hD : 0 < D) (hx : 0 ≤ x) (hxy : x < y) (hE : 0 < E) (h : (x + y) * D ≤ 2 * (N * E)) (ht : (x + y) * D = 2 * (N * E) → ev) :
    ordR (absR (mkR false y E - mkR false N D)) (absR (mkR false x E - mkR false N D)) < 0 ∨ (ordR (absR (mkR false y E - mkR false N D)) (absR (mkR false x E - mkR false N D)) = 0 ∧ ev) := by
  have o := twice_ord hN hD hx (by omega : 0 ≤ y) hE
  have l := mk_lt hx hxy hE
  generalize mkR false x E = X at *
  generalize mkR false y E = Y at *
  generalize mkR false N D = Q at *
  by_cases q : (x + y) * D = 2 * (N * E)
  · right
    rw [ordN_eq q.symm, ordR_zero] at o
    exact ⟨ordR_zero.mpr (dist_eq l o).symm, ht q⟩
  · left
    have o1 : ordR (X + Y) (Q + Q) < 0 := by
      rw [ordR_swap, o, ordN_gt (by omega)]; decide
    exact ordR_neg.mpr (dist_gt l (ordR_neg.mp o1))
theorem reach_num : numW mostP + (numW mostP - numW (mostP - 1)) = nxtN mostP := by
  have h := num_succ (p := mostP - 1) (by unfold mostP; omega) (by omega)
  rw [show mostP - 1 + 1 = mostP by omega] at h
  have s : stepN (mostP - 1) = stepN mostP := by decide
  unfold nxtN at h ⊢
  rw [s] at h
  omega
theorem numW_pos0 (p : Int) (h0 : 0 ≤ p) (h1 : p ≤ mostP) : 0 ≤ numW p := by
  obtain ⟨a, b, _⟩ := size_fin h0 h1
  obtain ⟨q, e1, e2', e3, e4, e5, e6⟩ := num_parts a b
  unfold numW
  exact Int.mul_nonneg e3 (Int.pow_nonneg (by omega))
theorem mkR_sub_same {a b E : Int} (hE : 0 < E) : mkR false a E + (mkR false a E - mkR false b E) = mkR false (a + (a - b)) E := by
  have key : ∀ x : Int, mkR false x E = ((x : Int) : Rat) / ((E : Int) : Rat) := fun x => by
    unfold mkR
    rw [Rat.mkRat_eq_div, sg_false]
    have : (((E.toNat : Nat) : Int) : Rat) = ((E : Int) : Rat) := by rw [Int.toNat_of_nonneg (by omega)]
    rw [← this]
    rfl
  have p : ((E : Int) : Rat) ≠ 0 := by
    intro h
    have : E = 0 := Rat.intCast_inj.mp (by rw [h]; rfl)
    omega
  rw [key, key, key, Rat.intCast_add, Rat.intCast_sub]
  generalize ((E : Int) : Rat) = e at *
  generalize ((a : Int) : Rat) = u
  generalize ((b : Int) : Rat) = v
  grind
/-- where a number is beyond all patterns -/
theorem reach_ord {N D E : Int} (hN : 0 ≤ N) (hD : 0 < D) (hE : 0 < E) :
    (ordR (mkR false N D) (mkR false (numW mostP) E + (mkR false (numW mostP) E - mkR false (numW (mostP - 1)) E) / ((2 : Int) : Rat)) < 0) ↔ 2 * (N * E) < (numW mostP + nxtN mostP) * D := by
  have hm : 0 ≤ numW mostP := numW_pos0 _ (by decide) (by omega)
  have hn : numW mostP < nxtN mostP := nxt_gt mostP
  have o := twice_ord hN hD hm (by omega : 0 ≤ nxtN mostP) hE
  have s := mkR_sub_same (a := numW mostP) (b := numW (mostP - 1)) hE
  rw [reach_num] at s
  rw [← s] at o
  rw [ordR_neg]
  have two : (((2 : Int)) : Rat) = 2 := rfl
  rw [two]
  have c : ordN (2 * (N * E)) ((numW mostP + nxtN mostP) * D) < 0 ↔ 2 * (N * E) < (numW mostP + nxtN mostP) * D := by
    rcases Int.lt_trichotomy (2 * (N * E)) ((numW mostP + nxtN mostP) * D) with h | h | h
    · rw [ordN_lt h]; omega
    · rw [ordN_eq h]; omega
    · rw [ordN_gt h]; omega
  rw [← c, ← o, ordR_neg]
  generalize mkR false N D = Q
  generalize mkR false (numW mostP) E = X
  generalize mkR false (numW (mostP - 1)) E = Z
  constructor <;> intro h <;> grind
end Lx
end Go.Proofs.YtjeoiffloghonabGreatDoor

/- plumblaw11: size, apart, farther. -/
namespace Go.Proofs.YtjeoiffloghonabGreatDoor
open Go.ChangeShapes Go.WideShapes Go.ChangeAt Go.RowKit
open Na Ar Lx
set_option linter.unusedVariables false
theorem two_rats (w : World) (x y z x' y' z' : Value) : ∃ w0, w0 = (w.alloc (.cells #[x, y, z] 27)).alloc (.cells #[x', y', z'] 27) ∧ Bk w0 w.heap.size 27 #[x, y, z] ∧ Bk w0 (w.heap.size + 1) 27 #[x', y', z'] ∧ Below w.heap.size w w0 ∧ w0.heap.size = w.heap.size + 1 + 1 := by
  have b1 : Below w.heap.size w (w.alloc (.cells #[x, y, z] 27)) := (Below.refl _ w).alloc (Nat.le_refl _) _
  have b2 := alloc_below (w := w.alloc (.cells #[x, y, z] 27)) (.cells #[x', y', z'] 27)
  have B1 : Bk (w.alloc (.cells #[x, y, z] 27)) w.heap.size 27 #[x, y, z] := Bk.new _ _ _
  have B2 : Bk ((w.alloc (.cells #[x, y, z] 27)).alloc (.cells #[x', y', z'] 27)) (w.alloc (.cells #[x, y, z] 27)).heap.size 27 #[x', y', z'] := Bk.new _ _ _
  rw [World.size_alloc] at B2
  exact ⟨_, rfl, B1.later b2, B2, b1.trans (b2.mono b1.size), by simp⟩
theorem RtO_later {w w' : World} {base : Nat} {s : Bool} {v1 v2 : Value} {q : Rat} (h : RtO w base s v1 v2 q) (hb : Below w.heap.size w w') : RtO w' base s v1 v2 q :=
  ⟨h.sgn, own_same h.nu fun g hg => hb.block g (own_blk h.nu hg).2, own_same h.de fun g hg => hb.block g (own_blk h.de hg).2, h.ap⟩
theorem RtO_rt {w : World} {base : Nat} {s : Bool} {a b : Option Addr} {n c m d : Nat} {q : Rat} (h : RtO w base s (.slice a n c) (.slice b m d) q) : Rt w s a n c b m d q := by
  obtain ⟨a', n', c', b', m', d', e1, e2, r⟩ := h.opens
  simp only [Value.slice.injEq] at e1 e2
  obtain ⟨rfl, rfl, rfl⟩ := e1
  obtain ⟨rfl, rfl, rfl⟩ := e2
  exact r
set_option maxHeartbeats 1600000 in
set_option maxRecDepth 100000 in
theorem size11_any (s : Bool) (a b : Option Addr) (n c m d : Nat) (w : World) :
    Calls Tryz.prog 17 #[.agg #[.bool s, .slice a n c, .slice b m d]] w fun r w' => r = .returned (.agg #[.bool false, .slice a n c, .slice b m d]) ∧ Below w.heap.size w w' := by
  obtain ⟨w0, hw0, B1, B2, hb0, e0⟩ := two_rats w (.bool s) (.slice a n c) (.slice b m d) (.bool false) (.slice none 0 0) (.slice none 0 0)
  obtain ⟨g, hg⟩ : ∃ g, g = w.heap.size := ⟨_, rfl⟩
  have HG : Hid (w.heap.size = g) := hg.symm
  rw [← hg] at B1 B2
  have x0 := B1.cell 0 (v := .bool s) rfl
  have x1 := B1.cell 1 (v := .slice a n c) rfl
  have x2 := B1.cell 2 (v := .slice b m d) rfl
  have f0 := B1.frozen 0
  have y0 := B2.cell 0 (v := .bool false) rfl
  have y1 := B2.cell 1 (v := .slice none 0 0) rfl
  have y2 := B2.cell 2 (v := .slice none 0 0) rfl
  have k0 := B2.frozen 0
  have k1 := B2.frozen 1
  have k2 := B2.frozen 2
  have ne1 : ¬ g = g + 1 := by omega
  have ne2 : ¬ g + 1 = g := by omega
  go_enter Tryz.func17, Tryz.ntmps17
  go_upto_region 1 with fail
  rw [← hw0, ← hg]
  clear hw0 hg
  go_wp2
  have T1 := (Tn.refl g w0).set 0 (.bool false)
  have C2 := Bk.set (Bk.set (Bk.set (Bk.tn B2 T1 (by omega)) 0 (.bool false)) 1 (.slice a n c)) 2 (.slice b m d)
  have T2 := (((Tn.refl (g + 1) (w0.setCell ⟨g, 0, none⟩ (.bool false))).set 0 (.bool false)).set 1 (.slice a n c)).set 2 (.slice b m d)
  have r0 := C2.cell 0 (v := .bool false) rfl
  have r1 := C2.cell 1 (v := .slice a n c) rfl
  have r2 := C2.cell 2 (v := .slice b m d) rfl
  refine bodyPost_ret (v := .agg #[.bool false, .slice a n c, .slice b m d]) (by simp [results, Tryz.results17, go_sem, r0, r1, r2]) rfl ?_
  exact ⟨rfl, Tn.below (Tn.below hb0 T1 (by rw [HG.out]; exact Nat.le_refl _) (Nat.le_refl _)) T2 (by rw [HG.out]; omega) (Nat.le_refl _)⟩
theorem size_at {s : Bool} {a b : Option Addr} {n c m d : Nat} {w0 w1 : World} (h : Below w0.heap.size w0 w1) :
    Calls Tryz.prog 17 #[.agg #[.bool s, .slice a n c, .slice b m d]] w1 fun r w' => r = .returned (.agg #[.bool false, .slice a n c, .slice b m d]) ∧ Below w0.heap.size w0 w' ∧ Below w1.heap.size w1 w' := by
  refine (size11_any s a b n c m d w1).mono ?_
  rintro r w' ⟨rfl, hb⟩
  exact ⟨rfl, h.trans (hb.mono h.size), hb⟩
set_option maxHeartbeats 6400000 in
set_option maxRecDepth 100000 in
theorem apart11_any {b : Int} (hu : U b) (hf : ef b ≠ 2047) {w : World} {s : Bool} {a b2 : Option Addr} {n c m d : Nat} {q : Rat} {k : Nat} (hR : Rt w s a n c b2 m d q) (hz : Sz q k) (hk : k ≤ 4000) :
    Calls Tryz.prog 59 #[.int .u64 b, .agg #[.bool s, .slice a n c, .slice b2 m d]] w fun r w' => ∃ a' n' c' b' m' d', r = .returned (.tuple #[.agg #[.bool false, .slice a' n' c', .slice b' m' d'], .bool true]) ∧ Rt w' false a' n' c' b' m' d' (absR (valR b - q)) ∧ Sz (absR (valR b - q)) (20 + k + 1) ∧ Below w.heap.size w w' := by
  obtain ⟨w0, hw0, B1, B2, hb0, e0⟩ := two_rats w (.bool s) (.slice a n c) (.slice b2 m d) (.bool false) (.slice none 0 0) (.slice none 0 0)
  have zv := value_size hu hf
  have hV := fun w => nearValue_fin hu hf w
  obtain ⟨g, hg⟩ : ∃ g, g = w.heap.size := ⟨_, rfl⟩
  have HG : Hid (w.heap.size = g) := hg.symm
  rw [← hg] at B1 B2
  have q0 := hR.later hb0
  generalize valR b = V at *
  go_enter Tryz.func59, Tryz.ntmps59
  go_wp2_with fail
  rw [← hw0, ← hg]
  clear hw0 hg
  refine (hV _).mono ?_
  rintro r w1 ⟨s1, v1, v2, rfl, hR1, hb1⟩
  obtain ⟨a1, n1, c1, b1, m1, d1, rfl, rfl, q1⟩ := hR1.opens
  clear hV hR1
  go_upto_region 2 with fail
  have tx := st_new w1 (.bool s1) (.slice a1 n1 c1) (.slice b1 m1 d1) 27
  have ha1 := alloc_below (w := w1) (.cells #[.bool s1, .slice a1 n1 c1, .slice b1 m1 d1] 27)
  have qx := q1.later ha1
  have H1 := hb1.trans (ha1.mono hb1.size)
  generalize w1.alloc (.cells #[.bool s1, .slice a1 n1 c1, .slice b1 m1 d1] 27) = z1 at *
  obtain ⟨gx, hgx⟩ : ∃ gx, gx = w1.heap.size := ⟨_, rfl⟩
  rw [← hgx] at tx ⊢
  clear hgx ha1 q1 hb1
  have B3 := B1.later H1
  have x0 := B3.cell 0 (v := .bool s) rfl
  have x1 := B3.cell 1 (v := .slice a n c) rfl
  have x2 := B3.cell 2 (v := .slice b2 m d) rfl
  obtain ⟨y0, y1, y2⟩ := tx.cells
  have hS := rSub_ok qx (q0.later H1) zv hz (by omega)
  clear q0 qx
  go_wp2_with fail
  refine hS.mono ?_
  rintro r w2 ⟨s2, v1, v2, rfl, hR2, z2', hb2⟩
  obtain ⟨a2, n2, c2, b3, m2, d2, rfl, rfl, q2⟩ := hR2.opens
  have H2 := H1.trans (hb2.mono H1.size)
  have sb : g + 1 < z1.heap.size := Nat.lt_of_lt_of_le B2.lt H1.size
  clear hS q2 hb2 x0 x1 x2 y0 y1 y2 tx B3 H1
  go_upto_region 5 with fail
  have ty := st_new w2 (.bool s2) (.slice a2 n2 c2) (.slice b3 m2 d2) 27
  have ha2 := alloc_below (w := w2) (.cells #[.bool s2, .slice a2 n2 c2, .slice b3 m2 d2] 27)
  have qy := RtO_later hR2 ha2
  have H3 := H2.trans (ha2.mono H2.size)
  generalize w2.alloc (.cells #[.bool s2, .slice a2 n2 c2, .slice b3 m2 d2] 27) = z2 at *
  obtain ⟨gy, hgy⟩ : ∃ gy, gy = w2.heap.size := ⟨_, rfl⟩
  rw [← hgy] at ty ⊢
  clear hgy ha2 hR2 H2
  obtain ⟨y0, y1, y2⟩ := ty.cells
  have hZ := size11_any s2 a2 b3 n2 c2 m2 d2 z2
  go_wp2_with fail
  refine hZ.mono ?_
  rintro r w3 ⟨rfl, hb3⟩
  have q3 := RtO_later qy hb3
  have zq := Sz_abs z2'
  have H4 := H3.trans (hb3.mono H3.size)
  have B4 := B2.later H4
  have k0 := B4.cell 0 (v := .bool false) rfl
  have k1 := B4.cell 1 (v := .slice none 0 0) rfl
  have k2 := B4.cell 2 (v := .slice none 0 0) rfl
  have f0 := B4.frozen 0
  have f1 := B4.frozen 1
  have f2 := B4.frozen 2
  have hB9 := hb0.trans (H4.mono hb0.size)
  clear hZ hb3 ty y0 y1 y2 qy H3
  go_wp2
  have C2 := Bk.set (Bk.set (Bk.set B4 0 (.bool false)) 1 (.slice a2 n2 c2)) 2 (.slice b3 m2 d2)
  have T2 := (((Tn.refl (g + 1) w3).set 0 (.bool false)).set 1 (.slice a2 n2 c2)).set 2 (.slice b3 m2 d2)
  have r0 := C2.cell 0 (v := .bool false) rfl
  have r1 := C2.cell 1 (v := .slice a2 n2 c2) rfl
  have r2 := C2.cell 2 (v := .slice b3 m2 d2) rfl
  refine bodyPost_ret (v := .tuple #[.agg #[.bool false, .slice a2 n2 c2, .slice b3 m2 d2], .bool true]) (by simp [results, Tryz.results59, go_sem, r0, r1, r2]) rfl ?_
  exact ⟨_, _, _, _, _, _, rfl, Rt_abs (RtO_rt (q3.inn (in3 _ _ _ _ _) sb)), zq, Tn.below hB9 T2 (by rw [HG.out]; omega) (Nat.le_refl _)⟩
set_option maxHeartbeats 6400000 in
set_option maxRecDepth 100000 in
theorem farther11_any {b c : Int} (hub : U b) (hfb : ef b ≠ 2047) (huc : U c) (hfc : ef c ≠ 2047) {w : World} {s : Bool} {a b2 : Option Addr} {n cc m d : Nat} {q : Rat} {k : Nat} (hR : Rt w s a n cc b2 m d q) (hz : Sz q k) (hk : k ≤ 2020)
    (hT : ordR (absR (valR b - q)) (absR (valR c - q)) < 0 ∨ (ordR (absR (valR b - q)) (absR (valR c - q)) = 0 ∧ b % 2 = 0)) :
    Calls Tryz.prog 19 #[.int .u64 b, .int .u64 c, .agg #[.bool s, .slice a n cc, .slice b2 m d]] w fun r w' => r = .returned (.bool true) ∧ Below w.heap.size w w' := by
  have hb0 : Below w.heap.size w (w.alloc (.cells #[.bool s, .slice a n cc, .slice b2 m d] 27)) := (Below.refl _ w).alloc (Nat.le_refl _) _
  have B0 : Bk (w.alloc (.cells #[.bool s, .slice a n cc, .slice b2 m d] 27)) w.heap.size 27 #[.bool s, .slice a n cc, .slice b2 m d] := Bk.new _ _ _
  have q0 := hR.later hb0
  have hA1 := fun {w : World} (h : Rt w s a n cc b2 m d q) => apart11_any hub hfb h hz (by omega)
  have hA2 := fun {w : World} (h : Rt w s a n cc b2 m d q) => apart11_any huc hfc h hz (by omega)
  obtain ⟨K, hK⟩ : ∃ K, ordR (absR (valR b - q)) (absR (valR c - q)) = K := ⟨_, rfl⟩
  rw [hK] at hT
  generalize absR (valR b - q) = X at *
  generalize absR (valR c - q) = Y at *
  obtain ⟨w0, hw0⟩ : ∃ w0, w0 = w.alloc (.cells #[.bool s, .slice a n cc, .slice b2 m d] 27) := ⟨_, rfl⟩
  rw [← hw0] at hb0 B0 q0
  obtain ⟨g, hg⟩ : ∃ g, g = w.heap.size := ⟨_, rfl⟩
  rw [← hg] at B0
  go_enter Tryz.func19, Tryz.ntmps19
  go_wp2_with fail
  rw [← hw0, ← hg]
  clear hw0 hg
  refine (hA1 q0).mono ?_
  rintro r w1 ⟨a1, n1, c1, b1, m1, d1, rfl, q1, z1', hb1⟩
  clear hA1
  go_upto_region 2 with fail
  have tx := st_new w1 (.bool false) (.slice a1 n1 c1) (.slice b1 m1 d1) 27
  have ha1 := alloc_below (w := w1) (.cells #[.bool false, .slice a1 n1 c1, .slice b1 m1 d1] 27)
  have qx := q1.later ha1
  have H1 := hb1.trans (ha1.mono hb1.size)
  generalize w1.alloc (.cells #[.bool false, .slice a1 n1 c1, .slice b1 m1 d1] 27) = z1 at *
  obtain ⟨gx, hgx⟩ : ∃ gx, gx = w1.heap.size := ⟨_, rfl⟩
  rw [← hgx] at tx ⊢
  clear hgx ha1 q1 hb1
  have B3 := B0.later H1
  have x0 := B3.cell 0 (v := .bool s) rfl
  have x1 := B3.cell 1 (v := .slice a n cc) rfl
  have x2 := B3.cell 2 (v := .slice b2 m d) rfl
  go_wp2_with fail
  refine (hA2 (q0.later H1)).mono ?_
  rintro r w2 ⟨a2, n2, c2, b3, m2, d2, rfl, q2, z2', hb2⟩
  have H2 := H1.trans (hb2.mono H1.size)
  have tx2 := tx.later hb2
  have qx2 := qx.later hb2
  clear hA2 q0 x0 x1 x2 B3 B0 tx qx H1 hb2
  go_upto_region 3 with fail
  have ty := st_new w2 (.bool false) (.slice a2 n2 c2) (.slice b3 m2 d2) 27
  have ha2 := alloc_below (w := w2) (.cells #[.bool false, .slice a2 n2 c2, .slice b3 m2 d2] 27)
  have qy := q2.later ha2
  have qx3 := qx2.later ha2
  have tx3 := tx2.later ha2
  have H3 := H2.trans (ha2.mono H2.size)
  generalize w2.alloc (.cells #[.bool false, .slice a2 n2 c2, .slice b3 m2 d2] 27) = z2 at *
  obtain ⟨gy, hgy⟩ : ∃ gy, gy = w2.heap.size := ⟨_, rfl⟩
  rw [← hgy] at ty ⊢
  clear hgy ha2 q2 qx2 tx2 H2
  obtain ⟨x0, x1, x2⟩ := tx3.cells
  obtain ⟨y0, y1, y2⟩ := ty.cells
  have hC := rCmp_ok qx3 qy z1' z2' (by omega) hK
  clear hK
  go_wp2_with fail
  refine hC.mono ?_
  rintro r w3 ⟨rfl, hb3⟩
  have H4 := H3.trans (hb3.mono H3.size)
  have hB9 := hb0.trans (H4.mono hb0.size)
  clear hC x0 x1 x2 y0 y1 y2 tx3 ty qx3 qy hb3 H3 H4 hb0
  rcases hT with hk | ⟨rfl, he⟩
  · have t1 : decide (K < 0) = true := by simp; omega
    go_wp2
    go_ret
    exact ⟨rfl, hB9⟩
  · have u0 := hub.1
    have t2 : (b % 2 == 0) = true := by simp [he]
    have t3 : (b.tmod 2 == 0) = true := by rw [Int.tmod_eq_emod_of_nonneg u0]; exact t2
    go_wp2
    go_ret
    exact ⟨rfl, hB9⟩
end Go.Proofs.YtjeoiffloghonabGreatDoor

/- package lex: Value. -/
namespace Go.Proofs.YtjeoiffloghonabGreatDoor
open Go.ChangeShapes Go.WideShapes Go.ChangeAt Go.RowKit
open Na Ar Lx
set_option linter.unusedVariables false
set_option maxHeartbeats 12800000 in
set_option maxRecDepth 100000 in
theorem value9_any (k : Int) (ng : Bool) (nu : ByteArray) (e : Int) (de : ByteArray) (hE : refE k nu.data.toList e de.data.toList = 0) (hn : nu.size ≤ 400) (hd : de.size ≤ 400) (e0 : -1500 ≤ e) (e1 : e ≤ 1500) (w : World) :
    Calls Tryz.prog 7 #[.agg (numC k ng nu e de)] w fun r w' => ∃ s v1 v2, r = .returned (.tuple #[.agg #[.bool s, v1, v2], .int .i64 0]) ∧ RtO w' w.heap.size s v1 v2 (mkR ng (vA k nu.data.toList e) (vB k e de.data.toList)) ∧ Below w.heap.size w w' := by
  obtain ⟨hr, h3⟩ := refE_right hE
  have hC : ∀ w, Calls Tryz.prog 35 #[.agg (numC k ng nu e de)] w fun r w' => r = .returned (.int .i64 0) ∧ Below w.heap.size w w' := fun w => by
    have := check9_any k ng nu e de (by omega) (by omega) w
    rw [hr, if_pos rfl] at this
    exact this
  have sz : nu.size = nu.data.toList.length := Lib.size_eq nu
  have sd : de.size = de.data.toList.length := Lib.size_eq de
  have hem : nu.toList.isEmpty = nu.data.toList.isEmpty := by rw [Lib.toList_data]
  have hed : de.toList.isEmpty = de.data.toList.isEmpty := by rw [Lib.toList_data]
  have hb1 : Below w.heap.size w (w.alloc (.cells (numC k ng nu e de) 23)) := (Below.refl _ w).alloc (Nat.le_refl _) _
  have B1 : Bk (w.alloc (.cells (numC k ng nu e de) 23)) w.heap.size 23 (numC k ng nu e de) := Bk.new _ _ _
  have st1 := st_new (w.alloc (.cells (numC k ng nu e de) 23)) (.bool false) (.slice none 0 0) (.slice none 0 0) 27
  have hb2 := alloc_below (w := w.alloc (.cells (numC k ng nu e de) 23)) (.cells #[.bool false, .slice none 0 0, .slice none 0 0] 27)
  have hb0 := hb1.trans (hb2.mono hb1.size)
  have B0 := B1.later hb2
  rw [World.size_alloc] at st1
  obtain ⟨w0, hw0⟩ : ∃ w0, w0 = (w.alloc (.cells (numC k ng nu e de) 23)).alloc (.cells #[.bool false, .slice none 0 0, .slice none 0 0] 27) := ⟨_, rfl⟩
  rw [← hw0] at st1 hb0 B0
  obtain ⟨g, hg⟩ : ∃ g, g = w.heap.size := ⟨_, rfl⟩
  have HG : Hid (w.heap.size = g) := hg.symm
  rw [← hg] at B0 st1
  have hcl : ∀ w1, Below w0.heap.size w0 w1 → w1.cell? ⟨g, 0, none⟩ = some (.int .i64 k) ∧ w1.cell? ⟨g, 1, none⟩ = some (.bool ng) ∧ w1.cell? ⟨g, 2, none⟩ = some (.string nu) ∧ w1.cell? ⟨g, 3, none⟩ = some (.int .i64 e) ∧ w1.cell? ⟨g, 4, none⟩ = some (.string de) := fun w1 h => ⟨(B0.later h).cell 0 rfl, (B0.later h).cell 1 rfl, (B0.later h).cell 2 rfl, (B0.later h).cell 3 rfl, (B0.later h).cell 4 rfl⟩
  have sl := st1.lt
  have sw := hb0.size
  have ne1 : ¬ g = g + 1 := by omega
  have ne2 : ¬ g + 1 = g := by omega
  have FIN : ∀ {wB : World} {s9 : Bool} {a9 b9 : Option Addr} {n9 c9 m9 d9 : Nat} {q : Rat} {base : Nat}, RtO wB base s9 (.slice a9 n9 c9) (.slice b9 m9 d9) q → w0.heap.size ≤ base → Below w0.heap.size w0 wB → RtO (((wB.setCell ⟨g + 1, 0, none⟩ (.bool s9)).setCell ⟨g + 1, 1, none⟩ (.slice a9 n9 c9)).setCell ⟨g + 1, 2, none⟩ (.slice b9 m9 d9)) w.heap.size s9 (.slice a9 n9 c9) (.slice b9 m9 d9) q ∧ Below w.heap.size w (((wB.setCell ⟨g + 1, 0, none⟩ (.bool s9)).setCell ⟨g + 1, 1, none⟩ (.slice a9 n9 c9)).setCell ⟨g + 1, 2, none⟩ (.slice b9 m9 d9)) := fun hR hba hB =>
    ⟨(hR.inn (in3 _ _ _ _ _) (by omega)).lower (by omega), below_in (hb0.trans (hB.mono hb0.size)) (in3 _ _ _ _ _) (by rw [HG.out]; omega) (Nat.le_refl _)⟩
  clear hb1 hb2 B1 B0
  rcases right_kinds hr with ⟨rfl, q1, q2, q3⟩ | ⟨rfl, q1, q2, q3⟩ | ⟨rfl, q1, q2, q3⟩
  · by_cases hz : nu.data.toList = []
    · clear q1 q2 q3 hed
      have HV : Hid (((0 : Int) : Rat) = mkR ng (vA 1 nu.data.toList e) (vB 1 e de.data.toList)) := by show _ = _; rw [hz, vA_nil, mkR_zero]
      rw [← HV.out]
      rw [hz] at hem
      have hem' : nu.toList.isEmpty = true := hem
      have hI := fun w => rInt_any (v := 0) (by omega) (by omega) w
      clear hem hE hr h3 HV
      unfold numC at hC hw0 ⊢
      go_enter Tryz.func7, Tryz.ntmps7
      go_wp2_with fail
      rw [← hw0, ← hg]
      refine (hC _).mono ?_
      rintro r w1 ⟨rfl, hbC⟩
      obtain ⟨z0, z1, z2, z3, z4⟩ := hcl w1 hbC
      clear hC hw0 hg
      go_wp2_with fail
      refine (hI _).mono ?_
      rintro r w2 ⟨s9, v1, v2, rfl, hR, hb2⟩
      obtain ⟨a9, n9, c9, b9, m9, d9, rfl, rfl, _⟩ := hR.opens
      have HB := hbC.trans (hb2.mono hbC.size)
      have tE := st1.later HB
      obtain ⟨p0, p1, p2⟩ := tE.cells
      obtain ⟨o0, o1, o2⟩ := tE.frozen
      have sb := hbC.size
      clear hI
      go_wp2
      have st9 := (tE.set (.bool s9) (.slice a9 n9 c9) (.slice b9 m9 d9)).cells
      refine bodyPost_ret (v := .tuple #[.agg #[.bool s9, .slice a9 n9 c9, .slice b9 m9 d9], .int .i64 0]) (by simp [results, Tryz.results7, go_sem, st9]) rfl ?_
      exact ⟨_, _, _, rfl, (FIN hR sb HB).1, (FIN hR sb HB).2⟩
    · obtain ⟨k1, k2, k3, k4⟩ := kept_dec q1 hz
      clear q1 q2 q3 hed
      have hem' : nu.toList.isEmpty = false := by rw [hem]; cases hl : nu.data.toList with | nil => exact absurd hl hz | cons c r => rfl
      have hd9 : okB 10 nu.data.toList := okB_ten k3
      have lT := nv_LtV (b := 10) (by omega) (by omega) hd9
      rw [← sz] at lT
      obtain ⟨t, ht⟩ : ∃ t : Nat, (e.natAbs : Int) = (t : Int) := ⟨e.natAbs, rfl⟩
      have hDi := fun w => distance9_any (e := e) (by omega) (by omega) w
      rw [ht] at hDi
      have hPw := fun w => ten9_any (by omega : t ≤ 2000) w
      have lP := lt_pow_v (b := 10) (by omega) (by omega) t
      have hP : (0 : Int) < 10 ^ t := Int.pow_pos (by omega)
      have hN := fun {w0 w1 : World} (h : Below w0.heap.size w0 w1) => number9_at nu (b := 10) (by omega) (by omega) (by omega) hd9 h
      have HV : Hid ((if e < 0 then mkR ng (nv 10 nu.data.toList) (10 ^ t) else mkR ng (nv 10 nu.data.toList * 10 ^ t) 1) = mkR ng (vA 1 nu.data.toList e) (vB 1 e de.data.toList)) := by
        show _ = _
        unfold vA vB exN exD
        rw [if_pos rfl, if_pos rfl]
        by_cases he : e < 0
        · rw [if_pos he, if_neg (by omega), if_neg (by omega)]; congr 2; omega
        · rw [if_neg he, if_pos (by omega), if_pos (by omega)]; congr 3; omega
      rw [← HV.out]
      generalize nv 10 nu.data.toList = T at *
      generalize (10 : Int) ^ t = PW at *
      have hSc := fun {w : World} {a b : Option Addr} {n c m d : Nat} {xs ys : List Int} (hr1 : RowC w a n c xs) (hr2 : RowC w b m d ys) (h1 : Nm xs T) (h2 : Nm ys PW) (l1 : xs.length ≤ 100000) (l2 : ys.length ≤ 100000) => scaled9_any 1 ng nu e de hr1 hr2 h1 h2 hP (lT.mono (by omega : nu.size ≤ 401)) (lP.mono (by omega : t + 1 ≤ 1600)) (by omega) (by omega) (by omega) l1 l2
      generalize (if e < 0 then mkR ng T PW else mkR ng (T * PW) 1) = QQ at *
      clear hem hE hr h3 HV hd9 lT lP hP k1 k2 k3 k4 hz
      unfold numC at hC hSc hw0 ⊢
      go_enter Tryz.func7, Tryz.ntmps7
      go_wp2_with fail
      rw [← hw0, ← hg]
      refine (hC _).mono ?_
      rintro r w1 ⟨rfl, hbC⟩
      obtain ⟨z0, z1, z2, z3, z4⟩ := hcl w1 hbC
      clear hC hw0 hg
      go_wp2_with fail
      refine (hDi _).mono ?_
      rintro r wD ⟨rfl, rfl⟩
      clear hDi
      go_wp2_with fail
      refine (hPw _).mono ?_
      rintro r wP ⟨ap, np, cp, lp, rfl, rp, mp, lpl, hbP⟩
      have HP := hbC.trans (hbP.mono hbC.size)
      obtain ⟨z0, z1, z2, z3, z4⟩ := hcl wP HP
      clear hPw
      have tP := st1.later HP
      obtain ⟨p0, p1, p2⟩ := tP.cells
      have slP := tP.lt
      go_wp2_with fail
      go_region_held3 (fun w' => w'.cell? ⟨g, 0, none⟩ = some (.int .i64 1) ∧ w'.cell? ⟨g, 1, none⟩ = some (.bool ng) ∧ w'.cell? ⟨g, 2, none⟩ = some (.string nu) ∧ w'.cell? ⟨g, 3, none⟩ = some (.int .i64 e) ∧ w'.cell? ⟨g, 4, none⟩ = some (.string de)) (go_keep) (first | (go_at_call 37; refine (hN (w0 := wP) (by first | exact Below.refl _ _ | exact below_drewN (Below.refl _ _) _)).mono ?_; rintro r wA ⟨aA, nA, cA, lA, rfl, rA, mA, lAl, hBA, hbA⟩; have HA := HP.trans (hBA.mono HP.size); obtain ⟨z0, z1, z2, z3, z4⟩ := hcl wA HA; have rpA := rp.later hBA) | (go_at_call 40; refine (hSc rA rpA mA mp (by omega) (by omega)).mono ?_; rintro r wB ⟨s9, v1, v2, rfl, hR, hbB⟩; obtain ⟨a9, n9, c9, b9, m9, d9, rfl, rfl, _⟩ := hR.opens; have HB := HA.trans (hbB.mono HA.size); obtain ⟨z0, z1, z2, z3, z4⟩ := hcl wB HB; have tE := st1.later HB; obtain ⟨p0, p1, p2⟩ := tE.cells; obtain ⟨o0, o1, o2⟩ := tE.frozen; have sb := HA.size))
      go_wp2
      have st9 := (tE.set (.bool s9) (.slice a9 n9 c9) (.slice b9 m9 d9)).cells
      refine bodyPost_ret (v := .tuple #[.agg #[.bool s9, .slice a9 n9 c9, .slice b9 m9 d9], .int .i64 0]) (by simp [results, Tryz.results7, go_sem, st9]) rfl ?_
      exact ⟨_, _, _, rfl, (FIN hR sb HB).1, (FIN hR sb HB).2⟩
  · by_cases hz : nu.data.toList = []
    · clear q1 q2 q3 hed
      have HV : Hid (((0 : Int) : Rat) = mkR ng (vA 2 nu.data.toList e) (vB 2 e de.data.toList)) := by show _ = _; rw [hz, vA_nil, mkR_zero]
      rw [← HV.out]
      rw [hz] at hem
      have hem' : nu.toList.isEmpty = true := hem
      have hI := fun w => rInt_any (v := 0) (by omega) (by omega) w
      clear hem hE hr h3 HV
      unfold numC at hC hw0 ⊢
      go_enter Tryz.func7, Tryz.ntmps7
      go_wp2_with fail
      rw [← hw0, ← hg]
      refine (hC _).mono ?_
      rintro r w1 ⟨rfl, hbC⟩
      obtain ⟨z0, z1, z2, z3, z4⟩ := hcl w1 hbC
      clear hC hw0 hg
      go_wp2_with fail
      refine (hI _).mono ?_
      rintro r w2 ⟨s9, v1, v2, rfl, hR, hb2⟩
      obtain ⟨a9, n9, c9, b9, m9, d9, rfl, rfl, _⟩ := hR.opens
      have HB := hbC.trans (hb2.mono hbC.size)
      have tE := st1.later HB
      obtain ⟨p0, p1, p2⟩ := tE.cells
      obtain ⟨o0, o1, o2⟩ := tE.frozen
      have sb := hbC.size
      clear hI
      go_wp2
      have st9 := (tE.set (.bool s9) (.slice a9 n9 c9) (.slice b9 m9 d9)).cells
      refine bodyPost_ret (v := .tuple #[.agg #[.bool s9, .slice a9 n9 c9, .slice b9 m9 d9], .int .i64 0]) (by simp [results, Tryz.results7, go_sem, st9]) rfl ?_
      exact ⟨_, _, _, rfl, (FIN hR sb HB).1, (FIN hR sb HB).2⟩
    · obtain ⟨k1, k2, k3, k4⟩ := kept_hex q1 hz
      clear q1 q2 q3 hed
      have hem' : nu.toList.isEmpty = false := by rw [hem]; cases hl : nu.data.toList with | nil => exact absurd hl hz | cons c r => rfl
      have hd9 : okB 16 nu.data.toList := k3
      have lT := nv_LtV (b := 16) (by omega) (by omega) hd9
      rw [← sz] at lT
      obtain ⟨t, ht⟩ : ∃ t : Nat, (e.natAbs : Int) = (t : Int) := ⟨e.natAbs, rfl⟩
      have hDi := fun w => distance9_any (e := e) (by omega) (by omega) w
      rw [ht] at hDi
      have hPw := fun w => two9_any (by omega : t ≤ 100000) w
      have lP := lt_pow_v (b := 2) (by omega) (by omega) t
      have hP : (0 : Int) < 2 ^ t := Int.pow_pos (by omega)
      have hN := fun {w0 w1 : World} (h : Below w0.heap.size w0 w1) => number9_at nu (b := 16) (by omega) (by omega) (by omega) hd9 h
      have HV : Hid ((if e < 0 then mkR ng (nv 16 nu.data.toList) (2 ^ t) else mkR ng (nv 16 nu.data.toList * 2 ^ t) 1) = mkR ng (vA 2 nu.data.toList e) (vB 2 e de.data.toList)) := by
        show _ = _
        have a1 : vA 2 nu.data.toList e = if 0 ≤ e then nv 16 nu.data.toList * 2 ^ e.toNat else nv 16 nu.data.toList := by unfold vA; rw [if_neg (by decide), if_pos rfl]
        have a2 : vB 2 e de.data.toList = if 0 ≤ e then 1 else 2 ^ (-e).toNat := by unfold vB; rw [if_neg (by decide), if_pos rfl]
        rw [a1, a2]
        by_cases he : e < 0
        · rw [if_pos he, if_neg (by omega), if_neg (by omega)]; congr 2; omega
        · rw [if_neg he, if_pos (by omega), if_pos (by omega)]; congr 3; omega
      rw [← HV.out]
      generalize nv 16 nu.data.toList = T at *
      generalize (2 : Int) ^ t = PW at *
      have hSc := fun {w : World} {a b : Option Addr} {n c m d : Nat} {xs ys : List Int} (hr1 : RowC w a n c xs) (hr2 : RowC w b m d ys) (h1 : Nm xs T) (h2 : Nm ys PW) (l1 : xs.length ≤ 100000) (l2 : ys.length ≤ 100000) => scaled9_any 2 ng nu e de hr1 hr2 h1 h2 hP (lT.mono (by omega : nu.size ≤ 401)) (lP.mono (by omega : t + 1 ≤ 1600)) (by omega) (by omega) (by omega) l1 l2
      generalize (if e < 0 then mkR ng T PW else mkR ng (T * PW) 1) = QQ at *
      clear hem hE hr h3 HV hd9 lT lP hP k1 k2 k3 k4 hz
      unfold numC at hC hSc hw0 ⊢
      go_enter Tryz.func7, Tryz.ntmps7
      go_wp2_with fail
      rw [← hw0, ← hg]
      refine (hC _).mono ?_
      rintro r w1 ⟨rfl, hbC⟩
      obtain ⟨z0, z1, z2, z3, z4⟩ := hcl w1 hbC
      clear hC hw0 hg
      go_wp2_with fail
      refine (hDi _).mono ?_
      rintro r wD ⟨rfl, rfl⟩
      clear hDi
      go_wp2_with fail
      refine (hPw _).mono ?_
      rintro r wP ⟨ap, np, cp, lp, rfl, rp, mp, lpl, hbP⟩
      have HP := hbC.trans (hbP.mono hbC.size)
      obtain ⟨z0, z1, z2, z3, z4⟩ := hcl wP HP
      clear hPw
      have tP := st1.later HP
      obtain ⟨p0, p1, p2⟩ := tP.cells
      have slP := tP.lt
      go_wp2_with fail
      go_region_held3 (fun w' => w'.cell? ⟨g, 0, none⟩ = some (.int .i64 2) ∧ w'.cell? ⟨g, 1, none⟩ = some (.bool ng) ∧ w'.cell? ⟨g, 2, none⟩ = some (.string nu) ∧ w'.cell? ⟨g, 3, none⟩ = some (.int .i64 e) ∧ w'.cell? ⟨g, 4, none⟩ = some (.string de)) (go_keep) (first | (go_at_call 37; refine (hN (w0 := wP) (by first | exact Below.refl _ _ | exact below_drewN (Below.refl _ _) _)).mono ?_; rintro r wA ⟨aA, nA, cA, lA, rfl, rA, mA, lAl, hBA, hbA⟩; have HA := HP.trans (hBA.mono HP.size); obtain ⟨z0, z1, z2, z3, z4⟩ := hcl wA HA; have rpA := rp.later hBA) | (go_at_call 40; refine (hSc rA rpA mA mp (by omega) (by omega)).mono ?_; rintro r wB ⟨s9, v1, v2, rfl, hR, hbB⟩; obtain ⟨a9, n9, c9, b9, m9, d9, rfl, rfl, _⟩ := hR.opens; have HB := HA.trans (hbB.mono HA.size); obtain ⟨z0, z1, z2, z3, z4⟩ := hcl wB HB; have tE := st1.later HB; obtain ⟨p0, p1, p2⟩ := tE.cells; obtain ⟨o0, o1, o2⟩ := tE.frozen; have sb := HA.size))
      go_wp2
      have st9 := (tE.set (.bool s9) (.slice a9 n9 c9) (.slice b9 m9 d9)).cells
      refine bodyPost_ret (v := .tuple #[.agg #[.bool s9, .slice a9 n9 c9, .slice b9 m9 d9], .int .i64 0]) (by simp [results, Tryz.results7, go_sem, st9]) rfl ?_
      exact ⟨_, _, _, rfl, (FIN hR sb HB).1, (FIN hR sb HB).2⟩
  · have hdn : de.data.toList ≠ [] := fun q => h3 ⟨rfl, q⟩
    have hed' : de.toList.isEmpty = false := by rw [hed]; cases hl : de.data.toList with | nil => exact absurd hl hdn | cons c r => rfl
    clear hed
    by_cases hz : nu.data.toList = []
    · clear q1 q2 q3
      have HV : Hid (((0 : Int) : Rat) = mkR ng (vA 3 nu.data.toList e) (vB 3 e de.data.toList)) := by show _ = _; rw [hz, vA_nil, mkR_zero]
      rw [← HV.out]
      rw [hz] at hem
      have hem' : nu.toList.isEmpty = true := hem
      have hI := fun w => rInt_any (v := 0) (by omega) (by omega) w
      clear hem hE hr h3 HV
      unfold numC at hC hw0 ⊢
      go_enter Tryz.func7, Tryz.ntmps7
      go_wp2_with fail
      rw [← hw0, ← hg]
      refine (hC _).mono ?_
      rintro r w1 ⟨rfl, hbC⟩
      obtain ⟨z0, z1, z2, z3, z4⟩ := hcl w1 hbC
      clear hC hw0 hg
      go_wp2_with fail
      refine (hI _).mono ?_
      rintro r w2 ⟨s9, v1, v2, rfl, hR, hb2⟩
      obtain ⟨a9, n9, c9, b9, m9, d9, rfl, rfl, _⟩ := hR.opens
      have HB := hbC.trans (hb2.mono hbC.size)
      have tE := st1.later HB
      obtain ⟨p0, p1, p2⟩ := tE.cells
      obtain ⟨o0, o1, o2⟩ := tE.frozen
      have sb := hbC.size
      clear hI
      go_wp2
      have st9 := (tE.set (.bool s9) (.slice a9 n9 c9) (.slice b9 m9 d9)).cells
      refine bodyPost_ret (v := .tuple #[.agg #[.bool s9, .slice a9 n9 c9, .slice b9 m9 d9], .int .i64 0]) (by simp [results, Tryz.results7, go_sem, st9]) rfl ?_
      exact ⟨_, _, _, rfl, (FIN hR sb HB).1, (FIN hR sb HB).2⟩
    · obtain ⟨k1, k2, k3, k4⟩ := kept_dec q1 hz
      obtain ⟨l1, l2, l3, l4⟩ := kept_dec q2 hdn
      have kp := val_pos_den q2 hdn
      have hem' : nu.toList.isEmpty = false := by rw [hem]; cases hl : nu.data.toList with | nil => exact absurd hl hz | cons c r => rfl
      have lT := nv_LtV (b := 10) (by omega) (by omega) (okB_ten k3)
      have lD := nv_LtV (b := 10) (by omega) (by omega) (okB_ten l3)
      have hN := fun {w0 w1 : World} (h : Below w0.heap.size w0 w1) => number9_at nu (b := 10) (by omega) (by omega) (by omega) (okB_ten k3) h
      have hM := fun {w0 w1 : World} (h : Below w0.heap.size w0 w1) => number9_at de (b := 10) (by omega) (by omega) (by omega) (okB_ten l3) h
      have HV : Hid (mkR ng (nv 10 nu.data.toList) (nv 10 de.data.toList) = mkR ng (vA 3 nu.data.toList e) (vB 3 e de.data.toList)) := rfl
      rw [← HV.out]
      rw [← sz] at lT
      rw [← sd] at lD
      generalize nv 10 nu.data.toList = T at *
      generalize nv 10 de.data.toList = D at *
      have hNw := fun {w : World} {a b : Option Addr} {n c m d : Nat} {xs ys : List Int} (hr1 : RowC w a n c xs) (hr2 : RowC w b m d ys) (h1 : Nm xs T) (h2 : Nm ys D) (l1 : xs.length ≤ 100000) (l2 : ys.length ≤ 100000) => rNew_ok (neg := ng) hr1 hr2 h1 h2 kp (lT.mono (by omega)) (lD.mono (by omega)) (by have := hr1.1.1; omega) (by have := hr2.1.1; omega)
      generalize mkR ng T D = QQ at *
      clear hem hE hr h3 HV lT lD kp k1 k2 k3 k4 l1 l2 l3 l4 q1 q2 q3 hz hdn
      unfold numC at hC hw0 ⊢
      go_enter Tryz.func7, Tryz.ntmps7
      go_wp2_with fail
      rw [← hw0, ← hg]
      refine (hC _).mono ?_
      rintro r w1 ⟨rfl, hbC⟩
      obtain ⟨z0, z1, z2, z3, z4⟩ := hcl w1 hbC
      clear hC hw0 hg
      have tC := st1.later hbC
      obtain ⟨p0, p1, p2⟩ := tC.cells
      have slC := tC.lt
      go_wp2_with fail
      go_region_held3 (fun w' => w'.cell? ⟨g, 1, none⟩ = some (.bool ng) ∧ w'.cell? ⟨g, 2, none⟩ = some (.string nu) ∧ w'.cell? ⟨g, 4, none⟩ = some (.string de)) (go_keep) (first | (go_at_call_of 37 nu; refine (hN (w0 := w1) (by first | exact Below.refl _ _ | exact below_drewN (Below.refl _ _) _)).mono ?_; rintro r wA ⟨aA, nA, cA, lA, rfl, rA, mA, lAl, hBA, hbA⟩; have HA := hbC.trans (hBA.mono hbC.size); obtain ⟨z0, z1, z2, z3, z4⟩ := hcl wA HA) | (go_at_call 37; refine (hM (w0 := w1) (by first | exact hBA | exact below_drewN hBA _)).mono ?_; rintro r wB ⟨aB, nB, cB, lB, rfl, rB, mB, lBl, hBB, hbB⟩; have HB2 := hbC.trans (hBB.mono hbC.size); obtain ⟨z0, z1, z2, z3, z4⟩ := hcl wB HB2; have rA2 := rA.later (by first | exact hbB | exact (below_drewN (Below.refl _ wA) _).trans (hbB.mono (Nat.le_refl _)))) | (go_at_call 36; refine (hNw rA2 rB mA mB (by omega) (by omega)).mono ?_; rintro r wE ⟨s9, v1, v2, rfl, hR, hbE⟩; obtain ⟨a9, n9, c9, b9, m9, d9, rfl, rfl, _⟩ := hR.opens; have HB := HB2.trans (hbE.mono HB2.size); obtain ⟨z0, z1, z2, z3, z4⟩ := hcl wE HB; have tE := st1.later HB; obtain ⟨p0, p1, p2⟩ := tE.cells; obtain ⟨o0, o1, o2⟩ := tE.frozen; have sb := HB2.size))
      go_wp2
      have st9 := (tE.set (.bool s9) (.slice a9 n9 c9) (.slice b9 m9 d9)).cells
      refine bodyPost_ret (v := .tuple #[.agg #[.bool s9, .slice a9 n9 c9, .slice b9 m9 d9], .int .i64 0]) (by simp [results, Tryz.results7, go_sem, st9]) rfl ?_
      exact ⟨_, _, _, rfl, (FIN hR sb HB).1, (FIN hR sb HB).2⟩
end Go.Proofs.YtjeoiffloghonabGreatDoor


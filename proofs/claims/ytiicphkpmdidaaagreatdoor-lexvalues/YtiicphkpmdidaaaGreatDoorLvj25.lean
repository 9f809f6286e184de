import Derived.Deep.RegionHeld3
import Derived.Below
import Derived.BigQuiet
import Derived.ChangeOld
import Derived.Deep.CutRange
import Derived.Deep.DeepCutAuto
import Derived.Deep.DeepFit
import Derived.Deep.LoopGhost
import Derived.Deep.QuietTactic
import Derived.Deep.RegionWith
import Derived.Deep.WholeRow
import Derived.Defers
import Derived.KernelRfl
import Derived.Laws.BitsAllLaws
import Derived.Laws.CopyRow
import Derived.Laws.EntriesVeiled
import Derived.Laws.Externs
import Derived.Laws.IdiomCopy
import Derived.Laws.IdiomRangeMap
import Derived.Laws.IdiomStrings
import Derived.Laws.RangeAny
import Derived.Laws.RangeString
import Derived.Laws.ResultCell
import Derived.Laws.Runes
import Derived.Laws.Strings3
import Derived.Lib.AsciiSet
import Derived.Lib.AtoiErrMem
import Derived.Lib.Bytealg
import Derived.Lib.ConvBytes
import Derived.Lib.IndexBytes
import Derived.Lib.OthersKept
import Derived.Lib.Strings
import Derived.Lib.TrimByte
import Derived.Lib.Walk
import Derived.OpenShut
import Derived.Orders
import Derived.OwnWalk
import Derived.ProofKit
import Derived.Recover
import Derived.Scope
import Derived.Shelf.Strconv.Clone
import Derived.Shelf.Strings.OnBuilder
import Derived.ShutString
import Derived.WalkKit
import Derived.WalkLawsBesides
import Derived.WalkMore
import Derived.WalkSpells
import Derived.Test.YtiicphkpmdidaaaGreatDoorLvj14
import Derived.Test.YtiicphkpmdidaaaGreatDoorLvj24
/- package lex: number, distance, two, scaled (what Value is made of). -/
namespace Go.Proofs.YtiicphkpmdidaaaGreatDoor
open Go.ChangeShapes Go.WideShapes Go.ChangeAt Go.RowKit
open Na Ar Lx
set_option linter.unusedVariables false
namespace Lx
theorem pow_le_v {b : Int} (h0 : 0 ≤ b) (hb : b ≤ 18446744073709551616) (n : Nat) : b ^ n ≤ (18446744073709551616 : Int) ^ n := by
  induction n with
  | zero => simp
  | succ n ih =>
    rw [Int.pow_succ, Int.pow_succ]
    exact Int.mul_le_mul ih hb h0 (Int.pow_nonneg (by omega))
theorem lt_pow_v {b : Int} (h0 : 0 ≤ b) (hb : b ≤ 18446744073709551616) (n : Nat) : Lt (b ^ n) (n + 1) := by
  refine ⟨Int.pow_nonneg h0, Int.lt_of_le_of_lt (pow_le_v h0 hb n) ?_⟩
  rw [Int.pow_succ]
  have : (0 : Int) < 18446744073709551616 ^ n := Int.pow_pos (by omega)
  omega
theorem nv_LtV {b : Int} {l : B} (h2 : 2 ≤ b) (hb : b ≤ 36) (h : okB b l) : Lt (nv b l) l.length :=
  ⟨nv_nonneg (by omega) l, Int.lt_of_lt_of_le (nv_lt h2 h) (pow_le_v (by omega) (by omega) _)⟩
theorem mkR_one (s : Bool) (A : Int) : mkR s A 1 = ((sg s A : Int) : Rat) := by
  unfold mkR
  exact Rat.mkRat_one _
theorem mkR_times (s : Bool) (T P : Int) : mkR s T 1 * mkR false P 1 = mkR s (T * P) 1 := by
  rw [mkR_one, mkR_one, mkR_one, ← Rat.intCast_mul]
  congr 1
  cases s
  · rfl
  · show -T * P = -(T * P)
    rw [Int.neg_mul]
end Lx
set_option maxHeartbeats 1600000 in
theorem lexNum9_any (s : ByteArray) {b : Int} (hb : b = 10 ∨ b = 16) (h0 : 0 < s.size) (hs : s.size ≤ 65536) (hd : okB b s.data.toList) (w : World) :
    Calls Tryz.prog 28 #[.string s, .int .i64 b] w fun r w' => ∃ a n c l, r = .returned (.slice a n c) ∧ RowC w' a n c l ∧ Nm l (nv b s.data.toList) ∧ l.length ≤ 4096 ∧ Below w.heap.size w w' := by
  have hw := nv_words hb hd (by rw [← Lib.size_eq]; exact hs)
  have hp := fun w => parse_good s b (by omega) (by omega) (by omega) h0 (fun i hi => by
    have := hd.dgt i (by rw [← Lib.size_eq]; exact hi)
    rw [str_of] at this; exact this) w
  rw [nv_of] at hp
  have nn := nv_nonneg (b := b) (by omega) s.data.toList
  generalize nv b s.data.toList = T at *
  clear hd
  go_enter Tryz.func28, Tryz.ntmps28
  go_wp2_with fail
  refine (hp _).mono ?_
  rintro e w' (⟨_, v, rfl, ho, hb'⟩ | ⟨hc, _⟩)
  · obtain ⟨a, c, rfl, hr⟩ := ho.readsC
    have HM : Hid (Nm (words T) T) := nm_words nn (by omega)
    generalize words T = l at *
    clear ho hp
    go_wp2
    go_ret
    exact ⟨_, _, _, l, rfl, hr, HM, hw, hb'⟩
  · omega
theorem distance9_any {e : Int} (h0 : -1073741824 ≤ e) (h1 : e ≤ 1073741824) (w : World) :
    Calls Tryz.prog 30 #[.int .i64 e] w fun r w' => r = .returned (.int .i64 (e.natAbs : Int)) ∧ w' = w := by
  have hw : IntKind.i64.wrap (-e) = -e := wrapI (by omega) (by omega)
  by_cases h : e < 0
  · have q : (if e < -e then -e else e) = (e.natAbs : Int) := by rw [if_pos (by omega)]; omega
    go_enter Tryz.func30, Tryz.ntmps30
    go_wp2
    go_ret
    exact ⟨by first | rfl | (show Ending.returned (Value.int .i64 _) = Ending.returned (Value.int .i64 _); congr 2; omega), rfl⟩
  · have q : (if e < -e then -e else e) = (e.natAbs : Int) := by rw [if_neg (by omega)]; omega
    go_enter Tryz.func30, Tryz.ntmps30
    go_wp2
    go_ret
    exact ⟨by first | rfl | (show Ending.returned (Value.int .i64 _) = Ending.returned (Value.int .i64 _); congr 2; omega), rfl⟩
theorem two9_any {t : Nat} (ht : t ≤ 100000) (w : World) :
    Calls Tryz.prog 29 #[.int .i64 (t : Int)] w fun r w' => ∃ a n c l, r = .returned (.tuple #[.slice a n c, .int .i64 0]) ∧ RowC w' a n c l ∧ Nm l (2 ^ t) ∧ l.length ≤ 2000 ∧ Below w.heap.size w w' := by
  have hb0 := alloc_below (w := w) (.cells #[.int .u64 1] 40)
  have r0 := rowC_one w 1 40
  have n0 : Nm [1] 1 := Nm.one (by omega)
  have hU := up_any r0 n0.ws (by omega) t (by omega)
  have d1 : decide ((t : Int) ≥ 262144) = false := by simp; omega
  have d1' : decide ((262144 : Int) ≤ (t : Int)) = false := by simp; omega
  rw [n0.num, Int.one_mul] at hU
  have lt := (Lt.word (x := 1) (by omega)).pow2 (t := t)
  rw [Int.one_mul] at lt
  generalize (2 : Int) ^ t = P at *
  go_enter Tryz.func29, Tryz.ntmps29
  go_wp2_with fail
  refine hU.mono ?_
  rintro r w1 ⟨v, rfl, ho, hb⟩
  have hB := hb0.trans (hb.mono hb0.size)
  obtain ⟨a, n, c, l, rfl, r1, m1, E⟩ := ho.opens lt (by omega)
  have hl : l.length ≤ 2000 := by rw [E.out]; have := lt.len; omega
  clear hU ho E
  go_wp2
  go_ret2
  exact ⟨_, _, _, l, rfl, r1, m1, hl, hB⟩
end Go.Proofs.YtiicphkpmdidaaaGreatDoor

/- package lex: scaled, Value. -/
namespace Go.Proofs.YtiicphkpmdidaaaGreatDoor
open Go.ChangeShapes Go.WideShapes Go.ChangeAt Go.RowKit
open Na Ar Lx
set_option linter.unusedVariables false
namespace Lx
/-- the value's two numbers -/
def vA (k : Int) (num : B) (e : Int) : Int := if k = 1 then exN (nv 10 num) e else if k = 2 then (if 0 ≤ e then nv 16 num * 2 ^ e.toNat else nv 16 num) else nv 10 num
def vB (k : Int) (e : Int) (den : B) : Int := if k = 1 then exD e else if k = 2 then (if 0 ≤ e then 1 else 2 ^ (-e).toNat) else nv 10 den
theorem nv_nil (b : Int) : nv b [] = 0 := rfl
theorem vA_nil (k e : Int) : vA k [] e = 0 := by
  unfold vA exN
  rw [nv_nil, nv_nil]
  split
  · split <;> simp
  · split
    · split <;> simp
    · rfl
theorem mkR_zero (s : Bool) (D : Int) : mkR s 0 D = ((0 : Int) : Rat) := by
  unfold mkR
  have : sg s 0 = 0 := by cases s <;> rfl
  rw [this, Rat.zero_mkRat]
  rfl
end Lx
theorem ten9_any {k : Nat} (h : k ≤ 2000) (w : World) :
    Calls Tryz.prog 32 #[.int .i64 (k : Int)] w fun e w' => ∃ a l c ls, e = .returned (.tuple #[.slice a l c, .int .i64 0]) ∧ RowC w' a l c ls ∧ Nm ls (10 ^ k) ∧ ls.length ≤ 2001 ∧ Below w.heap.size w w' := by
  have f := ten_any (k : Int) (by omega) (by omega) w
  have E1 : pwE 78913 (k : Int) = 0 := by unfold pwE; rw [if_neg (by omega), if_neg (by omega)]
  have E2 : pwL 10 78913 (k : Int) = words (10 ^ k) := by unfold pwL; rw [if_neg (by omega), if_neg (by omega), Int.toNat_natCast]
  rw [E1, E2] at f
  refine f.mono ?_
  rintro e w' ⟨v, rfl, ho, hb⟩
  have lt := lt_pow_v (b := 10) (by omega) (by omega) k
  obtain ⟨a, n, c, l, rfl, r1, m1, E⟩ := ho.opens lt (by omega)
  exact ⟨a, n, c, l, rfl, r1, m1, by rw [E.out]; have := lt.len; omega, hb⟩
theorem lexNum9_at (s : ByteArray) {b : Int} (hb : b = 10 ∨ b = 16) (h0 : 0 < s.size) (hs : s.size ≤ 65536) (hd : okB b s.data.toList) {w0 w1 : World} (h : Below w0.heap.size w0 w1) :
    Calls Tryz.prog 28 #[.string s, .int .i64 b] w1 fun r w' => ∃ a n c l, r = .returned (.slice a n c) ∧ RowC w' a n c l ∧ Nm l (nv b s.data.toList) ∧ l.length ≤ 4096 ∧ Below w0.heap.size w0 w' ∧ Below w1.heap.size w1 w' := by
  refine (lexNum9_any s hb h0 hs hd w1).mono ?_
  rintro r w' ⟨a, n, c, l, rfl, q1, q2, q3, q4⟩
  exact ⟨a, n, c, l, rfl, q1, q2, q3, h.trans (q4.mono h.size), q4⟩
set_option maxHeartbeats 6400000 in
set_option maxRecDepth 100000 in
theorem scaled9_any (k : Int) (ng : Bool) (nu : ByteArray) (e : Int) (de : ByteArray) {w : World} {a b : Option Addr} {n c m d : Nat} {xs ys : List Int} {T P : Int} (hr1 : RowC w a n c xs) (hr2 : RowC w b m d ys) (h1 : Nm xs T) (h2 : Nm ys P) (hP : 0 < P) {i j : Nat} (lT : Lt T i) (lP : Lt P j) (hi : 1 ≤ i) (hj : 1 ≤ j) (hij : i + j ≤ 4090) (hn : xs.length ≤ 100000) (hm : ys.length ≤ 100000) :
    Calls Tryz.prog 31 #[.agg (numC k ng nu e de), .slice a n c, .slice b m d, .int .i64 0] w fun r w' => ∃ s v1 v2, r = .returned (.tuple #[.agg #[.bool s, v1, v2], .int .i64 0]) ∧ RtO w' w.heap.size s v1 v2 (if e < 0 then mkR ng T P else mkR ng (T * P) 1) ∧ Below w.heap.size w w' := by
  have hb1 : Below w.heap.size w (w.alloc (.cells (numC k ng nu e de) 26)) := (Below.refl _ w).alloc (Nat.le_refl _) _
  have B1 : Bk (w.alloc (.cells (numC k ng nu e de) 26)) w.heap.size 26 (numC k ng nu e de) := Bk.new _ _ _
  have st1 := st_new (w.alloc (.cells (numC k ng nu e de) 26)) (.bool false) (.slice none 0 0) (.slice none 0 0) 36
  have hb2 := alloc_below (w := w.alloc (.cells (numC k ng nu e de) 26)) (.cells #[.bool false, .slice none 0 0, .slice none 0 0] 36)
  have hb0 := hb1.trans (hb2.mono hb1.size)
  have B0 := B1.later hb2
  rw [World.size_alloc] at st1
  obtain ⟨w0, hw0⟩ : ∃ w0, w0 = (w.alloc (.cells (numC k ng nu e de) 26)).alloc (.cells #[.bool false, .slice none 0 0, .slice none 0 0] 36) := ⟨_, rfl⟩
  rw [← hw0] at st1 hb0 B0
  obtain ⟨g, hg⟩ : ∃ g, g = w.heap.size := ⟨_, rfl⟩
  have HG : Hid (w.heap.size = g) := hg.symm
  rw [← hg] at B0 st1
  replace hr1 := hr1.later hb0
  replace hr2 := hr2.later hb0
  have sn := hr1.1.1
  have sm := hr2.1.1
  have l1 := lt_one
  clear hb1 hb2 B1
  unfold numC at hw0 ⊢
  by_cases he : e < 0
  · have d1 : decide (e < 0) = true := by simp; omega
    have hN := rNew_ok (neg := ng) hr1 hr2 h1 h2 hP (lT.mono (by omega)) (lP.mono (by omega)) (by omega) (by omega)
    rw [if_pos he]
    clear hr1 hr2 h1 h2 hP lT lP sn sm l1 B0 he
    go_enter Tryz.func31, Tryz.ntmps31
    go_wp2_with fail
    rw [← hw0, ← hg]
    refine hN.mono ?_
    rintro r w1 ⟨s9, v1, v2, rfl, hR, hbE⟩
    obtain ⟨a9, n9, c9, b9, m9, d9, rfl, rfl, _⟩ := hR.opens
    have tE := st1.later hbE
    obtain ⟨x0, x1, x2⟩ := tE.cells
    obtain ⟨y0, y1, y2⟩ := tE.frozen
    have sl := st1.lt
    have hB9 := hb0.trans (hbE.mono hb0.size)
    have sz := hb0.size
    clear hN hw0 hg st1 hb0 hbE
    go_wp2
    have st9 := (tE.set (.bool s9) (.slice a9 n9 c9) (.slice b9 m9 d9)).cells
    refine bodyPost_ret (v := .tuple #[.agg #[.bool s9, .slice a9 n9 c9, .slice b9 m9 d9], .int .i64 0]) (by simp [results, Tryz.results31, go_sem, st9]) rfl ?_
    exact ⟨_, _, _, rfl, (hR.inn (in3 _ _ _ _ _) sl).lower sz, below_in hB9 (in3 _ _ _ _ _) (by rw [HG.out]; omega) (Nat.le_refl _)⟩
  · have d1 : decide (e < 0) = false := by simp; omega
    have hb3 := alloc_below (w := w0) (.cells #[.int .u64 1] 40)
    have r3 := rowC_one w0 1 40
    have e0 : w0.heap.size = g + 1 + 1 := by rw [hw0, hg]; simp
    rw [e0] at r3
    clear e0
    have hN1 := rNew_ok (neg := ng) (hr1.later hb3) r3 h1 (Nm.one (by omega)) (by omega) (lT.mono (by omega)) (l1.mono (by omega)) (by omega) (by omega)
    have zT : Sz (mkR ng T 1) i := Sz.mkR lT (l1.mono hi) (by omega)
    have zP : Sz (mkR false P 1) j := Sz.mkR lP (l1.mono hj) (by omega)
    have HM : Hid (mkR ng T 1 * mkR false P 1 = mkR ng (T * P) 1) := mkR_times ng T P
    rw [if_neg he]
    generalize mkR ng (T * P) 1 = Q at *
    generalize mkR ng T 1 = Q1 at *
    clear hr1 h1 lT B0 he r3
    go_enter Tryz.func31, Tryz.ntmps31
    go_wp2_with fail
    rw [← hw0, ← hg]
    refine hN1.mono ?_
    rintro r w1 ⟨s1, v1, v2, rfl, hR1, hbE⟩
    obtain ⟨a1, n1, c1, b1, m1, d1', rfl, rfl, q1⟩ := hR1.opens
    have H1 := hb3.trans (hbE.mono hb3.size)
    clear hN1 hw0 hg hb3 hbE hR1
    go_upto_region 6 with fail
    have tx := st_new w1 (.bool s1) (.slice a1 n1 c1) (.slice b1 m1 d1') 36
    have ha1 := alloc_below (w := w1) (.cells #[.bool s1, .slice a1 n1 c1, .slice b1 m1 d1'] 36)
    have qx := q1.later ha1
    have H2 := H1.trans (ha1.mono H1.size)
    generalize w1.alloc (.cells #[.bool s1, .slice a1 n1 c1, .slice b1 m1 d1'] 36) = z1 at *
    obtain ⟨gx, hgx⟩ : ∃ gx, gx = w1.heap.size := ⟨_, rfl⟩
    rw [← hgx] at tx ⊢
    clear hgx ha1 q1 H1
    have hb4 := alloc_below (w := z1) (.cells #[.int .u64 1] 40)
    have r4 := rowC_one z1 1 40
    have hN2 := rNew_ok (neg := false) ((hr2.later H2).later hb4) r4 h2 (Nm.one (by omega)) (by omega) (lP.mono (by omega)) (l1.mono (by omega)) (by omega) (by omega)
    generalize mkR false P 1 = Q2 at *
    clear hr2 h2 lP r4
    go_wp2_with fail
    refine hN2.mono ?_
    rintro r w2 ⟨s2, v1, v2, rfl, hR2, hbF⟩
    obtain ⟨a2, n2, c2, b2, m2, d2, rfl, rfl, q2⟩ := hR2.opens
    have H3 := hb4.trans (hbF.mono hb4.size)
    have tx2 := tx.later H3
    have qx2 := qx.later H3
    have H4 := H2.trans (H3.mono H2.size)
    clear hN2 hb4 hbF hR2 tx qx H3 H2
    go_upto_region 7 with fail
    have ty := st_new w2 (.bool s2) (.slice a2 n2 c2) (.slice b2 m2 d2) 36
    have ha2 := alloc_below (w := w2) (.cells #[.bool s2, .slice a2 n2 c2, .slice b2 m2 d2] 36)
    have qy := q2.later ha2
    have qx3 := qx2.later ha2
    have tx3 := tx2.later ha2
    have H5 := H4.trans (ha2.mono H4.size)
    generalize w2.alloc (.cells #[.bool s2, .slice a2 n2 c2, .slice b2 m2 d2] 36) = z2 at *
    obtain ⟨gy, hgy⟩ : ∃ gy, gy = w2.heap.size := ⟨_, rfl⟩
    rw [← hgy] at ty ⊢
    clear hgy ha2 q2 qx2 tx2 H4
    have hM := rMul_ok qx3 qy zT zP (by omega)
    rw [HM.out] at hM
    obtain ⟨x0, x1, x2⟩ := tx3.cells
    obtain ⟨y0, y1, y2⟩ := ty.cells
    clear qx3 qy zT zP HM
    go_wp2_with fail
    refine hM.mono ?_
    rintro r w3 ⟨s9, v1, v2, rfl, hR, hsz, hbG⟩
    obtain ⟨a9, n9, c9, b9, m9, d9, rfl, rfl, _⟩ := hR.opens
    have H6 := H5.trans (hbG.mono H5.size)
    have tE := st1.later H6
    obtain ⟨p0, p1, p2⟩ := tE.cells
    obtain ⟨o0, o1, o2⟩ := tE.frozen
    have sl := st1.lt
    have hB9 := hb0.trans (H6.mono hb0.size)
    have sz : w.heap.size ≤ z2.heap.size := Nat.le_trans hb0.size H5.size
    have sy : g + 1 < z2.heap.size := Nat.lt_of_lt_of_le sl H5.size
    clear hM x0 x1 x2 y0 y1 y2 tx3 ty hsz st1 hb0 H5 H6 hbG
    go_wp2
    have st9 := (tE.set (.bool s9) (.slice a9 n9 c9) (.slice b9 m9 d9)).cells
    refine bodyPost_ret (v := .tuple #[.agg #[.bool s9, .slice a9 n9 c9, .slice b9 m9 d9], .int .i64 0]) (by simp [results, Tryz.results31, go_sem, st9]) rfl ?_
    exact ⟨_, _, _, rfl, (hR.inn (in3 _ _ _ _ _) sy).lower sz, below_in hB9 (in3 _ _ _ _ _) (by rw [HG.out]; omega) (Nat.le_refl _)⟩
end Go.Proofs.YtiicphkpmdidaaaGreatDoor

/- package lex: Value. -/
namespace Go.Proofs.YtiicphkpmdidaaaGreatDoor
open Go.ChangeShapes Go.WideShapes Go.ChangeAt Go.RowKit
open Na Ar Lx
set_option linter.unusedVariables false
set_option maxHeartbeats 12800000 in
set_option maxRecDepth 100000 in
theorem value9_any (k : Int) (ng : Bool) (nu : ByteArray) (e : Int) (de : ByteArray) (hE : refE k nu.data.toList e de.data.toList = 0) (hn : nu.size ≤ 400) (hd : de.size ≤ 400) (e0 : -1500 ≤ e) (e1 : e ≤ 1500) (w : World) :
    Calls Tryz.prog 8 #[.agg (numC k ng nu e de)] w fun r w' => ∃ s v1 v2, r = .returned (.tuple #[.agg #[.bool s, v1, v2], .int .i64 0]) ∧ RtO w' w.heap.size s v1 v2 (mkR ng (vA k nu.data.toList e) (vB k e de.data.toList)) ∧ Below w.heap.size w w' := by
  obtain ⟨hr, h3⟩ := refE_right hE
  have hC : ∀ w, Calls Tryz.prog 27 #[.agg (numC k ng nu e de)] w fun r w' => r = .returned (.int .i64 0) ∧ Below w.heap.size w w' := fun w => by
    have := check9_any k ng nu e de (by omega) (by omega) w
    rw [hr, if_pos rfl] at this
    exact this
  have sz : nu.size = nu.data.toList.length := Lib.size_eq nu
  have sd : de.size = de.data.toList.length := Lib.size_eq de
  have hem : nu.toList.isEmpty = nu.data.toList.isEmpty := by rw [Lib.toList_data]
  have hed : de.toList.isEmpty = de.data.toList.isEmpty := by rw [Lib.toList_data]
  have hb1 : Below w.heap.size w (w.alloc (.cells (numC k ng nu e de) 26)) := (Below.refl _ w).alloc (Nat.le_refl _) _
  have B1 : Bk (w.alloc (.cells (numC k ng nu e de) 26)) w.heap.size 26 (numC k ng nu e de) := Bk.new _ _ _
  have st1 := st_new (w.alloc (.cells (numC k ng nu e de) 26)) (.bool false) (.slice none 0 0) (.slice none 0 0) 36
  have hb2 := alloc_below (w := w.alloc (.cells (numC k ng nu e de) 26)) (.cells #[.bool false, .slice none 0 0, .slice none 0 0] 36)
  have hb0 := hb1.trans (hb2.mono hb1.size)
  have B0 := B1.later hb2
  rw [World.size_alloc] at st1
  obtain ⟨w0, hw0⟩ : ∃ w0, w0 = (w.alloc (.cells (numC k ng nu e de) 26)).alloc (.cells #[.bool false, .slice none 0 0, .slice none 0 0] 36) := ⟨_, rfl⟩
  rw [← hw0] at st1 hb0 B0
  obtain ⟨g, hg⟩ : ∃ g, g = w.heap.size := ⟨_, rfl⟩
  have HG : Hid (w.heap.size = g) := hg.symm
  rw [← hg] at B0 st1
  have hcl : ∀ w1, Below w0.heap.size w0 w1 → w1.cell? ⟨g, 0, none⟩ = some (.int .i64 k) ∧ w1.cell? ⟨g, 1, none⟩ = some (.bool ng) ∧ w1.cell? ⟨g, 2, none⟩ = some (.string nu) ∧ w1.cell? ⟨g, 3, none⟩ = some (.int .i64 e) ∧ w1.cell? ⟨g, 4, none⟩ = some (.string de) := fun w1 h => ⟨(B0.later h).cell 0 rfl, (B0.later h).cell 1 rfl, (B0.later h).cell 2 rfl, (B0.later h).cell 3 rfl, (B0.later h).cell 4 rfl⟩
  have sl := st1.lt
  have sw := hb0.size
  have ne1 : ¬ g = g + 1 := by omega
  have ne2 : ¬ g + 1 = g := by omega
  have FIN : ∀ {wB : World} {s9 : Bool} {a9 b9 : Option Addr} {n9 c9 m9 d9 : Nat} {q : Rat} {base : Nat}, RtO wB base s9 (.slice a9 n9 c9) (.slice b9 m9 d9) q → w0.heap.size ≤ base → Below w0.heap.size w0 wB → RtO (((wB.setCell ⟨g + 1, 0, none⟩ (.bool s9)).setCell ⟨g + 1, 1, none⟩ (.slice a9 n9 c9)).setCell ⟨g + 1, 2, none⟩ (.slice b9 m9 d9)) w.heap.size s9 (.slice a9 n9 c9) (.slice b9 m9 d9) q ∧ Below w.heap.size w (((wB.setCell ⟨g + 1, 0, none⟩ (.bool s9)).setCell ⟨g + 1, 1, none⟩ (.slice a9 n9 c9)).setCell ⟨g + 1, 2, none⟩ (.slice b9 m9 d9)) := fun hR hba hB =>
    ⟨(hR.inn (in3 _ _ _ _ _) (by omega)).lower (by omega), below_in (hb0.trans (hB.mono hb0.size)) (in3 _ _ _ _ _) (by rw [HG.out]; omega) (Nat.le_refl _)⟩
  clear hb1 hb2 B1 B0
  rcases right_kinds hr with ⟨rfl, q1, q2, q3⟩ | ⟨rfl, q1, q2, q3⟩ | ⟨rfl, q1, q2, q3⟩
  · by_cases hz : nu.data.toList = []
    · clear q1 q2 q3 hed
      have HV : Hid (((0 : Int) : Rat) = mkR ng (vA 1 nu.data.toList e) (vB 1 e de.data.toList)) := by show _ = _; rw [hz, vA_nil, mkR_zero]
      rw [← HV.out]
      rw [hz] at hem
      have hem' : nu.toList.isEmpty = true := hem
      have hI := fun w => rInt_any (v := 0) (by omega) (by omega) w
      clear hem hE hr h3 HV
      unfold numC at hC hw0 ⊢
      go_enter Tryz.func8, Tryz.ntmps8
      go_wp2_with fail
      rw [← hw0, ← hg]
      refine (hC _).mono ?_
      rintro r w1 ⟨rfl, hbC⟩
      obtain ⟨z0, z1, z2, z3, z4⟩ := hcl w1 hbC
      clear hC hw0 hg
      go_wp2_with fail
      refine (hI _).mono ?_
      rintro r w2 ⟨s9, v1, v2, rfl, hR, hb2⟩
      obtain ⟨a9, n9, c9, b9, m9, d9, rfl, rfl, _⟩ := hR.opens
      have HB := hbC.trans (hb2.mono hbC.size)
      have tE := st1.later HB
      obtain ⟨p0, p1, p2⟩ := tE.cells
      obtain ⟨o0, o1, o2⟩ := tE.frozen
      have sb := hbC.size
      clear hI
      go_wp2
      have st9 := (tE.set (.bool s9) (.slice a9 n9 c9) (.slice b9 m9 d9)).cells
      refine bodyPost_ret (v := .tuple #[.agg #[.bool s9, .slice a9 n9 c9, .slice b9 m9 d9], .int .i64 0]) (by simp [results, Tryz.results8, go_sem, st9]) rfl ?_
      exact ⟨_, _, _, rfl, (FIN hR sb HB).1, (FIN hR sb HB).2⟩
    · obtain ⟨k1, k2, k3, k4⟩ := kept_dec q1 hz
      clear q1 q2 q3 hed
      have hem' : nu.toList.isEmpty = false := by rw [hem]; cases hl : nu.data.toList with | nil => exact absurd hl hz | cons c r => rfl
      have hd9 : okB 10 nu.data.toList := okB_ten k3
      have lT := nv_LtV (b := 10) (by omega) (by omega) hd9
      rw [← sz] at lT
      obtain ⟨t, ht⟩ : ∃ t : Nat, (e.natAbs : Int) = (t : Int) := ⟨e.natAbs, rfl⟩
      have hDi := fun w => distance9_any (e := e) (by omega) (by omega) w
      rw [ht] at hDi
      have hPw := fun w => ten9_any (by omega : t ≤ 2000) w
      have lP := lt_pow_v (b := 10) (by omega) (by omega) t
      have hP : (0 : Int) < 10 ^ t := Int.pow_pos (by omega)
      have hN := fun {w0 w1 : World} (h : Below w0.heap.size w0 w1) => lexNum9_at nu (b := 10) (by omega) (by omega) (by omega) hd9 h
      have HV : Hid ((if e < 0 then mkR ng (nv 10 nu.data.toList) (10 ^ t) else mkR ng (nv 10 nu.data.toList * 10 ^ t) 1) = mkR ng (vA 1 nu.data.toList e) (vB 1 e de.data.toList)) := by
        show _ = _
        unfold vA vB exN exD
        rw [if_pos rfl, if_pos rfl]
        by_cases he : e < 0
        · rw [if_pos he, if_neg (by omega), if_neg (by omega)]; congr 2; omega
        · rw [if_neg he, if_pos (by omega), if_pos (by omega)]; congr 3; omega
      rw [← HV.out]
      generalize nv 10 nu.data.toList = T at *
      generalize (10 : Int) ^ t = PW at *
      have hSc := fun {w : World} {a b : Option Addr} {n c m d : Nat} {xs ys : List Int} (hr1 : RowC w a n c xs) (hr2 : RowC w b m d ys) (h1 : Nm xs T) (h2 : Nm ys PW) (l1 : xs.length ≤ 100000) (l2 : ys.length ≤ 100000) => scaled9_any 1 ng nu e de hr1 hr2 h1 h2 hP (lT.mono (by omega : nu.size ≤ 401)) (lP.mono (by omega : t + 1 ≤ 1600)) (by omega) (by omega) (by omega) l1 l2
      generalize (if e < 0 then mkR ng T PW else mkR ng (T * PW) 1) = QQ at *
      clear hem hE hr h3 HV hd9 lT lP hP k1 k2 k3 k4 hz
      unfold numC at hC hSc hw0 ⊢
      go_enter Tryz.func8, Tryz.ntmps8
      go_wp2_with fail
      rw [← hw0, ← hg]
      refine (hC _).mono ?_
      rintro r w1 ⟨rfl, hbC⟩
      obtain ⟨z0, z1, z2, z3, z4⟩ := hcl w1 hbC
      clear hC hw0 hg
      go_wp2_with fail
      refine (hDi _).mono ?_
      rintro r wD ⟨rfl, rfl⟩
      clear hDi
      go_wp2_with fail
      refine (hPw _).mono ?_
      rintro r wP ⟨ap, np, cp, lp, rfl, rp, mp, lpl, hbP⟩
      have HP := hbC.trans (hbP.mono hbC.size)
      obtain ⟨z0, z1, z2, z3, z4⟩ := hcl wP HP
      clear hPw
      have tP := st1.later HP
      obtain ⟨p0, p1, p2⟩ := tP.cells
      have slP := tP.lt
      go_wp2_with fail
      go_region_held3 (fun w' => w'.cell? ⟨g, 0, none⟩ = some (.int .i64 1) ∧ w'.cell? ⟨g, 1, none⟩ = some (.bool ng) ∧ w'.cell? ⟨g, 2, none⟩ = some (.string nu) ∧ w'.cell? ⟨g, 3, none⟩ = some (.int .i64 e) ∧ w'.cell? ⟨g, 4, none⟩ = some (.string de)) (go_keep) (first | (go_at_call 28; refine (hN (w0 := wP) (by first | exact Below.refl _ _ | exact below_drewN (Below.refl _ _) _)).mono ?_; rintro r wA ⟨aA, nA, cA, lA, rfl, rA, mA, lAl, hBA, hbA⟩; have HA := HP.trans (hBA.mono HP.size); obtain ⟨z0, z1, z2, z3, z4⟩ := hcl wA HA; have rpA := rp.later hBA) | (go_at_call 31; refine (hSc rA rpA mA mp (by omega) (by omega)).mono ?_; rintro r wB ⟨s9, v1, v2, rfl, hR, hbB⟩; obtain ⟨a9, n9, c9, b9, m9, d9, rfl, rfl, _⟩ := hR.opens; have HB := HA.trans (hbB.mono HA.size); obtain ⟨z0, z1, z2, z3, z4⟩ := hcl wB HB; have tE := st1.later HB; obtain ⟨p0, p1, p2⟩ := tE.cells; obtain ⟨o0, o1, o2⟩ := tE.frozen; have sb := HA.size))
      go_wp2
      have st9 := (tE.set (.bool s9) (.slice a9 n9 c9) (.slice b9 m9 d9)).cells
      refine bodyPost_ret (v := .tuple #[.agg #[.bool s9, .slice a9 n9 c9, .slice b9 m9 d9], .int .i64 0]) (by simp [results, Tryz.results8, go_sem, st9]) rfl ?_
      exact ⟨_, _, _, rfl, (FIN hR sb HB).1, (FIN hR sb HB).2⟩
  · by_cases hz : nu.data.toList = []
    · clear q1 q2 q3 hed
      have HV : Hid (((0 : Int) : Rat) = mkR ng (vA 2 nu.data.toList e) (vB 2 e de.data.toList)) := by show _ = _; rw [hz, vA_nil, mkR_zero]
      rw [← HV.out]
      rw [hz] at hem
      have hem' : nu.toList.isEmpty = true := hem
      have hI := fun w => rInt_any (v := 0) (by omega) (by omega) w
      clear hem hE hr h3 HV
      unfold numC at hC hw0 ⊢
      go_enter Tryz.func8, Tryz.ntmps8
      go_wp2_with fail
      rw [← hw0, ← hg]
      refine (hC _).mono ?_
      rintro r w1 ⟨rfl, hbC⟩
      obtain ⟨z0, z1, z2, z3, z4⟩ := hcl w1 hbC
      clear hC hw0 hg
      go_wp2_with fail
      refine (hI _).mono ?_
      rintro r w2 ⟨s9, v1, v2, rfl, hR, hb2⟩
      obtain ⟨a9, n9, c9, b9, m9, d9, rfl, rfl, _⟩ := hR.opens
      have HB := hbC.trans (hb2.mono hbC.size)
      have tE := st1.later HB
      obtain ⟨p0, p1, p2⟩ := tE.cells
      obtain ⟨o0, o1, o2⟩ := tE.frozen
      have sb := hbC.size
      clear hI
      go_wp2
      have st9 := (tE.set (.bool s9) (.slice a9 n9 c9) (.slice b9 m9 d9)).cells
      refine bodyPost_ret (v := .tuple #[.agg #[.bool s9, .slice a9 n9 c9, .slice b9 m9 d9], .int .i64 0]) (by simp [results, Tryz.results8, go_sem, st9]) rfl ?_
      exact ⟨_, _, _, rfl, (FIN hR sb HB).1, (FIN hR sb HB).2⟩
    · obtain ⟨k1, k2, k3, k4⟩ := kept_hex q1 hz
      clear q1 q2 q3 hed
      have hem' : nu.toList.isEmpty = false := by rw [hem]; cases hl : nu.data.toList with | nil => exact absurd hl hz | cons c r => rfl
      have hd9 : okB 16 nu.data.toList := k3
      have lT := nv_LtV (b := 16) (by omega) (by omega) hd9
      rw [← sz] at lT
      obtain ⟨t, ht⟩ : ∃ t : Nat, (e.natAbs : Int) = (t : Int) := ⟨e.natAbs, rfl⟩
      have hDi := fun w => distance9_any (e := e) (by omega) (by omega) w
      rw [ht] at hDi
      have hPw := fun w => two9_any (by omega : t ≤ 100000) w
      have lP := lt_pow_v (b := 2) (by omega) (by omega) t
      have hP : (0 : Int) < 2 ^ t := Int.pow_pos (by omega)
      have hN := fun {w0 w1 : World} (h : Below w0.heap.size w0 w1) => lexNum9_at nu (b := 16) (by omega) (by omega) (by omega) hd9 h
      have HV : Hid ((if e < 0 then mkR ng (nv 16 nu.data.toList) (2 ^ t) else mkR ng (nv 16 nu.data.toList * 2 ^ t) 1) = mkR ng (vA 2 nu.data.toList e) (vB 2 e de.data.toList)) := by
        show _ = _
        have a1 : vA 2 nu.data.toList e = if 0 ≤ e then nv 16 nu.data.toList * 2 ^ e.toNat else nv 16 nu.data.toList := by unfold vA; rw [if_neg (by decide), if_pos rfl]
        have a2 : vB 2 e de.data.toList = if 0 ≤ e then 1 else 2 ^ (-e).toNat := by unfold vB; rw [if_neg (by decide), if_pos rfl]
        rw [a1, a2]
        by_cases he : e < 0
        · rw [if_pos he, if_neg (by omega), if_neg (by omega)]; congr 2; omega
        · rw [if_neg he, if_pos (by omega), if_pos (by omega)]; congr 3; omega
      rw [← HV.out]
      generalize nv 16 nu.data.toList = T at *
      generalize (2 : Int) ^ t = PW at *
      have hSc := fun {w : World} {a b : Option Addr} {n c m d : Nat} {xs ys : List Int} (hr1 : RowC w a n c xs) (hr2 : RowC w b m d ys) (h1 : Nm xs T) (h2 : Nm ys PW) (l1 : xs.length ≤ 100000) (l2 : ys.length ≤ 100000) => scaled9_any 2 ng nu e de hr1 hr2 h1 h2 hP (lT.mono (by omega : nu.size ≤ 401)) (lP.mono (by omega : t + 1 ≤ 1600)) (by omega) (by omega) (by omega) l1 l2
      generalize (if e < 0 then mkR ng T PW else mkR ng (T * PW) 1) = QQ at *
      clear hem hE hr h3 HV hd9 lT lP hP k1 k2 k3 k4 hz
      unfold numC at hC hSc hw0 ⊢
      go_enter Tryz.func8, Tryz.ntmps8
      go_wp2_with fail
      rw [← hw0, ← hg]
      refine (hC _).mono ?_
      rintro r w1 ⟨rfl, hbC⟩
      obtain ⟨z0, z1, z2, z3, z4⟩ := hcl w1 hbC
      clear hC hw0 hg
      go_wp2_with fail
      refine (hDi _).mono ?_
      rintro r wD ⟨rfl, rfl⟩
      clear hDi
      go_wp2_with fail
      refine (hPw _).mono ?_
      rintro r wP ⟨ap, np, cp, lp, rfl, rp, mp, lpl, hbP⟩
      have HP := hbC.trans (hbP.mono hbC.size)
      obtain ⟨z0, z1, z2, z3, z4⟩ := hcl wP HP
      clear hPw
      have tP := st1.later HP
      obtain ⟨p0, p1, p2⟩ := tP.cells
      have slP := tP.lt
      go_wp2_with fail
      go_region_held3 (fun w' => w'.cell? ⟨g, 0, none⟩ = some (.int .i64 2) ∧ w'.cell? ⟨g, 1, none⟩ = some (.bool ng) ∧ w'.cell? ⟨g, 2, none⟩ = some (.string nu) ∧ w'.cell? ⟨g, 3, none⟩ = some (.int .i64 e) ∧ w'.cell? ⟨g, 4, none⟩ = some (.string de)) (go_keep) (first | (go_at_call 28; refine (hN (w0 := wP) (by first | exact Below.refl _ _ | exact below_drewN (Below.refl _ _) _)).mono ?_; rintro r wA ⟨aA, nA, cA, lA, rfl, rA, mA, lAl, hBA, hbA⟩; have HA := HP.trans (hBA.mono HP.size); obtain ⟨z0, z1, z2, z3, z4⟩ := hcl wA HA; have rpA := rp.later hBA) | (go_at_call 31; refine (hSc rA rpA mA mp (by omega) (by omega)).mono ?_; rintro r wB ⟨s9, v1, v2, rfl, hR, hbB⟩; obtain ⟨a9, n9, c9, b9, m9, d9, rfl, rfl, _⟩ := hR.opens; have HB := HA.trans (hbB.mono HA.size); obtain ⟨z0, z1, z2, z3, z4⟩ := hcl wB HB; have tE := st1.later HB; obtain ⟨p0, p1, p2⟩ := tE.cells; obtain ⟨o0, o1, o2⟩ := tE.frozen; have sb := HA.size))
      go_wp2
      have st9 := (tE.set (.bool s9) (.slice a9 n9 c9) (.slice b9 m9 d9)).cells
      refine bodyPost_ret (v := .tuple #[.agg #[.bool s9, .slice a9 n9 c9, .slice b9 m9 d9], .int .i64 0]) (by simp [results, Tryz.results8, go_sem, st9]) rfl ?_
      exact ⟨_, _, _, rfl, (FIN hR sb HB).1, (FIN hR sb HB).2⟩
  · have hdn : de.data.toList ≠ [] := fun q => h3 ⟨rfl, q⟩
    have hed' : de.toList.isEmpty = false := by rw [hed]; cases hl : de.data.toList with | nil => exact absurd hl hdn | cons c r => rfl
    clear hed
    by_cases hz : nu.data.toList = []
    · clear q1 q2 q3
      have HV : Hid (((0 : Int) : Rat) = mkR ng (vA 3 nu.data.toList e) (vB 3 e de.data.toList)) := by show _ = _; rw [hz, vA_nil, mkR_zero]
      rw [← HV.out]
      rw [hz] at hem
      have hem' : nu.toList.isEmpty = true := hem
      have hI := fun w => rInt_any (v := 0) (by omega) (by omega) w
      clear hem hE hr h3 HV
      unfold numC at hC hw0 ⊢
      go_enter Tryz.func8, Tryz.ntmps8
      go_wp2_with fail
      rw [← hw0, ← hg]
      refine (hC _).mono ?_
      rintro r w1 ⟨rfl, hbC⟩
      obtain ⟨z0, z1, z2, z3, z4⟩ := hcl w1 hbC
      clear hC hw0 hg
      go_wp2_with fail
      refine (hI _).mono ?_
      rintro r w2 ⟨s9, v1, v2, rfl, hR, hb2⟩
      obtain ⟨a9, n9, c9, b9, m9, d9, rfl, rfl, _⟩ := hR.opens
      have HB := hbC.trans (hb2.mono hbC.size)
      have tE := st1.later HB
      obtain ⟨p0, p1, p2⟩ := tE.cells
      obtain ⟨o0, o1, o2⟩ := tE.frozen
      have sb := hbC.size
      clear hI
      go_wp2
      have st9 := (tE.set (.bool s9) (.slice a9 n9 c9) (.slice b9 m9 d9)).cells
      refine bodyPost_ret (v := .tuple #[.agg #[.bool s9, .slice a9 n9 c9, .slice b9 m9 d9], .int .i64 0]) (by simp [results, Tryz.results8, go_sem, st9]) rfl ?_
      exact ⟨_, _, _, rfl, (FIN hR sb HB).1, (FIN hR sb HB).2⟩
    · obtain ⟨k1, k2, k3, k4⟩ := kept_dec q1 hz
      obtain ⟨l1, l2, l3, l4⟩ := kept_dec q2 hdn
      have kp := val_pos_den q2 hdn
      have hem' : nu.toList.isEmpty = false := by rw [hem]; cases hl : nu.data.toList with | nil => exact absurd hl hz | cons c r => rfl
      have lT := nv_LtV (b := 10) (by omega) (by omega) (okB_ten k3)
      have lD := nv_LtV (b := 10) (by omega) (by omega) (okB_ten l3)
      have hN := fun {w0 w1 : World} (h : Below w0.heap.size w0 w1) => lexNum9_at nu (b := 10) (by omega) (by omega) (by omega) (okB_ten k3) h
      have hM := fun {w0 w1 : World} (h : Below w0.heap.size w0 w1) => lexNum9_at de (b := 10) (by omega) (by omega) (by omega) (okB_ten l3) h
      have HV : Hid (mkR ng (nv 10 nu.data.toList) (nv 10 de.data.toList) = mkR ng (vA 3 nu.data.toList e) (vB 3 e de.data.toList)) := rfl
      rw [← HV.out]
      rw [← sz] at lT
      rw [← sd] at lD
      generalize nv 10 nu.data.toList = T at *
      generalize nv 10 de.data.toList = D at *
      have hNw := fun {w : World} {a b : Option Addr} {n c m d : Nat} {xs ys : List Int} (hr1 : RowC w a n c xs) (hr2 : RowC w b m d ys) (h1 : Nm xs T) (h2 : Nm ys D) (l1 : xs.length ≤ 100000) (l2 : ys.length ≤ 100000) => rNew_ok (neg := ng) hr1 hr2 h1 h2 kp (lT.mono (by omega)) (lD.mono (by omega)) (by have := hr1.1.1; omega) (by have := hr2.1.1; omega)
      generalize mkR ng T D = QQ at *
      clear hem hE hr h3 HV lT lD kp k1 k2 k3 k4 l1 l2 l3 l4 q1 q2 q3 hz hdn
      unfold numC at hC hw0 ⊢
      go_enter Tryz.func8, Tryz.ntmps8
      go_wp2_with fail
      rw [← hw0, ← hg]
      refine (hC _).mono ?_
      rintro r w1 ⟨rfl, hbC⟩
      obtain ⟨z0, z1, z2, z3, z4⟩ := hcl w1 hbC
      clear hC hw0 hg
      have tC := st1.later hbC
      obtain ⟨p0, p1, p2⟩ := tC.cells
      have slC := tC.lt
      go_wp2_with fail
      go_region_held3 (fun w' => w'.cell? ⟨g, 1, none⟩ = some (.bool ng) ∧ w'.cell? ⟨g, 2, none⟩ = some (.string nu) ∧ w'.cell? ⟨g, 4, none⟩ = some (.string de)) (go_keep) (first | (go_at_call_of 28 nu; refine (hN (w0 := w1) (by first | exact Below.refl _ _ | exact below_drewN (Below.refl _ _) _)).mono ?_; rintro r wA ⟨aA, nA, cA, lA, rfl, rA, mA, lAl, hBA, hbA⟩; have HA := hbC.trans (hBA.mono hbC.size); obtain ⟨z0, z1, z2, z3, z4⟩ := hcl wA HA) | (go_at_call 28; refine (hM (w0 := w1) (by first | exact hBA | exact below_drewN hBA _)).mono ?_; rintro r wB ⟨aB, nB, cB, lB, rfl, rB, mB, lBl, hBB, hbB⟩; have HB2 := hbC.trans (hBB.mono hbC.size); obtain ⟨z0, z1, z2, z3, z4⟩ := hcl wB HB2; have rA2 := rA.later (by first | exact hbB | exact (below_drewN (Below.refl _ wA) _).trans (hbB.mono (Nat.le_refl _)))) | (go_at_call 7; refine (hNw rA2 rB mA mB (by omega) (by omega)).mono ?_; rintro r wE ⟨s9, v1, v2, rfl, hR, hbE⟩; obtain ⟨a9, n9, c9, b9, m9, d9, rfl, rfl, _⟩ := hR.opens; have HB := HB2.trans (hbE.mono HB2.size); obtain ⟨z0, z1, z2, z3, z4⟩ := hcl wE HB; have tE := st1.later HB; obtain ⟨p0, p1, p2⟩ := tE.cells; obtain ⟨o0, o1, o2⟩ := tE.frozen; have sb := HB2.size))
      go_wp2
      have st9 := (tE.set (.bool s9) (.slice a9 n9 c9) (.slice b9 m9 d9)).cells
      refine bodyPost_ret (v := .tuple #[.agg #[.bool s9, .slice a9 n9 c9, .slice b9 m9 d9], .int .i64 0]) (by simp [results, Tryz.results8, go_sem, st9]) rfl ?_
      exact ⟨_, _, _, rfl, (FIN hR sb HB).1, (FIN hR sb HB).2⟩
end Go.Proofs.YtiicphkpmdidaaaGreatDoor


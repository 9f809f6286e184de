import Derived.Below
import Derived.BigQuiet
import Derived.BigRegion
import Derived.ChangeOld
import Derived.Deep.DeepCutAuto
import Derived.Deep.LoopGhost
import Derived.Deep.QuietTactic
import Derived.Deep.RegionHeld3
import Derived.Deep.RegionLaw
import Derived.Deep.RegionWith
import Derived.KernelRfl
import Derived.Laws.BitsAllLaws
import Derived.Laws.CopyRow
import Derived.Laws.EntriesVeiled
import Derived.Laws.IdiomCopy
import Derived.Laws.IdiomRangeMap
import Derived.Laws.IdiomStrings
import Derived.Laws.RangeAny
import Derived.Laws.ResultCell
import Derived.Laws.Strings3
import Derived.Lib.OthersKept
import Derived.Lib.Strings
import Derived.Lib.TrimByte
import Derived.Lib.Walk
import Derived.OpenShut
import Derived.OwnWalk
import Derived.ProofKit
import Derived.Scope
import Derived.ShutString
import Derived.WalkKit
import Derived.WalkLawsBesides
import Derived.WalkMore
import Derived.WalkSpells
import Derived.Test.YtalglldkjbinbaaGreatPt5
import Derived.Test.YtalglldkjbinbaaGreatPt7
import Derived.Test.YtalglldkjbinbaaGreatPt10
import Derived.Test.YtalglldkjbinbaaGreatPt19
import Derived.Test.YtalglldkjbinbaaGreatPt21
/- plumbref12: ten, against, parts, ends. -/
namespace Go.Proofs.YtalglldkjbinbaaGreat
open Go.ChangeShapes Go.WideShapes Go.ChangeAt Go.RowKit
open Na Ar Ry
set_option linter.unusedVariables false
theorem nm_of {x : Int} (h : U x) : Nm [x] x := ⟨Dg.one h, by simp [num, val], by simp⟩
theorem ten12r_any {k : Nat} {K : Int} (hK : K = k) (h : k ≤ 370) (w : World) :
    Calls Tryz.prog 40 #[.int .i64 K] w fun r w' => ∃ a n c xs, r = .returned (.slice a n c) ∧ RowC w' a n c xs ∧ Nm xs (10 ^ k) ∧ n ≤ 100 ∧ Below w.heap.size w w' := by
  subst hK
  have r1 := rowC_one w 10 22
  have b1 := alloc_below (w := w) (.cells #[.int .u64 10] 22)
  have u10 : U 10 := by unfold U; omega
  have lt := ten_lt8 h
  have e1 : powE (num [10]) (k : Int) = 0 ∧ powL (num [10]) (k : Int) = words (10 ^ k) := by
    have n10 : num [10] = 10 := (nm_of u10).num
    unfold powE powL
    rw [n10, if_neg (by omega), if_neg (by omega), Int.toNat_natCast]
    exact ⟨(lt.fits (by omega)).2, (lt.fits (by omega)).1⟩
  have hP := ref3Pow_any (c1 := 1) r1.1 (nm_of u10).ws (by omega) (k : Int) (by omega) (by omega)
  rw [e1.1, e1.2] at hP
  clear e1
  go_enter Tryz.func40, Tryz.ntmps40
  go_wp2_with fail
  refine hP.mono ?_
  rintro r w1 ⟨a1, n1, d1, rfl, rr, hb⟩
  have B := b1.trans (hb.mono b1.size)
  clear hP r1 b1 hb
  go_wp2
  go_ret
  have l1 := rr.1.1
  have l2 := lt.len
  exact ⟨_, _, _, _, rfl, rr, lt.nm (by omega), by omega, B⟩
theorem mul12r {w : World} {a b : Option Addr} {n m c1 c2 : Nat} {xs ys : List Int} {A B : Int} {k : Nat} (hr : RowC w a n c1 xs) (hr' : RowC w b m c2 ys) (h : Nm xs A) (h' : Nm ys B) (hn : n ≤ 100) (hm : m ≤ 100) (hL : Lt (A * B) k) (hk : k ≤ 100) :
    Calls Tryz.prog 39 #[.slice a n c1, .slice b m c2] w fun e w' => ∃ a' n' c' l, e = .returned (.slice a' n' c') ∧ RowC w' a' n' c' l ∧ Nm l (A * B) ∧ n' ≤ 100 ∧ Below w.heap.size w w' := by
  have f := ref3Mul_any (c1 := c1) (c2 := c2) hr.1 hr'.1 h.ws h'.ws (by omega) (by omega)
  rw [h.num, h'.num] at f
  refine f.mono ?_
  rintro e w' ⟨v, rfl, o, hb⟩
  obtain ⟨a', n', c', l, rfl, r, nn, hq⟩ := o.opens hL (by omega)
  have e1 := r.1.1
  have e3 := hL.len
  rw [← show l = words (A * B) from hq.out] at e3
  exact ⟨a', n', c', l, rfl, r, nn, by omega, hb⟩
theorem shl12r {w : World} {a : Option Addr} {n c1 : Nat} {xs : List Int} {A T : Int} {k t : Nat} (hr : RowC w a n c1 xs) (h : Nm xs A) (hn : n ≤ 100) (hT : T = t) (ht : t ≤ 1200) (hL : Lt (A * 2 ^ t) k) (hk : k ≤ 100) :
    Calls Tryz.prog 38 #[.slice a n c1, .int .i64 T] w fun e w' => ∃ a' n' c' l, e = .returned (.slice a' n' c') ∧ RowC w' a' n' c' l ∧ Nm l (A * 2 ^ t) ∧ n' ≤ 100 ∧ Below w.heap.size w w' := by
  subst hT
  have f := ref3Shl_any (c1 := c1) hr.1 h.ws (by omega) t (by omega)
  rw [h.num] at f
  refine f.mono ?_
  rintro e w' ⟨v, rfl, o, hb⟩
  obtain ⟨a', n', c', l, rfl, r, nn, hq⟩ := o.opens hL (by omega)
  have e1 := r.1.1
  have e3 := hL.len
  rw [← show l = words (A * 2 ^ t) from hq.out] at e3
  exact ⟨a', n', c', l, rfl, r, nn, by omega, hb⟩
set_option maxHeartbeats 3200000 in
set_option maxRecDepth 100000 in
theorem against12_pp {d e u x : Int} (ud : U d) (uu : U u) (he0 : 0 < e) (he1 : e ≤ 370) (hx0 : 0 < x) (hx1 : x ≤ 1100) (w : World) :
    Calls Tryz.prog 37 #[.int .u64 d, .int .i64 e, .int .u64 u, .int .i64 x] w fun r w' => r = .returned (.int .i64 (ordN (d * 10 ^ e.toNat) ((u) * 2 ^ x.toNat))) ∧ Below w.heap.size w w' := by
  have g1 : decide (e > 0) = true := by simp; omega
  have g1' : decide (0 < e) = true := by simp; omega
  have g2 : decide (x > 0) = true := by simp; omega
  have g2' : decide (0 < x) = true := by simp; omega
  have r1 := rowC_one w d 22
  have b1 := alloc_below (w := w) (.cells #[.int .u64 d] 22)
  have es : (w.alloc (.cells #[.int .u64 d] 22)).heap.size = w.heap.size + 1 := by simp
  have r2 := rowC_one (w.alloc (.cells #[.int .u64 d] 22)) u 22
  have b2 := alloc_below (w := w.alloc (.cells #[.int .u64 d] 22)) (.cells #[.int .u64 u] 22)
  rw [es] at r2
  have r1' := r1.later b2
  have B2 := b1.trans (b2.mono b1.size)
  obtain ⟨w0, hw0⟩ : ∃ z, z = (w.alloc (.cells #[.int .u64 d] 22)).alloc (.cells #[.int .u64 u] 22) := ⟨_, rfl⟩
  obtain ⟨g, hg⟩ : ∃ z, z = w.heap.size := ⟨_, rfl⟩
  rw [← hw0] at r2 r1' B2
  rw [← hg] at r2 r1'
  have md := nm_of ud
  have mu := nm_of uu
  have ld := Lt.word ud
  have lu := Lt.word uu
  have hT := fun w => ten12r_any (k := e.toNat) (K := e) (by omega) (by omega) w
  have lT := ten_lt8 (n := e.toNat) (by omega)
  generalize (10 : Int) ^ e.toNat = X at *
  clear r1 b1 b2 es
  go_enter Tryz.func37, Tryz.ntmps37
  go_wp2_with fail
  rw [← hw0, ← hg]
  clear hw0 hg
  refine (hT _).mono ?_
  rintro r w1 ⟨aT, nT, cT, lTs, rfl, rT, mT, qT, bT⟩
  have B3 := B2.trans (bT.mono B2.size)
  have rd1 := r1'.later bT
  have ru1 := r2.later bT
  have lA : Lt (d * X) 21 := (ld.mul lT).mono (by omega)
  have hM := mul12r rd1 rT md mT (by omega) qT lA (by omega)
  clear hT r1' r2 B2 bT
  go_wp2_with fail
  refine hM.mono ?_
  rintro r w2 ⟨a2, n2, c2, l2, rfl, rA, mA, qA, bM⟩
  have B4 := B3.trans (bM.mono B3.size)
  have rB := ru1.later bM
  have mB := mu
  have qB : 1 ≤ 100 := by omega
  have lB : Lt u 21 := lu.mono (by omega)
  clear hM rd1 ru1 rT B3 bM
  have lS : Lt (u * 2 ^ x.toNat) 60 := (lB.pow2).mono (by omega)
  have hS := shl12r (T := x) rB mB qB (by omega) (by omega) lS (by omega)
  go_wp2_with fail
  refine hS.mono ?_
  rintro r w3 ⟨a3, n3, c3, l3, rfl, rS, mS, qS, bS⟩
  have B5 := B4.trans (bS.mono B4.size)
  have rA2 := rA.later bS
  have hC := ref3Cmp_any (c1 := c2) (c2 := c3) rA2.1 rS.1 mA.ws mS.ws (by omega) (by omega)
  rw [mA.num, mS.num] at hC
  clear hS rA rB B4 bS
  go_wp2_with fail
  refine hC.mono ?_
  rintro r w4 ⟨rfl, rfl⟩
  clear hC
  go_wp2
  go_ret
  exact ⟨rfl, B5⟩
set_option maxHeartbeats 3200000 in
set_option maxRecDepth 100000 in
theorem against12_pn {d e u x : Int} (ud : U d) (uu : U u) (he0 : 0 < e) (he1 : e ≤ 370) (hx0 : -1100 ≤ x) (hx1 : x ≤ 0) (w : World) :
    Calls Tryz.prog 37 #[.int .u64 d, .int .i64 e, .int .u64 u, .int .i64 x] w fun r w' => r = .returned (.int .i64 (ordN ((d * 10 ^ e.toNat) * 2 ^ (-x).toNat) (u))) ∧ Below w.heap.size w w' := by
  have g1 : decide (e > 0) = true := by simp; omega
  have g1' : decide (0 < e) = true := by simp; omega
  have g2 : decide (x > 0) = false := by simp; omega
  have g2' : decide (0 < x) = false := by simp; omega
  have r1 := rowC_one w d 22
  have b1 := alloc_below (w := w) (.cells #[.int .u64 d] 22)
  have es : (w.alloc (.cells #[.int .u64 d] 22)).heap.size = w.heap.size + 1 := by simp
  have r2 := rowC_one (w.alloc (.cells #[.int .u64 d] 22)) u 22
  have b2 := alloc_below (w := w.alloc (.cells #[.int .u64 d] 22)) (.cells #[.int .u64 u] 22)
  rw [es] at r2
  have r1' := r1.later b2
  have B2 := b1.trans (b2.mono b1.size)
  obtain ⟨w0, hw0⟩ : ∃ z, z = (w.alloc (.cells #[.int .u64 d] 22)).alloc (.cells #[.int .u64 u] 22) := ⟨_, rfl⟩
  obtain ⟨g, hg⟩ : ∃ z, z = w.heap.size := ⟨_, rfl⟩
  rw [← hw0] at r2 r1' B2
  rw [← hg] at r2 r1'
  have md := nm_of ud
  have mu := nm_of uu
  have ld := Lt.word ud
  have lu := Lt.word uu
  have hT := fun w => ten12r_any (k := e.toNat) (K := e) (by omega) (by omega) w
  have lT := ten_lt8 (n := e.toNat) (by omega)
  generalize (10 : Int) ^ e.toNat = X at *
  clear r1 b1 b2 es
  go_enter Tryz.func37, Tryz.ntmps37
  go_wp2_with fail
  rw [← hw0, ← hg]
  clear hw0 hg
  refine (hT _).mono ?_
  rintro r w1 ⟨aT, nT, cT, lTs, rfl, rT, mT, qT, bT⟩
  have B3 := B2.trans (bT.mono B2.size)
  have rd1 := r1'.later bT
  have ru1 := r2.later bT
  have lA : Lt (d * X) 21 := (ld.mul lT).mono (by omega)
  have hM := mul12r rd1 rT md mT (by omega) qT lA (by omega)
  clear hT r1' r2 B2 bT
  go_wp2_with fail
  refine hM.mono ?_
  rintro r w2 ⟨a2, n2, c2, l2, rfl, rA, mA, qA, bM⟩
  have B4 := B3.trans (bM.mono B3.size)
  have rB := ru1.later bM
  have mB := mu
  have qB : 1 ≤ 100 := by omega
  have lB : Lt u 21 := lu.mono (by omega)
  clear hM rd1 ru1 rT B3 bM
  have lS : Lt (d * X * 2 ^ (-x).toNat) 60 := (lA.pow2).mono (by omega)
  have hS := shl12r (T := -x) rA mA qA (by omega) (by omega) lS (by omega)
  go_wp2_with fail
  refine hS.mono ?_
  rintro r w3 ⟨a3, n3, c3, l3, rfl, rS, mS, qS, bS⟩
  have B5 := B4.trans (bS.mono B4.size)
  have rB2 := rB.later bS
  have hC := ref3Cmp_any (c1 := c3) (c2 := 1) rS.1 rB2.1 mS.ws mB.ws (by omega) (by omega)
  rw [mS.num, mB.num] at hC
  clear hS rA rB B4 bS
  go_wp2_with fail
  refine hC.mono ?_
  rintro r w4 ⟨rfl, rfl⟩
  clear hC
  go_wp2
  go_ret
  exact ⟨rfl, B5⟩
set_option maxHeartbeats 3200000 in
set_option maxRecDepth 100000 in
theorem against12_np {d e u x : Int} (ud : U d) (uu : U u) (he0 : -370 ≤ e) (he1 : e ≤ 0) (hx0 : 0 < x) (hx1 : x ≤ 1100) (w : World) :
    Calls Tryz.prog 37 #[.int .u64 d, .int .i64 e, .int .u64 u, .int .i64 x] w fun r w' => r = .returned (.int .i64 (ordN (d) ((u * 10 ^ (-e).toNat) * 2 ^ x.toNat))) ∧ Below w.heap.size w w' := by
  have g1 : decide (e > 0) = false := by simp; omega
  have g1' : decide (0 < e) = false := by simp; omega
  have g2 : decide (x > 0) = true := by simp; omega
  have g2' : decide (0 < x) = true := by simp; omega
  have r1 := rowC_one w d 22
  have b1 := alloc_below (w := w) (.cells #[.int .u64 d] 22)
  have es : (w.alloc (.cells #[.int .u64 d] 22)).heap.size = w.heap.size + 1 := by simp
  have r2 := rowC_one (w.alloc (.cells #[.int .u64 d] 22)) u 22
  have b2 := alloc_below (w := w.alloc (.cells #[.int .u64 d] 22)) (.cells #[.int .u64 u] 22)
  rw [es] at r2
  have r1' := r1.later b2
  have B2 := b1.trans (b2.mono b1.size)
  obtain ⟨w0, hw0⟩ : ∃ z, z = (w.alloc (.cells #[.int .u64 d] 22)).alloc (.cells #[.int .u64 u] 22) := ⟨_, rfl⟩
  obtain ⟨g, hg⟩ : ∃ z, z = w.heap.size := ⟨_, rfl⟩
  rw [← hw0] at r2 r1' B2
  rw [← hg] at r2 r1'
  have md := nm_of ud
  have mu := nm_of uu
  have ld := Lt.word ud
  have lu := Lt.word uu
  have hT := fun w => ten12r_any (k := (-e).toNat) (K := -e) (by omega) (by omega) w
  have lT := ten_lt8 (n := (-e).toNat) (by omega)
  generalize (10 : Int) ^ (-e).toNat = X at *
  clear r1 b1 b2 es
  go_enter Tryz.func37, Tryz.ntmps37
  go_wp2_with fail
  rw [← hw0, ← hg]
  clear hw0 hg
  refine (hT _).mono ?_
  rintro r w1 ⟨aT, nT, cT, lTs, rfl, rT, mT, qT, bT⟩
  have B3 := B2.trans (bT.mono B2.size)
  have rd1 := r1'.later bT
  have ru1 := r2.later bT
  have lB : Lt (u * X) 21 := (lu.mul lT).mono (by omega)
  have hM := mul12r ru1 rT mu mT (by omega) qT lB (by omega)
  clear hT r1' r2 B2 bT
  go_wp2_with fail
  refine hM.mono ?_
  rintro r w2 ⟨a2, n2, c2, l2, rfl, rB, mB, qB, bM⟩
  have B4 := B3.trans (bM.mono B3.size)
  have rA := rd1.later bM
  have mA := md
  have qA : 1 ≤ 100 := by omega
  have lA : Lt d 21 := ld.mono (by omega)
  clear hM rd1 ru1 rT B3 bM
  have lS : Lt (u * X * 2 ^ x.toNat) 60 := (lB.pow2).mono (by omega)
  have hS := shl12r (T := x) rB mB qB (by omega) (by omega) lS (by omega)
  go_wp2_with fail
  refine hS.mono ?_
  rintro r w3 ⟨a3, n3, c3, l3, rfl, rS, mS, qS, bS⟩
  have B5 := B4.trans (bS.mono B4.size)
  have rA2 := rA.later bS
  have hC := ref3Cmp_any (c1 := 1) (c2 := c3) rA2.1 rS.1 mA.ws mS.ws (by omega) (by omega)
  rw [mA.num, mS.num] at hC
  clear hS rA rB B4 bS
  go_wp2_with fail
  refine hC.mono ?_
  rintro r w4 ⟨rfl, rfl⟩
  clear hC
  go_wp2
  go_ret
  exact ⟨rfl, B5⟩
set_option maxHeartbeats 3200000 in
set_option maxRecDepth 100000 in
theorem against12_nn {d e u x : Int} (ud : U d) (uu : U u) (he0 : -370 ≤ e) (he1 : e ≤ 0) (hx0 : -1100 ≤ x) (hx1 : x ≤ 0) (w : World) :
    Calls Tryz.prog 37 #[.int .u64 d, .int .i64 e, .int .u64 u, .int .i64 x] w fun r w' => r = .returned (.int .i64 (ordN ((d) * 2 ^ (-x).toNat) (u * 10 ^ (-e).toNat))) ∧ Below w.heap.size w w' := by
  have g1 : decide (e > 0) = false := by simp; omega
  have g1' : decide (0 < e) = false := by simp; omega
  have g2 : decide (x > 0) = false := by simp; omega
  have g2' : decide (0 < x) = false := by simp; omega
  have r1 := rowC_one w d 22
  have b1 := alloc_below (w := w) (.cells #[.int .u64 d] 22)
  have es : (w.alloc (.cells #[.int .u64 d] 22)).heap.size = w.heap.size + 1 := by simp
  have r2 := rowC_one (w.alloc (.cells #[.int .u64 d] 22)) u 22
  have b2 := alloc_below (w := w.alloc (.cells #[.int .u64 d] 22)) (.cells #[.int .u64 u] 22)
  rw [es] at r2
  have r1' := r1.later b2
  have B2 := b1.trans (b2.mono b1.size)
  obtain ⟨w0, hw0⟩ : ∃ z, z = (w.alloc (.cells #[.int .u64 d] 22)).alloc (.cells #[.int .u64 u] 22) := ⟨_, rfl⟩
  obtain ⟨g, hg⟩ : ∃ z, z = w.heap.size := ⟨_, rfl⟩
  rw [← hw0] at r2 r1' B2
  rw [← hg] at r2 r1'
  have md := nm_of ud
  have mu := nm_of uu
  have ld := Lt.word ud
  have lu := Lt.word uu
  have hT := fun w => ten12r_any (k := (-e).toNat) (K := -e) (by omega) (by omega) w
  have lT := ten_lt8 (n := (-e).toNat) (by omega)
  generalize (10 : Int) ^ (-e).toNat = X at *
  clear r1 b1 b2 es
  go_enter Tryz.func37, Tryz.ntmps37
  go_wp2_with fail
  rw [← hw0, ← hg]
  clear hw0 hg
  refine (hT _).mono ?_
  rintro r w1 ⟨aT, nT, cT, lTs, rfl, rT, mT, qT, bT⟩
  have B3 := B2.trans (bT.mono B2.size)
  have rd1 := r1'.later bT
  have ru1 := r2.later bT
  have lB : Lt (u * X) 21 := (lu.mul lT).mono (by omega)
  have hM := mul12r ru1 rT mu mT (by omega) qT lB (by omega)
  clear hT r1' r2 B2 bT
  go_wp2_with fail
  refine hM.mono ?_
  rintro r w2 ⟨a2, n2, c2, l2, rfl, rB, mB, qB, bM⟩
  have B4 := B3.trans (bM.mono B3.size)
  have rA := rd1.later bM
  have mA := md
  have qA : 1 ≤ 100 := by omega
  have lA : Lt d 21 := ld.mono (by omega)
  clear hM rd1 ru1 rT B3 bM
  have lS : Lt (d * 2 ^ (-x).toNat) 60 := (lA.pow2).mono (by omega)
  have hS := shl12r (T := -x) rA mA qA (by omega) (by omega) lS (by omega)
  go_wp2_with fail
  refine hS.mono ?_
  rintro r w3 ⟨a3, n3, c3, l3, rfl, rS, mS, qS, bS⟩
  have B5 := B4.trans (bS.mono B4.size)
  have rB2 := rB.later bS
  have hC := ref3Cmp_any (c1 := c3) (c2 := c2) rS.1 rB2.1 mS.ws mB.ws (by omega) (by omega)
  rw [mS.num, mB.num] at hC
  clear hS rA rB B4 bS
  go_wp2_with fail
  refine hC.mono ?_
  rintro r w4 ⟨rfl, rfl⟩
  clear hC
  go_wp2
  go_ret
  exact ⟨rfl, B5⟩
/-- d times ten to the e against u times two to the x -/
theorem against12_any {d e u x : Int} (ud : U d) (uu : U u) (he0 : -370 ≤ e) (he1 : e ≤ 370) (hx0 : -1100 ≤ x) (hx1 : x ≤ 1100) (w : World) :
    Calls Tryz.prog 37 #[.int .u64 d, .int .i64 e, .int .u64 u, .int .i64 x] w fun r w' => r = .returned (.int .i64 (ordN (exN d e * e2 (-x)) (u * exD e * e2 x))) ∧ Below w.heap.size w w' := by
  have z1 : ∀ y : Int, y ≤ 0 → e2 y = 1 := fun y h => e2_zero h
  have z2 : ∀ y : Int, e2 y = 2 ^ y.toNat := fun y => rfl
  by_cases h1 : 0 < e
  · have e1 : exN d e = d * 10 ^ e.toNat := by unfold exN; rw [if_pos (by omega)]
    have e3 : exD e = 1 := by unfold exD; rw [if_pos (by omega)]
    rw [e1, e3, Int.mul_one]
    by_cases h2 : 0 < x
    · rw [z1 (-x) (by omega), Int.mul_one, z2 x]
      exact against12_pp ud uu h1 he1 h2 hx1 w
    · rw [z1 x (by omega), Int.mul_one, z2 (-x)]
      exact against12_pn ud uu h1 he1 hx0 (by omega) w
  · have e1 : exN d e = d := by
      unfold exN
      split
      · have : e.toNat = 0 := by omega
        rw [this, Int.pow_zero, Int.mul_one]
      · rfl
    have e3 : exD e = 10 ^ (-e).toNat := by
      unfold exD
      split
      · have : (-e).toNat = 0 := by omega
        rw [this, Int.pow_zero]
      · rfl
    rw [e1, e3]
    by_cases h2 : 0 < x
    · rw [z1 (-x) (by omega), Int.mul_one, z2 x]
      exact against12_np ud uu he0 (by omega) h2 hx1 w
    · rw [z1 x (by omega), Int.mul_one, z2 (-x)]
      exact against12_nn ud uu he0 (by omega) hx0 (by omega) w
end Go.Proofs.YtalglldkjbinbaaGreat

/- plumbref12: parts, ends, within, nearer. -/
namespace Go.Proofs.YtalglldkjbinbaaGreat
open Go.ChangeShapes Go.WideShapes Go.ChangeAt Go.RowKit
open Na Ar Ry
set_option linter.unusedVariables false
theorem parts12r_any {b : Int} (h0 : 0 ≤ b) (h1 : b ≤ mostP) (w : World) :
    Calls Tryz.prog 36 #[.int .u64 b] w fun e w' => e = .returned (.tuple #[.int .u64 (spM b), .int .i64 (spX b)]) ∧ w' = w := by
  obtain ⟨f1, f2, f3⟩ := fields_of h0 h1
  obtain ⟨hu, hf, _⟩ := size_fin h0 h1
  have h2 := frac_bits hu
  have hb := fr_bd b
  have h4 := hid_or hb.1 hb.2
  have h5 : 0 ≤ ef b := (ef_bd b).1
  by_cases he : ef b = 0
  · have E1 : Hid (spM b = fr b) := by show _ = _; unfold spM; simp [he]
    have E2 : Hid (spX b = -1074) := by show _ = _; unfold spX; simp [he]
    have t1 : b / 4503599627370496 = 0 := by omega
    generalize fr b = F at *
    clear he f1 f2 f3 hf hb h4 h5
    go_enter Tryz.func36, Tryz.ntmps36
    go_wp2
    go_ret2
    exact ⟨by rw [E1.out, E2.out]; rfl, rfl⟩
  · have E1 : Hid (spM b = 4503599627370496 + fr b) := by show _ = _; unfold spM; simp [he, hf]
    have E2 : Hid (spX b = ef b - 1075) := by show _ = _; unfold spX; simp [he, hf]
    have t1 : b / 4503599627370496 = ef b := f1.symm
    have t2 : (ef b == 0) = false := by simp [he]
    generalize fr b = F at *
    generalize ef b = e at *
    clear he f1 f2 hf hb
    go_enter Tryz.func36, Tryz.ntmps36
    go_wp2
    go_ret2
    exact ⟨by rw [E1.out, E2.out]; rfl, rfl⟩
/-- the lower end in quarters -/
def loQ (p : Int) : Int := ((4 * mP p - dnR (mP p) (iP p) : Nat) : Int)
def hiQ (p : Int) : Int := ((4 * mP p + 2 : Nat) : Int)
theorem dn_is {p : Int} (h0 : 0 < p) (h1 : p ≤ mostP) : dnR (mP p) (iP p) = if fr p = 0 ∧ 1 < ef p then 1 else 2 := by
  obtain ⟨f1, f2, f3⟩ := fields_of (p := p) (by omega) h1
  obtain ⟨q1, q2, q3, q4, q5, -⟩ := parts_of h0 h1
  have hb := fr_bd p
  have e1 : spM p = if ef p = 0 then fr p else 4503599627370496 + fr p := by unfold spM; rw [if_neg (by omega)]
  have e3 : spX p = if ef p = 0 then -1074 else ef p - 1075 := by unfold spX; rw [if_neg (by omega)]
  have c : (mP p = 4503599627370496 ∧ 0 < iP p) ↔ (fr p = 0 ∧ 1 < ef p) := by
    rw [e1] at q4
    rw [e3] at q5
    by_cases z : ef p = 0
    · rw [if_pos z] at q4 q5; omega
    · rw [if_neg z] at q4 q5; omega
  unfold dnR
  by_cases z : fr p = 0 ∧ 1 < ef p
  · rw [if_pos z, if_pos (c.mpr z)]
  · rw [if_neg z, if_neg (fun h => z (c.mp h))]
set_option maxRecDepth 100000 in
theorem ends12r_any {p : Int} (h0 : 0 < p) (h1 : p ≤ mostP) (w : World) :
    Calls Tryz.prog 23 #[.int .u64 p] w fun e w' => e = .returned (.tuple #[.int .u64 (loQ p), .int .u64 (hiQ p), .int .i64 (spX p - 2)]) ∧ w' = w := by
  obtain ⟨f1, f2, f3⟩ := fields_of (p := p) (by omega) h1
  obtain ⟨hu, hf, _⟩ := size_fin (Int.le_of_lt h0) h1
  have hP := fun w => parts12r_any (Int.le_of_lt h0) h1 w
  have h2 := frac_bits hu
  obtain ⟨q1, q2, q3, q4, q5, -⟩ := parts_of h0 h1
  have dn := dn_is h0 h1
  have t1 : p / 4503599627370496 = ef p := f1.symm
  have x0 : -1074 ≤ spX p ∧ spX p ≤ 971 := by omega
  have m0 : 1 ≤ spM p ∧ spM p < 9007199254740992 := by omega
  have eH : hiQ p = 4 * spM p + 2 := by unfold hiQ; omega
  have eL : loQ p = 4 * spM p - (dnR (mP p) (iP p) : Int) := by
    have := dn_cases (mP p) (iP p)
    unfold loQ; omega
  have hb := fr_bd p
  have he := ef_bd p
  rw [eH, eL, dn]
  clear eH eL dn q1 q2 q3 q4 q5 hf f1 f2
  generalize spM p = M at *
  generalize spX p = X at *
  generalize fr p = F at *
  generalize ef p = E at *
  obtain ⟨x1, x2⟩ := x0
  obtain ⟨m1, m2⟩ := m0
  obtain ⟨he0, he1⟩ := he
  by_cases c1 : F = 0
  · have g1 : (F == 0) = true := beq_of c1
    by_cases c2 : 1 < E
    · have g2 : decide (E > 1) = true := by simp; omega
      have g2' : decide (1 < E) = true := by simp; omega
      rw [if_pos ⟨c1, c2⟩]
      go_enter Tryz.func23, Tryz.ntmps23
      go_wp2_with fail
      refine (hP _).mono ?_
      rintro r wz ⟨rfl, hz⟩
      rw [hz]
      go_wp2
      refine bodyPost_ret (v := .tuple #[.int .u64 (4 * M - 1), .int .u64 (4 * M + 2), .int .i64 (X - 2)]) (by simp [results, Tryz.results23, go_sem]) rfl ?_
      exact ⟨rfl, rfl⟩
    · have g2 : decide (E > 1) = false := by simp; omega
      have g2' : decide (1 < E) = false := by simp; omega
      rw [if_neg (fun h => c2 h.2)]
      go_enter Tryz.func23, Tryz.ntmps23
      go_wp2_with fail
      refine (hP _).mono ?_
      rintro r wz ⟨rfl, hz⟩
      rw [hz]
      go_wp2
      refine bodyPost_ret (v := .tuple #[.int .u64 (4 * M - 2), .int .u64 (4 * M + 2), .int .i64 (X - 2)]) (by simp [results, Tryz.results23, go_sem]) rfl ?_
      exact ⟨rfl, rfl⟩
  · have g1 : (F == 0) = false := beq_no c1
    rw [if_neg (fun h => c1 h.1)]
    go_enter Tryz.func23, Tryz.ntmps23
    go_wp2_with fail
    refine (hP _).mono ?_
    rintro r wz ⟨rfl, hz⟩
    rw [hz]
    go_wp2
    refine bodyPost_ret (v := .tuple #[.int .u64 (4 * M - 2), .int .u64 (4 * M + 2), .int .i64 (X - 2)]) (by simp [results, Tryz.results23, go_sem]) rfl ?_
    exact ⟨rfl, rfl⟩
namespace Ry
theorem e2_turn {i T c : Int} (hc : 0 ≤ c) (hi : 0 ≤ i) (h : T = i - c) : e2 c * e2 T = e2 i * e2 (-T) := by
  by_cases z : 0 ≤ T
  · rw [e2_zero (k := -T) (by omega), Int.mul_one, show i = c + T by omega, e2_add hc z]
  · rw [e2_zero (k := T) (by omega), Int.mul_one, show c = i + -T by omega, e2_add hi (by omega)]
/-- against, by whole numbers -/
theorem ag_same {n u B i T : Int} (c : Int) (hc : 0 ≤ c) (hi : 0 ≤ i) (h : T = i - c) : ordN (n * e2 (-T)) (u * B * e2 T) = ordN (n * e2 c) (u * e2 i * B) := by
  have t := e2_turn hc hi h
  have p1 := e2_pos c
  have p2 := e2_pos (-T)
  have e1 : n * e2 (-T) * e2 c = n * e2 c * e2 (-T) := by rw [Int.mul_right_comm]
  have e3 : u * B * e2 T * e2 c = u * e2 i * B * e2 (-T) := by
    generalize e2 T = a at *
    generalize e2 c = b at *
    generalize e2 i = f at *
    generalize e2 (-T) = g at *
    grind
  rw [← ordN_mul p1, e1, e3, ordN_mul p2]
theorem e2_76 : e2 1074 * 4 = e2 1076 := e2_1076
/-- what lies in the interval -/
theorem in_is {p d e : Int} (h0 : 0 < p) (h1 : p ≤ mostP) (hd : 0 ≤ d) : ExIs d e p 0 ↔
    ((0 < ordN (exN d e * e2 1076) (loQ p * e2 (iP p : Int) * exD e) ∨ (ordN (exN d e * e2 1076) (loQ p * e2 (iP p : Int) * exD e) = 0 ∧ p % 2 = 0)) ∧
     (ordN (exN d e * e2 1076) (hiQ p * e2 (iP p : Int) * exD e) < 0 ∨ (ordN (exN d e * e2 1076) (hiQ p * e2 (iP p : Int) * exD e) = 0 ∧ p % 2 = 0))) := by
  obtain ⟨q1, q2, q3, q4, q5, q6, q7, q8, q9⟩ := parts_of h0 h1
  have pB := exD_pos e
  have w1 : 2 * ((numW p + nxtN p) * exD e) = hiQ p * e2 (iP p : Int) * exD e := by rw [← Int.mul_assoc, q7, pow_e2]; rfl
  have w2 : 2 * ((numW (p - 1) + numW p) * exD e) = loQ p * e2 (iP p : Int) * exD e := by rw [← Int.mul_assoc, q8, pow_e2]; rfl
  have w3 : exN d e * e2 1076 = 4 * (exN d e * e2 1074) := by rw [← e2_76, ← Int.mul_assoc]; omega
  unfold ExIs
  rw [round_ends (scA_nonneg (exN_nonneg hd e) 0) (scB_pos' pB) h0 h1, scB_flat, ← w1, ← w2, w3]
  show ((numW (p - 1) + numW p) * exD e ≤ 2 * (exN d e * e2 1074) ∧ 2 * (exN d e * e2 1074) ≤ (numW p + nxtN p) * exD e ∧ (((numW (p - 1) + numW p) * exD e = 2 * (exN d e * e2 1074) ∨ 2 * (exN d e * e2 1074) = (numW p + nxtN p) * exD e) → p % 2 = 0)) ↔ _
  generalize exN d e * e2 1074 = A
  generalize (numW (p - 1) + numW p) * exD e = L
  generalize (numW p + nxtN p) * exD e = H
  clear w1 w2 w3 q7 q8 q9
  unfold ordN
  by_cases z : p % 2 = 0
  · constructor
    · rintro ⟨a, b, -⟩
      refine ⟨?_, ?_⟩
      · split
        · omega
        · split <;> omega
      · split
        · omega
        · split <;> omega
    · rintro ⟨a, b⟩
      refine ⟨?_, ?_, fun _ => z⟩
      · split at a
        · omega
        · omega
      · split at b
        · omega
        · split at b <;> omega
  · constructor
    · rintro ⟨a, b, c⟩
      have c1 : ¬ L = 2 * A := fun q => z (c (Or.inl q))
      have c2 : ¬ 2 * A = H := fun q => z (c (Or.inr q))
      refine ⟨?_, ?_⟩
      · split
        · omega
        · split <;> omega
      · split
        · omega
        · split <;> omega
    · rintro ⟨a, b⟩
      have l1 : L < 2 * A := by
        split at a
        · omega
        · split at a <;> omega
      have l2 : 2 * A < H := by
        split at b
        · omega
        · split at b <;> omega
      exact ⟨by omega, by omega, fun q => by omega⟩
theorem ordN_rng (a b : Int) : -1 ≤ ordN a b ∧ ordN a b ≤ 1 := by unfold ordN; split <;> (try split) <;> omega
end Ry
set_option maxHeartbeats 3200000 in
set_option maxRecDepth 100000 in
theorem within12r_any {p d e : Int} (h0 : 0 < p) (h1 : p ≤ mostP) (ud : U d) (he0 : -370 ≤ e) (he1 : e ≤ 370) (w : World) :
    Calls Tryz.prog 16 #[.int .u64 d, .int .i64 e, .int .u64 p] w fun r w' => ∃ t, r = .returned (.bool t) ∧ (t = true ↔ ExIs d e p 0) ∧ Below w.heap.size w w' := by
  obtain ⟨q1, q2, q3, q4, q5, -⟩ := parts_of h0 h1
  obtain ⟨up, fp, _⟩ := size_fin (Int.le_of_lt h0) h1
  have dc := dn_cases (mP p) (iP p)
  have uL : U (loQ p) := by unfold U loQ; omega
  have uH : U (hiQ p) := by unfold U hiQ; omega
  have hE := fun w => ends12r_any h0 h1 w
  have hA := fun w => against12_any ud uL he0 he1 (show -1100 ≤ spX p - 2 by omega) (show spX p - 2 ≤ 1100 by omega) w
  have hB := fun w => against12_any ud uH he0 he1 (show -1100 ≤ spX p - 2 by omega) (show spX p - 2 ≤ 1100 by omega) w
  rw [ag_same (i := (iP p : Int)) 1076 (by omega) (by omega) (by omega)] at hA hB
  have hI := in_is (e := e) h0 h1 ud.1
  have ha := and_one up
  have r1 := ordN_rng (exN d e * e2 1076) (loQ p * e2 (iP p : Int) * exD e)
  have r2 := ordN_rng (exN d e * e2 1076) (hiQ p * e2 (iP p : Int) * exD e)
  generalize ordN (exN d e * e2 1076) (loQ p * e2 (iP p : Int) * exD e) = a at *
  generalize ordN (exN d e * e2 1076) (hiQ p * e2 (iP p : Int) * exD e) = c at *
  generalize spX p - 2 = X at *
  generalize loQ p = lo at *
  generalize hiQ p = hi at *
  have HI : Hid (ExIs d e p 0 ↔ ((0 < a ∨ (a = 0 ∧ p % 2 = 0)) ∧ (c < 0 ∨ (c = 0 ∧ p % 2 = 0)))) := hI
  have mo : 0 ≤ p % 2 ∧ p % 2 < 2 := by omega
  generalize hpm : p % 2 = pm at *
  clear hI q1 q2 q3 q4 q5 dc uL uH h0 h1 fp up hpm
  obtain ⟨r11, r12⟩ := r1
  obtain ⟨r21, r22⟩ := r2
  go_enter Tryz.func16, Tryz.ntmps16
  go_wp2_with fail
  refine (hE _).mono ?_
  rintro r wz ⟨rfl, hz⟩
  rw [hz]
  clear hz hE
  go_wp2_with fail
  refine (hA _).mono ?_
  rintro r w1 ⟨rfl, b1⟩
  clear hA
  go_wp2_with fail
  refine (hB _).mono ?_
  rintro r w2 ⟨rfl, b2⟩
  have B2 := b1.trans (b2.mono b1.size)
  clear hB b1 b2
  have ca : a = -1 ∨ a = 0 ∨ a = 1 := by omega
  have cc : c = -1 ∨ c = 0 ∨ c = 1 := by omega
  have cp : pm = 0 ∨ pm = 1 := by omega
  clear r11 r12 r21 r22 mo
  rcases ca with rfl | rfl | rfl <;> rcases cc with rfl | rfl | rfl <;> rcases cp with rfl | rfl
  all_goals go_wp2
  all_goals go_ret
  all_goals (first | exact ⟨true, rfl, by rw [HI.out]; simp, B2⟩ | exact ⟨false, rfl, by rw [HI.out]; simp, B2⟩)
set_option maxHeartbeats 1600000 in
set_option maxRecDepth 100000 in
theorem nearer12r_any {p d e : Int} (h0 : 0 < p) (h1 : p ≤ mostP) (hd0 : 0 ≤ d) (hd1 : d < 1000000000000000000) (he0 : -370 ≤ e) (he1 : e ≤ 370) (w : World) :
    Calls Tryz.prog 17 #[.int .u64 d, .int .i64 e, .int .u64 p] w fun r w' => r = .returned (.int .i64 (-(ordN (exN (2 * d + 1) e * e2 (-(spX p))) (2 * spM p * exD e * e2 (spX p))))) ∧ Below w.heap.size w w' := by
  obtain ⟨q1, q2, q3, q4, q5, -⟩ := parts_of h0 h1
  have hP := fun w => parts12r_any (Int.le_of_lt h0) h1 w
  have u1 : U (2 * d + 1) := by unfold U; omega
  have u2 : U (2 * spM p) := by unfold U; omega
  have hA := fun w => against12_any u1 u2 he0 he1 (show -1100 ≤ spX p by omega) (show spX p ≤ 1100 by omega) w
  have r1 := ordN_rng (exN (2 * d + 1) e * e2 (-(spX p))) (2 * spM p * exD e * e2 (spX p))
  have m0 : 0 ≤ spM p ∧ spM p < 9007199254740992 := by omega
  generalize ordN (exN (2 * d + 1) e * e2 (-(spX p))) (2 * spM p * exD e * e2 (spX p)) = R at *
  generalize spX p = X at *
  generalize spM p = M at *
  clear q1 q2 q3 q4 q5 u1 u2
  obtain ⟨r11, r12⟩ := r1
  obtain ⟨m1, m2⟩ := m0
  go_enter Tryz.func17, Tryz.ntmps17
  go_wp2_with fail
  refine (hP _).mono ?_
  rintro r wz ⟨rfl, hz⟩
  rw [hz]
  clear hz hP
  go_wp2_with fail
  refine (hA _).mono ?_
  rintro r w1 ⟨rfl, b1⟩
  go_wp2
  go_ret
  exact ⟨rfl, b1⟩
end Go.Proofs.YtalglldkjbinbaaGreat

/- plumbref12: seventeen. -/
namespace Go.Proofs.YtalglldkjbinbaaGreat
open Go.ChangeShapes Go.WideShapes Go.ChangeAt Go.RowKit
open Na Ar Ry
set_option linter.unusedVariables false
namespace Ry
theorem num_own {p : Int} (h0 : 0 < p) (h1 : p ≤ mostP) : numW p = spM p * e2 (iP p : Int) ∧ 1 ≤ numW p ∧ numW p < e2 2098 := by
  obtain ⟨q1, q2, q3, q4, q5, q6, q7, q8, q9⟩ := parts_of h0 h1
  have a := num_lt' (p := 0) (q := p) (by omega) h0 h1
  rw [num_zero'] at a
  have b := num_mono (Int.le_of_lt h0) h1 (Int.le_refl _)
  have c := nxt_gt mostP
  have d : nxtN mostP = e2 2098 := by
    have e := most_nums
    unfold nxtN
    rw [e.1, e.2]
    have : e2 2098 = e2 2045 * e2 53 := e2_add (j := 2045) (k := 53) (by omega) (by omega)
    rw [this, e2_53]
    generalize e2 2045 = T
    omega
  rw [q4, pow_e2] at q9
  exact ⟨q9, by omega, by omega⟩
/-- a decimal against the pattern's number -/
def agP (p y e : Int) : Int := ordN (exN y e * e2 1074) (numW p * exD e)
theorem ag_low {p y e : Int} : agP p y e ≤ 0 ↔ exN y e * e2 1074 ≤ numW p * exD e := by
  unfold agP ordN; split
  · omega
  · split <;> omega
theorem far_top {p e : Int} (h0 : 0 < p) (h1 : p ≤ mostP) (he : 310 ≤ e) : ¬ agP p 100000000000000000 e ≤ 0 := by
  rw [ag_low]
  intro h
  have n := (num_own h0 h1).2.2
  have e1 : exD e = 1 := by unfold exD; rw [if_pos (by omega)]
  have e3 : t10 310 ≤ exN 100000000000000000 e := by
    unfold exN
    rw [if_pos (by omega)]
    have q : t10 310 ≤ t10 e.toNat := t10_mono (by omega)
    have q' : t10 e.toNat = 10 ^ e.toNat := rfl
    have p9 := t10_pos e.toNat
    rw [← q']
    omega
  rw [e1, Int.mul_one] at h
  have k := Int.mul_le_mul_of_nonneg_right e3 (Int.le_of_lt (e2_pos 1074))
  have big : e2 2098 < t10 310 * e2 1074 := by
    have kk : Nat.blt (2 ^ 2098) (10 ^ 310 * 2 ^ 1074) = true := by kernel_rfl
    have c2 : e2 1074 = ((2 ^ 1074 : Nat) : Int) := (e2_cast 1074).symm
    have c3 : e2 2098 = ((2 ^ 2098 : Nat) : Int) := (e2_cast 2098).symm
    have c4 : t10 310 = ((10 ^ 310 : Nat) : Int) := (t10_cast 310).symm
    rw [c2, c3, c4, ← Int.natCast_mul]
    have := Nat.blt_eq.mp kk
    generalize 10 ^ 310 * 2 ^ 1074 = X at *
    generalize 2 ^ 2098 = Y at *
    omega
  omega
theorem low_gen {E X : Int} {a b : Nat} (hE : E = (a : Int)) (hX : X = (b : Int)) (h : Nat.ble (10000000000000000 * a) b = true) : 10000000000000000 * E ≤ X := by
  have := Nat.le_of_ble_eq_true h
  omega
theorem far_low {p e : Int} (h0 : 0 < p) (h1 : p ≤ mostP) (he : e ≤ -345) : ¬ 0 < agP p 10000000000000000 e := by
  intro h
  have h2 : ¬ agP p 10000000000000000 e ≤ 0 := by omega
  rw [ag_low] at h2
  apply h2
  have n := (num_own h0 h1).2.1
  have e1 : exN 10000000000000000 e = 10000000000000000 := by unfold exN; rw [if_neg (by omega)]
  have m := exD_mono he
  have d : exD (-345) = t10 345 := rfl
  rw [d] at m
  rw [e1]
  have k := Int.mul_le_mul_of_nonneg_right n (Int.le_of_lt (exD_pos e))
  have big : 10000000000000000 * e2 1074 ≤ t10 345 := low_gen (e2_cast 1074).symm (t10_cast 345).symm (by kernel_rfl)
  omega
/-- the quotient is the floor -/
theorem quo_fl {p e a b : Int} (h0 : 0 < p) (h1 : p ≤ mostP) (ha : a = spM p * exD e * e2 (spX p)) (hb : b = exN 1 e * e2 (-(spX p))) (hbp : 0 < b) : Fl p (a / b) e ∧ (∀ y, agP p y e ≤ 0 ↔ y ≤ a / b) := by
  obtain ⟨q1, q2, q3, q4, q5, -⟩ := parts_of h0 h1
  have no := (num_own h0 h1).1
  have key : ∀ y, agP p y e ≤ 0 ↔ y ≤ a / b := by
    intro y
    have s := ag_same (n := exN y e) (u := spM p) (B := exD e) (i := (iP p : Int)) (T := spX p) 1074 (by omega) (by omega) (by omega)
    have m0 : exN y e = y * exN 1 e := by unfold exN; split; rw [Int.one_mul]; omega
    unfold agP
    rw [no, ← s, m0, Int.mul_assoc, ← hb, ← ha]
    have d1 := Int.le_ediv_iff_mul_le (a := y) (b := a) hbp
    rw [d1]
    unfold ordN
    split
    · omega
    · split <;> omega
  refine ⟨⟨ag_low.mp ((key _).mpr (Int.le_refl _)), ?_⟩, key⟩
  have : ¬ agP p (a / b + 1) e ≤ 0 := fun h => by have := (key _).mp h; omega
  rw [ag_low] at this
  omega
end Ry
theorem div12r {w : World} {a b : Option Addr} {n m c1 c2 : Nat} {xs ys : List Int} {A B : Int} (hr : RowC w a n c1 xs) (hr' : RowC w b m c2 ys) (h : Nm xs A) (h' : Nm ys B) (hn : n ≤ 100) (hm : m ≤ 100) (hB : 0 < B) :
    Calls Tryz.prog 41 #[.slice a n c1, .slice b m c2] w fun e w' => ∃ a1 n1 d1 a2 n2 d2, e = .returned (.tuple #[.slice a1 n1 d1, .slice a2 n2 d2, .int .i64 0]) ∧ RowC w' a1 n1 d1 (words (A / B)) ∧ Below w.heap.size w w' := by
  have f := ref3Div_any (c1 := c1) (c2 := c2) hr.1 hr'.1 h.ws h'.ws (by omega) (by omega) (by rw [h'.num]; exact hB)
  rw [h.num, h'.num] at f
  refine f.mono ?_
  rintro e w' ⟨a1, n1, d1, a2, n2, d2, rfl, r1, r2, hb⟩
  exact ⟨a1, n1, d1, a2, n2, d2, rfl, r1, hb⟩
theorem one_cell12 {w : World} {a : Option Addr} {n c : Nat} {q : Int} (h : RowC w a n c (words q)) (h0 : 0 < q) (h1 : q < 18446744073709551616) : ∃ g off, a = some ⟨g, off, none⟩ ∧ n = 1 ∧ w.cell? ⟨g, off, none⟩ = some (.int .u64 q) := by
  have one : words q = [q] := by
    have w : Ws [q] := Dg.one ⟨by omega, h1⟩
    have s := words_strip w
    have n : num [q] = q := by simp [num, val]
    rw [n] at s
    rw [← s]
    exact strip_end [] q (by omega)
  rw [one] at h
  have l := h.1.1
  simp at l
  rcases h.1.2 with h' | ⟨g, off, e1, e2, h3⟩
  · omega
  · have := h3 0 (by omega)
    exact ⟨g, off, e1, by omega, by simpa using this⟩
set_option maxHeartbeats 6400000 in
set_option maxRecDepth 100000 in
theorem seventeen12r_any {p : Int} (h0 : 0 < p) (h1 : p ≤ mostP) (w : World) :
    Calls Tryz.prog 15 #[.int .u64 p] w fun r w' => ∃ q e, r = .returned (.tuple #[.int .u64 q, .int .i64 e]) ∧ Fl p q e ∧ 10000000000000000 ≤ q ∧ q < 100000000000000000 ∧ -345 ≤ e ∧ e ≤ 310 ∧ Below w.heap.size w w' := by
  obtain ⟨q1, q2, q3, q4, q5, -⟩ := parts_of h0 h1
  have hP := fun w => parts12r_any (Int.le_of_lt h0) h1 w
  have um : U (spM p) := by unfold U; omega
  have no := (num_own h0 h1).1
  have hA : ∀ (y e : Int), U y → -370 ≤ e → e ≤ 370 → ∀ w, Calls Tryz.prog 37 #[.int .u64 y, .int .i64 e, .int .u64 (spM p), .int .i64 (spX p)] w fun r w' => r = .returned (.int .i64 (agP p y e)) ∧ Below w.heap.size w w' := fun y e uy e0 e1 w => by
    have := against12_any (e := e) uy um e0 e1 (show -1100 ≤ spX p by omega) (show spX p ≤ 1100 by omega) w
    rw [ag_same (i := (iP p : Int)) 1074 (by omega) (by omega) (by omega), ← no] at this
    exact this
  have hT := fun e (he : 310 ≤ e) => far_top h0 h1 he
  have hLw := fun e (he : e ≤ -345) => far_low h0 h1 he
  have HQ : Hid (∀ e a b : Int, a = spM p * exD e * e2 (spX p) → b = exN 1 e * e2 (-(spX p)) → 0 < b → Fl p (a / b) e ∧ (∀ y, agP p y e ≤ 0 ↔ y ≤ a / b)) := fun e a b ha hb hp => quo_fl h0 h1 ha hb hp
  have HT : Hid (∀ e, 310 ≤ e → 0 < agP p 100000000000000000 e) := fun e he => by have := hT e he; omega
  have HLw : Hid (∀ e, e ≤ -345 → agP p 10000000000000000 e ≤ 0) := fun e he => by have := hLw e he; omega
  have HN : Hid (∀ e, 0 < agP p 10000000000000000 e → 0 < agP p 100000000000000000 (e - 1)) := fun e h => by
    rcases Int.lt_or_le 0 (agP p 100000000000000000 (e - 1)) with z | z
    · exact z
    · exfalso
      have a := ag_low.mp z
      have b := (tenth p 10000000000000000 (e - 1)).1.mpr (by simpa using a)
      rw [show e - 1 + 1 = e by omega] at b
      have := ag_low.mpr b
      omega
  have m0 : 1 ≤ spM p ∧ spM p < 9007199254740992 := by omega
  have x0 : -1074 ≤ spX p ∧ spX p ≤ 971 := by omega
  have rg := fun y e => ordN_rng (exN y e * e2 1074) (numW p * exD e)
  generalize spM p = m at *
  generalize spX p = x at *
  obtain ⟨x1, x2⟩ := x0
  obtain ⟨m1, m2⟩ := m0
  have ed : -330 ≤ Int.tdiv ((x + 52) * 30103) 100000 - 20 ∧ Int.tdiv ((x + 52) * 30103) 100000 - 20 ≤ 300 := by
    rcases Int.le_total 0 ((x + 52) * 30103) with h | h
    · rw [Int.tdiv_eq_ediv_of_nonneg h]; omega
    · have : Int.tdiv ((x + 52) * 30103) 100000 = -(Int.tdiv (-((x + 52) * 30103)) 100000) := by rw [Int.neg_tdiv]; omega
      rw [this, Int.tdiv_eq_ediv_of_nonneg (by omega)]; omega
  obtain ⟨ed0, ed1⟩ := ed
  clear q1 q2 q3 q4 q5 hT hLw h0 h1 no
  go_enter Tryz.func15, Tryz.ntmps15
  go_wp2_with fail
  refine (hP _).mono ?_
  rintro r wz ⟨rfl, hz⟩
  rw [hz]
  clear hz hP
  go_wp2
  go_loopw [6] (fun v wr => ∃ e : Int, v = .int .i64 e ∧ -330 ≤ e ∧ e ≤ 310 ∧ Hid (Below w.heap.size w wr)) (fun v _ => (310 - intOf v).toNat)
  case atStart => exact ⟨_, rfl, by omega, by omega, Below.refl _ _⟩
  case round =>
    obtain ⟨e, rfl, e0, e1, KB⟩ := hrel
    have hC := hA 100000000000000000 e (by unfold U; omega) (by omega) (by omega) wr
    have rgE := rg 100000000000000000 e
    change -1 ≤ agP p 100000000000000000 e ∧ agP p 100000000000000000 e ≤ 1 at rgE
    go_wp2_with fail
    refine hC.mono ?_
    rintro r wa ⟨rfl, ba⟩
    have HBa : Hid (Below w.heap.size w wa) := KB.out.trans (ba.mono KB.out.size)
    clear hC ba KB
    by_cases c : agP p 100000000000000000 e ≤ 0
    · have g1 : decide (agP p 100000000000000000 e ≤ 0) = true := by simpa using c
      have e9 : e < 310 := by
        rcases Int.lt_or_le e 310 with z | z
        · exact z
        · have := HT.out e z; omega
      generalize agP p 100000000000000000 e = ag at *
      go_wp2
      go_roundw
      case rel => exact ⟨e + 1, rfl, by omega, by omega, HBa⟩
      case measure => simp [intOf]; omega
    · have g1 : decide (agP p 100000000000000000 e ≤ 0) = false := by simpa using c
      have HL1 : Hid (0 < agP p 100000000000000000 e) := by show _ < _; omega
      clear c
      generalize hag : agP p 100000000000000000 e = ag at g1 rgE ⊢
      clear hag
      go_wp2
      go_loopw [6] (fun v wr => ∃ e : Int, v = .int .i64 e ∧ -345 ≤ e ∧ e ≤ 310 ∧ Hid (0 < agP p 100000000000000000 e) ∧ Hid (Below w.heap.size w wr)) (fun v _ => (intOf v + 345).toNat)
      case atStart => exact ⟨e, rfl, by omega, by omega, HL1, HBa⟩
      case round =>
        clear HL1 HBa g1 rgE e0 e1
        obtain ⟨e, rfl, e0, e1, HL1, KB⟩ := hrel
        have hC := hA 10000000000000000 e (by unfold U; omega) (by omega) (by omega) wr
        have rgE := rg 10000000000000000 e
        change -1 ≤ agP p 10000000000000000 e ∧ agP p 10000000000000000 e ≤ 1 at rgE
        go_wp2_with fail
        refine hC.mono ?_
        rintro r wa ⟨rfl, ba⟩
        have HBa : Hid (Below w.heap.size w wa) := KB.out.trans (ba.mono KB.out.size)
        clear hC ba KB
        by_cases c : 0 < agP p 10000000000000000 e
        · have g1 : decide (agP p 10000000000000000 e > 0) = true := by simpa using c
          have g1' : decide (0 < agP p 10000000000000000 e) = true := by simpa using c
          have e9 : -345 < e := by
            rcases Int.lt_or_le (-345) e with z | z
            · exact z
            · have := HLw.out e z; omega
          have HL2 : Hid (0 < agP p 100000000000000000 (e - 1)) := HN.out e c
          generalize agP p 10000000000000000 e = ag at *
          go_wp2
          go_roundw
          case rel => exact ⟨e - 1, rfl, by omega, by omega, HL2, HBa⟩
          case measure => simp [intOf]; omega
        · have g1 : decide (agP p 10000000000000000 e > 0) = false := by simpa using c
          have g1' : decide (0 < agP p 10000000000000000 e) = false := by simpa using c
          have HL2 : Hid (agP p 10000000000000000 e ≤ 0) := by show _ ≤ _; omega
          clear c
          generalize hag : agP p 10000000000000000 e = ag at g1 g1' rgE ⊢
          clear hag hA HT HLw HN rg
          have KB := HBa
          clear HBa
          by_cases xp : 0 < x
          · by_cases ep : 0 < e
            · have g2 : decide (x > 0) = true := by simp; omega
              have g2' : decide (0 < x) = true := by simp; omega
              have g3 : decide (e > 0) = true := by simp; omega
              have g3' : decide (0 < e) = true := by simp; omega
              have r1 := rowC_one wa m 22
              have b1 := alloc_below (w := wa) (.cells #[.int .u64 m] 22)
              have es : (wa.alloc (.cells #[.int .u64 m] 22)).heap.size = wa.heap.size + 1 := by simp
              have r2 := rowC_one (wa.alloc (.cells #[.int .u64 m] 22)) 1 22
              have b2 := alloc_below (w := wa.alloc (.cells #[.int .u64 m] 22)) (.cells #[.int .u64 1] 22)
              rw [es] at r2
              have r1' := r1.later b2
              have B2 := b1.trans (b2.mono b1.size)
              obtain ⟨w0, hw0⟩ : ∃ z, z = (wa.alloc (.cells #[.int .u64 m] 22)).alloc (.cells #[.int .u64 1] 22) := ⟨_, rfl⟩
              obtain ⟨g, hg⟩ : ∃ z, z = wa.heap.size := ⟨_, rfl⟩
              rw [← hw0] at r2 r1' B2
              rw [← hg] at r2 r1'
              have md := nm_of um
              have mu := nm_of (show U 1 by unfold U; omega)
              have ld := Lt.word um
              have lu : Lt 1 1 := Lt.word (by omega)
              clear r1 b1 b2 es
              have lS : Lt (m * 2 ^ x.toNat) 40 := (ld.pow2).mono (by omega)
              have hS := shl12r (T := x) r1' md (by omega) (by omega) (by omega) lS (by omega)
              go_wp2_with fail
              rw [← hw0, ← hg]
              clear hw0 hg
              refine hS.mono ?_
              rintro r w3 ⟨a3, n3, c3, l3, rfl, rA, mA, qA, bS⟩
              have B3 := B2.trans (bS.mono B2.size)
              have rB := r2.later bS
              have mB := mu
              have qB : 1 ≤ 100 := by omega
              have lA := lS
              have lB : Lt 1 40 := lu.mono (by omega)
              clear hS r1' r2 B2 bS lS
              have hT := fun w => ten12r_any (k := e.toNat) (K := e) (by omega) (by omega) w
              have lT := ten_lt8 (n := e.toNat) (by omega)
              go_wp2_with fail
              refine (hT _).mono ?_
              rintro r w4 ⟨aT, nT, cT, lTs, rfl, rT, mT, qT, bT⟩
              have B4 := B3.trans (bT.mono B3.size)
              have rA1 := rA.later bT
              have rB1 := rB.later bT
              clear hT rA rB B3 bT
              have lM : Lt (1 * 10 ^ e.toNat) 100 := (lB.mul lT).mono (by omega)
              have hM := mul12r rB1 rT mB mT qB qT lM (by omega)
              go_wp2_with fail
              refine hM.mono ?_
              rintro r w5 ⟨a5, n5, c5, l5, rfl, rM, mM, qM, bM⟩
              have B5 := B4.trans (bM.mono B4.size)
              have rA2 := rA1.later bM
              have hD := div12r rA2 rM mA mM qA qM (by first | omega | exact Int.mul_pos (by omega) (Int.pow_pos (by omega)) | exact Int.mul_pos (Int.mul_pos (by omega) (Int.pow_pos (by omega))) (Int.pow_pos (by omega)))
              have eA : m * 2 ^ x.toNat = m * exD e * e2 x := by
                have z1 : e2 x = 2 ^ x.toNat := rfl
                have z2 : exD e = 1 := by
                  unfold exD; split
                  · rfl
                  · omega
                rw [z1, z2]
                try (first | rfl | (rw [Int.mul_one]; done) | (rw [Int.mul_one, Int.mul_one]; done) | (rw [Int.one_mul, Int.mul_one]; done) | exact Int.mul_right_comm _ _ _ | (rw [Int.one_mul]; exact Int.mul_comm _ _))
              have eB : 1 * 10 ^ e.toNat = exN 1 e * e2 (-x) := by
                have z1 : e2 (-x) = 1 := e2_zero (by omega)
                have z2 : exN 1 e = 10 ^ e.toNat := by
                  unfold exN; split
                  · rw [Int.one_mul]
                  · omega
                rw [z1, z2]
                try (first | rfl | (rw [Int.mul_one]; done) | (rw [Int.mul_one, Int.mul_one]; done) | (rw [Int.one_mul, Int.mul_one]; done) | exact Int.mul_right_comm _ _ _ | (rw [Int.one_mul]; exact Int.mul_comm _ _))
              obtain ⟨FL, bnd⟩ := HQ.out e _ _ eA eB (by first | omega | exact Int.mul_pos (by omega) (Int.pow_pos (by omega)) | exact Int.mul_pos (Int.mul_pos (by omega) (Int.pow_pos (by omega))) (Int.pow_pos (by omega)))
              generalize hq : (m * 2 ^ x.toNat) / (1 * 10 ^ e.toNat) = q at *
              have lo := (bnd 10000000000000000).mp HL2.out
              have hi : q < 100000000000000000 := by
                rcases Int.lt_or_le q 100000000000000000 with z | z
                · exact z
                · have y1 := (bnd 100000000000000000).mpr z
                  have y2 := HL1.out
                  omega
              clear hq bnd eA eB
              go_wp2_with fail
              refine hD.mono ?_
              rintro r w6 ⟨a6, n6, c6, a7, n7, c7, rfl, rQ, bD⟩
              obtain ⟨g6, o6, rfl, rfl, hc⟩ := one_cell12 rQ (by omega) (by omega)
              have B6 := B5.trans (bD.mono B5.size)
              have B9 := KB.out.trans (B6.mono KB.out.size)
              clear hD hM
              go_wp2
              go_ret2
              exact ⟨q, e, rfl, FL, by omega, by omega, by omega, by omega, B9⟩
            · have g2 : decide (x > 0) = true := by simp; omega
              have g2' : decide (0 < x) = true := by simp; omega
              have g3 : decide (e > 0) = false := by simp; omega
              have g3' : decide (0 < e) = false := by simp; omega
              have r1 := rowC_one wa m 22
              have b1 := alloc_below (w := wa) (.cells #[.int .u64 m] 22)
              have es : (wa.alloc (.cells #[.int .u64 m] 22)).heap.size = wa.heap.size + 1 := by simp
              have r2 := rowC_one (wa.alloc (.cells #[.int .u64 m] 22)) 1 22
              have b2 := alloc_below (w := wa.alloc (.cells #[.int .u64 m] 22)) (.cells #[.int .u64 1] 22)
              rw [es] at r2
              have r1' := r1.later b2
              have B2 := b1.trans (b2.mono b1.size)
              obtain ⟨w0, hw0⟩ : ∃ z, z = (wa.alloc (.cells #[.int .u64 m] 22)).alloc (.cells #[.int .u64 1] 22) := ⟨_, rfl⟩
              obtain ⟨g, hg⟩ : ∃ z, z = wa.heap.size := ⟨_, rfl⟩
              rw [← hw0] at r2 r1' B2
              rw [← hg] at r2 r1'
              have md := nm_of um
              have mu := nm_of (show U 1 by unfold U; omega)
              have ld := Lt.word um
              have lu : Lt 1 1 := Lt.word (by omega)
              clear r1 b1 b2 es
              have lS : Lt (m * 2 ^ x.toNat) 40 := (ld.pow2).mono (by omega)
              have hS := shl12r (T := x) r1' md (by omega) (by omega) (by omega) lS (by omega)
              go_wp2_with fail
              rw [← hw0, ← hg]
              clear hw0 hg
              refine hS.mono ?_
              rintro r w3 ⟨a3, n3, c3, l3, rfl, rA, mA, qA, bS⟩
              have B3 := B2.trans (bS.mono B2.size)
              have rB := r2.later bS
              have mB := mu
              have qB : 1 ≤ 100 := by omega
              have lA := lS
              have lB : Lt 1 40 := lu.mono (by omega)
              clear hS r1' r2 B2 bS lS
              have hT := fun w => ten12r_any (k := (-e).toNat) (K := -e) (by omega) (by omega) w
              have lT := ten_lt8 (n := (-e).toNat) (by omega)
              go_wp2_with fail
              refine (hT _).mono ?_
              rintro r w4 ⟨aT, nT, cT, lTs, rfl, rT, mT, qT, bT⟩
              have B4 := B3.trans (bT.mono B3.size)
              have rA1 := rA.later bT
              have rB1 := rB.later bT
              clear hT rA rB B3 bT
              have lM : Lt (m * 2 ^ x.toNat * 10 ^ (-e).toNat) 100 := (lA.mul lT).mono (by omega)
              have hM := mul12r rA1 rT mA mT qA qT lM (by omega)
              go_wp2_with fail
              refine hM.mono ?_
              rintro r w5 ⟨a5, n5, c5, l5, rfl, rM, mM, qM, bM⟩
              have B5 := B4.trans (bM.mono B4.size)
              have rB2 := rB1.later bM
              have hD := div12r rM rB2 mM mB qM qB (by first | omega | exact Int.mul_pos (by omega) (Int.pow_pos (by omega)) | exact Int.mul_pos (Int.mul_pos (by omega) (Int.pow_pos (by omega))) (Int.pow_pos (by omega)))
              have eA : m * 2 ^ x.toNat * 10 ^ (-e).toNat = m * exD e * e2 x := by
                have z1 : e2 x = 2 ^ x.toNat := rfl
                have z2 : exD e = 10 ^ (-e).toNat := by
                  unfold exD; split
                  · rw [show (-e).toNat = 0 by omega, Int.pow_zero]
                  · rfl
                rw [z1, z2]
                try (first | rfl | (rw [Int.mul_one]; done) | (rw [Int.mul_one, Int.mul_one]; done) | (rw [Int.one_mul, Int.mul_one]; done) | exact Int.mul_right_comm _ _ _ | (rw [Int.one_mul]; exact Int.mul_comm _ _))
              have eB : 1 = exN 1 e * e2 (-x) := by
                have z1 : e2 (-x) = 1 := e2_zero (by omega)
                have z2 : exN 1 e = 1 := by
                  unfold exN; split
                  · rw [show e.toNat = 0 by omega, Int.pow_zero, Int.one_mul]
                  · rfl
                rw [z1, z2]
                try (first | rfl | (rw [Int.mul_one]; done) | (rw [Int.mul_one, Int.mul_one]; done) | (rw [Int.one_mul, Int.mul_one]; done) | exact Int.mul_right_comm _ _ _ | (rw [Int.one_mul]; exact Int.mul_comm _ _))
              obtain ⟨FL, bnd⟩ := HQ.out e _ _ eA eB (by first | omega | exact Int.mul_pos (by omega) (Int.pow_pos (by omega)) | exact Int.mul_pos (Int.mul_pos (by omega) (Int.pow_pos (by omega))) (Int.pow_pos (by omega)))
              generalize hq : (m * 2 ^ x.toNat * 10 ^ (-e).toNat) / (1) = q at *
              have lo := (bnd 10000000000000000).mp HL2.out
              have hi : q < 100000000000000000 := by
                rcases Int.lt_or_le q 100000000000000000 with z | z
                · exact z
                · have y1 := (bnd 100000000000000000).mpr z
                  have y2 := HL1.out
                  omega
              clear hq bnd eA eB
              go_wp2_with fail
              refine hD.mono ?_
              rintro r w6 ⟨a6, n6, c6, a7, n7, c7, rfl, rQ, bD⟩
              obtain ⟨g6, o6, rfl, rfl, hc⟩ := one_cell12 rQ (by omega) (by omega)
              have B6 := B5.trans (bD.mono B5.size)
              have B9 := KB.out.trans (B6.mono KB.out.size)
              clear hD hM
              go_wp2
              go_ret2
              exact ⟨q, e, rfl, FL, by omega, by omega, by omega, by omega, B9⟩
          · by_cases ep : 0 < e
            · have g2 : decide (x > 0) = false := by simp; omega
              have g2' : decide (0 < x) = false := by simp; omega
              have g3 : decide (e > 0) = true := by simp; omega
              have g3' : decide (0 < e) = true := by simp; omega
              have r1 := rowC_one wa m 22
              have b1 := alloc_below (w := wa) (.cells #[.int .u64 m] 22)
              have es : (wa.alloc (.cells #[.int .u64 m] 22)).heap.size = wa.heap.size + 1 := by simp
              have r2 := rowC_one (wa.alloc (.cells #[.int .u64 m] 22)) 1 22
              have b2 := alloc_below (w := wa.alloc (.cells #[.int .u64 m] 22)) (.cells #[.int .u64 1] 22)
              rw [es] at r2
              have r1' := r1.later b2
              have B2 := b1.trans (b2.mono b1.size)
              obtain ⟨w0, hw0⟩ : ∃ z, z = (wa.alloc (.cells #[.int .u64 m] 22)).alloc (.cells #[.int .u64 1] 22) := ⟨_, rfl⟩
              obtain ⟨g, hg⟩ : ∃ z, z = wa.heap.size := ⟨_, rfl⟩
              rw [← hw0] at r2 r1' B2
              rw [← hg] at r2 r1'
              have md := nm_of um
              have mu := nm_of (show U 1 by unfold U; omega)
              have ld := Lt.word um
              have lu : Lt 1 1 := Lt.word (by omega)
              clear r1 b1 b2 es
              have lS : Lt (1 * 2 ^ (-x).toNat) 40 := (lu.pow2).mono (by omega)
              have hS := shl12r (T := -x) r2 mu (by omega) (by omega) (by omega) lS (by omega)
              go_wp2_with fail
              rw [← hw0, ← hg]
              clear hw0 hg
              refine hS.mono ?_
              rintro r w3 ⟨a3, n3, c3, l3, rfl, rB, mB, qB, bS⟩
              have B3 := B2.trans (bS.mono B2.size)
              have rA := r1'.later bS
              have mA := md
              have qA : 1 ≤ 100 := by omega
              have lB := lS
              have lA : Lt m 40 := ld.mono (by omega)
              clear hS r1' r2 B2 bS lS
              have hT := fun w => ten12r_any (k := e.toNat) (K := e) (by omega) (by omega) w
              have lT := ten_lt8 (n := e.toNat) (by omega)
              go_wp2_with fail
              refine (hT _).mono ?_
              rintro r w4 ⟨aT, nT, cT, lTs, rfl, rT, mT, qT, bT⟩
              have B4 := B3.trans (bT.mono B3.size)
              have rA1 := rA.later bT
              have rB1 := rB.later bT
              clear hT rA rB B3 bT
              have lM : Lt (1 * 2 ^ (-x).toNat * 10 ^ e.toNat) 100 := (lB.mul lT).mono (by omega)
              have hM := mul12r rB1 rT mB mT qB qT lM (by omega)
              go_wp2_with fail
              refine hM.mono ?_
              rintro r w5 ⟨a5, n5, c5, l5, rfl, rM, mM, qM, bM⟩
              have B5 := B4.trans (bM.mono B4.size)
              have rA2 := rA1.later bM
              have hD := div12r rA2 rM mA mM qA qM (by first | omega | exact Int.mul_pos (by omega) (Int.pow_pos (by omega)) | exact Int.mul_pos (Int.mul_pos (by omega) (Int.pow_pos (by omega))) (Int.pow_pos (by omega)))
              have eA : m = m * exD e * e2 x := by
                have z1 : e2 x = 1 := e2_zero (by omega)
                have z2 : exD e = 1 := by
                  unfold exD; split
                  · rfl
                  · omega
                rw [z1, z2]
                try (first | rfl | (rw [Int.mul_one]; done) | (rw [Int.mul_one, Int.mul_one]; done) | (rw [Int.one_mul, Int.mul_one]; done) | exact Int.mul_right_comm _ _ _ | (rw [Int.one_mul]; exact Int.mul_comm _ _))
              have eB : 1 * 2 ^ (-x).toNat * 10 ^ e.toNat = exN 1 e * e2 (-x) := by
                have z1 : e2 (-x) = 2 ^ (-x).toNat := rfl
                have z2 : exN 1 e = 10 ^ e.toNat := by
                  unfold exN; split
                  · rw [Int.one_mul]
                  · omega
                rw [z1, z2]
                try (first | rfl | (rw [Int.mul_one]; done) | (rw [Int.mul_one, Int.mul_one]; done) | (rw [Int.one_mul, Int.mul_one]; done) | exact Int.mul_right_comm _ _ _ | (rw [Int.one_mul]; exact Int.mul_comm _ _))
              obtain ⟨FL, bnd⟩ := HQ.out e _ _ eA eB (by first | omega | exact Int.mul_pos (by omega) (Int.pow_pos (by omega)) | exact Int.mul_pos (Int.mul_pos (by omega) (Int.pow_pos (by omega))) (Int.pow_pos (by omega)))
              generalize hq : (m) / (1 * 2 ^ (-x).toNat * 10 ^ e.toNat) = q at *
              have lo := (bnd 10000000000000000).mp HL2.out
              have hi : q < 100000000000000000 := by
                rcases Int.lt_or_le q 100000000000000000 with z | z
                · exact z
                · have y1 := (bnd 100000000000000000).mpr z
                  have y2 := HL1.out
                  omega
              clear hq bnd eA eB
              go_wp2_with fail
              refine hD.mono ?_
              rintro r w6 ⟨a6, n6, c6, a7, n7, c7, rfl, rQ, bD⟩
              obtain ⟨g6, o6, rfl, rfl, hc⟩ := one_cell12 rQ (by omega) (by omega)
              have B6 := B5.trans (bD.mono B5.size)
              have B9 := KB.out.trans (B6.mono KB.out.size)
              clear hD hM
              go_wp2
              go_ret2
              exact ⟨q, e, rfl, FL, by omega, by omega, by omega, by omega, B9⟩
            · have g2 : decide (x > 0) = false := by simp; omega
              have g2' : decide (0 < x) = false := by simp; omega
              have g3 : decide (e > 0) = false := by simp; omega
              have g3' : decide (0 < e) = false := by simp; omega
              have r1 := rowC_one wa m 22
              have b1 := alloc_below (w := wa) (.cells #[.int .u64 m] 22)
              have es : (wa.alloc (.cells #[.int .u64 m] 22)).heap.size = wa.heap.size + 1 := by simp
              have r2 := rowC_one (wa.alloc (.cells #[.int .u64 m] 22)) 1 22
              have b2 := alloc_below (w := wa.alloc (.cells #[.int .u64 m] 22)) (.cells #[.int .u64 1] 22)
              rw [es] at r2
              have r1' := r1.later b2
              have B2 := b1.trans (b2.mono b1.size)
              obtain ⟨w0, hw0⟩ : ∃ z, z = (wa.alloc (.cells #[.int .u64 m] 22)).alloc (.cells #[.int .u64 1] 22) := ⟨_, rfl⟩
              obtain ⟨g, hg⟩ : ∃ z, z = wa.heap.size := ⟨_, rfl⟩
              rw [← hw0] at r2 r1' B2
              rw [← hg] at r2 r1'
              have md := nm_of um
              have mu := nm_of (show U 1 by unfold U; omega)
              have ld := Lt.word um
              have lu : Lt 1 1 := Lt.word (by omega)
              clear r1 b1 b2 es
              have lS : Lt (1 * 2 ^ (-x).toNat) 40 := (lu.pow2).mono (by omega)
              have hS := shl12r (T := -x) r2 mu (by omega) (by omega) (by omega) lS (by omega)
              go_wp2_with fail
              rw [← hw0, ← hg]
              clear hw0 hg
              refine hS.mono ?_
              rintro r w3 ⟨a3, n3, c3, l3, rfl, rB, mB, qB, bS⟩
              have B3 := B2.trans (bS.mono B2.size)
              have rA := r1'.later bS
              have mA := md
              have qA : 1 ≤ 100 := by omega
              have lB := lS
              have lA : Lt m 40 := ld.mono (by omega)
              clear hS r1' r2 B2 bS lS
              have hT := fun w => ten12r_any (k := (-e).toNat) (K := -e) (by omega) (by omega) w
              have lT := ten_lt8 (n := (-e).toNat) (by omega)
              go_wp2_with fail
              refine (hT _).mono ?_
              rintro r w4 ⟨aT, nT, cT, lTs, rfl, rT, mT, qT, bT⟩
              have B4 := B3.trans (bT.mono B3.size)
              have rA1 := rA.later bT
              have rB1 := rB.later bT
              clear hT rA rB B3 bT
              have lM : Lt (m * 10 ^ (-e).toNat) 100 := (lA.mul lT).mono (by omega)
              have hM := mul12r rA1 rT mA mT qA qT lM (by omega)
              go_wp2_with fail
              refine hM.mono ?_
              rintro r w5 ⟨a5, n5, c5, l5, rfl, rM, mM, qM, bM⟩
              have B5 := B4.trans (bM.mono B4.size)
              have rB2 := rB1.later bM
              have hD := div12r rM rB2 mM mB qM qB (by first | omega | exact Int.mul_pos (by omega) (Int.pow_pos (by omega)) | exact Int.mul_pos (Int.mul_pos (by omega) (Int.pow_pos (by omega))) (Int.pow_pos (by omega)))
              have eA : m * 10 ^ (-e).toNat = m * exD e * e2 x := by
                have z1 : e2 x = 1 := e2_zero (by omega)
                have z2 : exD e = 10 ^ (-e).toNat := by
                  unfold exD; split
                  · rw [show (-e).toNat = 0 by omega, Int.pow_zero]
                  · rfl
                rw [z1, z2]
                try (first | rfl | (rw [Int.mul_one]; done) | (rw [Int.mul_one, Int.mul_one]; done) | (rw [Int.one_mul, Int.mul_one]; done) | exact Int.mul_right_comm _ _ _ | (rw [Int.one_mul]; exact Int.mul_comm _ _))
              have eB : 1 * 2 ^ (-x).toNat = exN 1 e * e2 (-x) := by
                have z1 : e2 (-x) = 2 ^ (-x).toNat := rfl
                have z2 : exN 1 e = 1 := by
                  unfold exN; split
                  · rw [show e.toNat = 0 by omega, Int.pow_zero, Int.one_mul]
                  · rfl
                rw [z1, z2]
                try (first | rfl | (rw [Int.mul_one]; done) | (rw [Int.mul_one, Int.mul_one]; done) | (rw [Int.one_mul, Int.mul_one]; done) | exact Int.mul_right_comm _ _ _ | (rw [Int.one_mul]; exact Int.mul_comm _ _))
              obtain ⟨FL, bnd⟩ := HQ.out e _ _ eA eB (by first | omega | exact Int.mul_pos (by omega) (Int.pow_pos (by omega)) | exact Int.mul_pos (Int.mul_pos (by omega) (Int.pow_pos (by omega))) (Int.pow_pos (by omega)))
              generalize hq : (m * 10 ^ (-e).toNat) / (1 * 2 ^ (-x).toNat) = q at *
              have lo := (bnd 10000000000000000).mp HL2.out
              have hi : q < 100000000000000000 := by
                rcases Int.lt_or_le q 100000000000000000 with z | z
                · exact z
                · have y1 := (bnd 100000000000000000).mpr z
                  have y2 := HL1.out
                  omega
              clear hq bnd eA eB
              go_wp2_with fail
              refine hD.mono ?_
              rintro r w6 ⟨a6, n6, c6, a7, n7, c7, rfl, rQ, bD⟩
              obtain ⟨g6, o6, rfl, rfl, hc⟩ := one_cell12 rQ (by omega) (by omega)
              have B6 := B5.trans (bD.mono B5.size)
              have B9 := KB.out.trans (B6.mono KB.out.size)
              clear hD hM
              go_wp2
              go_ret2
              exact ⟨q, e, rfl, FL, by omega, by omega, by omega, by omega, B9⟩
end Go.Proofs.YtalglldkjbinbaaGreat

/- plumbref12: Shortest. -/
namespace Go.Proofs.YtalglldkjbinbaaGreat
open Go.ChangeShapes Go.WideShapes Go.ChangeAt Go.RowKit
open Na Ar Ry
set_option linter.unusedVariables false
theorem fin7_any {b : Int} (hu : U b) (w : World) : Calls Tryz.prog 14 #[.int .u64 b] w fun r w' => r = .returned (.bool (ef b != 2047)) ∧ w' = w := by
  have h := field_and hu
  go_enter Tryz.func14, Tryz.ntmps14
  go_wp2
  go_ret
  exact ⟨rfl, rfl⟩
namespace Ry
theorem nr_is {p d e : Int} (h0 : 0 < p) (h1 : p ≤ mostP) : ordN (exN (2 * d + 1) e * e2 (-(spX p))) (2 * spM p * exD e * e2 (spX p)) = nrO p d e := by
  obtain ⟨q1, q2, q3, q4, q5, -⟩ := parts_of h0 h1
  have no := (num_own h0 h1).1
  rw [ag_same (i := (iP p : Int)) 1074 (by omega) (by omega) (by omega)]
  unfold nrO
  rw [no, Int.mul_assoc 2, Int.mul_assoc 2]
end Ry
set_option maxHeartbeats 12800000 in
set_option maxRecDepth 100000 in
theorem rshort12_fin {b : Int} (hu : U b) (hf : ef b ≠ 2047) (hz : mg b ≠ 0) (w : World) :
    Calls Tryz.prog 5 #[.int .u64 b] w fun r w' => r = .returned (.tuple #[.int .u64 (shD (mg b)), .int .i64 (shE (mg b)), .int .i64 0]) ∧ Below w.heap.size w w' := by
  have hs := size_bits hu
  have hF := fun w => fin7_any hu w
  rw [bne_yes hf] at hF
  have h0 : 0 < mg b := by have := (mg_bd b).1; omega
  have h1 : mg b ≤ mostP := by
    have := mg_bd b
    have := ef_bd b
    have := fr_bd b
    have := mg_parts b
    unfold mostP
    omega
  have S := sh_is h0 h1
  generalize mg b = p at *
  have pz : (p == 0) = false := beq_no (by omega)
  have h17 := fun w => seventeen12r_any h0 h1 w
  have hW := fun (d e : Int) (ud : U d) (e0 : -370 ≤ e) (e1 : e ≤ 370) (w : World) => within12r_any h0 h1 ud e0 e1 w
  have hN : ∀ (d e : Int), 0 ≤ d → d < 1000000000000000000 → -370 ≤ e → e ≤ 370 → ∀ w, Calls Tryz.prog 17 #[.int .u64 d, .int .i64 e, .int .u64 p] w fun r w' => r = .returned (.int .i64 (-(nrO p d e))) ∧ Below w.heap.size w w' := fun d e d0 d1 e0 e1 w => by
    have := nearer12r_any h0 h1 d0 d1 e0 e1 w
    rw [nr_is h0 h1] at this
    exact this
  have rgN := fun d e => ordN_rng (exN (2 * d + 1) e * e2 1074) (2 * (numW p * exD e))
  have sE := S.e0
  have sE1 := S.e1
  have sR := S.r0
  have sR1 := S.r1
  have sM := S.ne
  have HS : Hid (ShP p (shD p) (shE p)) := S
  have H01 : Hid (0 < p ∧ p ≤ mostP) := ⟨h0, h1⟩
  generalize shD p = R at *
  generalize shE p = T at *
  clear S hf hz
  go_enter Tryz.func5, Tryz.ntmps5
  go_wp2_with fail
  refine (hF _).mono ?_
  rintro r wz ⟨rfl, hz⟩
  rw [hz]
  clear hz hF
  go_wp2_with fail
  refine (h17 _).mono ?_
  rintro r w1 ⟨q, e, rfl, FL, q0, q1, e0, e1, b1⟩
  have HF : Hid (Fl p q e) := FL
  have lowT := told_low h0 h1 HS.out FL q0
  have HT : Hid (e + 16 < T → T = e + 17 ∧ R = 1 ∧ q / 10000000000000000 = 9 ∧ ExIs 10 (e + 16) p 0 ∧ nrO p 9 (e + 16) < 0) := fun h => by
    have f := fl_pow FL 16
    have e16 : (10 : Int) ^ 16 = 10000000000000000 := rfl
    rw [e16] at f
    have t := Ry.top_is h0 h1 HS.out f (by omega) (by omega) (by omega)
    refine ⟨by omega, t.2.1, t.2.2.1, t.2.2.2.1, t.2.2.2.2⟩
  clear h17 FL
  go_wp2
  go_loopw [8, 9] (fun c v wr => ∃ (n : Nat), c = .int .u64 (10 ^ n) ∧ v = .int .i64 (n : Int) ∧ n ≤ 16 ∧ Hid (e + 16 < T → n = 16) ∧ Hid (T ≤ e + 16 → T - e ≤ n) ∧ Hid (Below w.heap.size w wr)) (fun _ v _ => (intOf v).toNat)
  case atStart => exact ⟨16, rfl, rfl, by omega, fun _ => rfl, fun h => by omega, b1⟩
  case round =>
    obtain ⟨n, rfl, rfl, hn, HA, HB, KB⟩ := hrel
    clear b1
    have tp : (0 : Int) < 10 ^ n := Int.pow_pos (by omega)
    have tq : (10 : Int) ^ n ≤ 10000000000000000 := t10_mono hn
    have f := fl_pow HF.out n
    have HFn : Hid (Fl p (q / 10 ^ n) (e + n)) := f
    have d0 : 0 ≤ q / 10 ^ n := Int.ediv_nonneg (by omega) (Int.le_of_lt tp)
    have d1 : q / 10 ^ n ≤ q := Int.ediv_le_self _ (by omega)
    have d2 : 1 ≤ q / 10 ^ n := (Int.le_ediv_iff_mul_le tp).mpr (by omega)
    have cut : n ≠ 0 → (10 : Int) ^ n / 10 = 10 ^ (n - 1) := fun h => by
      obtain ⟨k, rfl⟩ : ∃ k, n = k + 1 := ⟨n - 1, by omega⟩
      rw [Int.pow_succ, Int.mul_ediv_cancel _ (by omega)]
      rfl
    have HC : Hid (n ≠ 0 → (10 : Int) ^ n / 10 = 10 ^ (n - 1)) := cut
    have g0 : decide ((n : Int) ≥ 0) = true := by simp
    have g0' : decide (0 ≤ (n : Int)) = true := by simp
    have hWb := hW (q / 10 ^ n) (e + n) (by unfold U; omega) (by omega) (by omega)
    have hWa := hW (q / 10 ^ n + 1) (e + n) (by unfold U; omega) (by omega) (by omega)
    have hNr := hN (q / 10 ^ n) (e + n) (by omega) (by omega) (by omega) (by omega)
    have rN := rgN (q / 10 ^ n) (e + n)
    change -1 ≤ nrO p (q / 10 ^ n) (e + n) ∧ nrO p (q / 10 ^ n) (e + n) ≤ 1 at rN
    have HQ9 : Hid (e + 16 < T → T = e + n + 1 ∧ R = 1 ∧ q / 10 ^ n = 9 ∧ ExIs 10 (e + n) p 0 ∧ nrO p (q / 10 ^ n) (e + n) < 0) := fun h => by
      have a := HA.out h
      subst a
      have t := HT.out h
      have e16 : (10 : Int) ^ 16 = 10000000000000000 := rfl
      rw [e16]
      refine ⟨by omega, t.2.1, t.2.2.1, by simpa using t.2.2.2.1, ?_⟩
      rw [t.2.2.1]
      simpa using t.2.2.2.2
    have HQ1 : Hid (T < e + n → ¬ ExIs (q / 10 ^ n) (e + n) p 0 ∧ ¬ ExIs (q / 10 ^ n + 1) (e + n) p 0) := fun h => ⟨told_none HS.out h (by omega), told_none HS.out h (by omega)⟩
    have HQ2 : Hid (T = e + n → ((0 < q / 10 ^ n ∧ ExIs (q / 10 ^ n) (e + n) p 0) ∨ ExIs (q / 10 ^ n + 1) (e + n) p 0) ∧ ((ExIs (q / 10 ^ n + 1) (e + n) p 0 ∧ (¬ (0 < q / 10 ^ n ∧ ExIs (q / 10 ^ n) (e + n) p 0) ∨ nrO p (q / 10 ^ n) (e + n) < 0 ∨ (nrO p (q / 10 ^ n) (e + n) = 0 ∧ q / 10 ^ n % 2 = 1))) → R = q / 10 ^ n + 1) ∧ (¬ (ExIs (q / 10 ^ n + 1) (e + n) p 0 ∧ (¬ (0 < q / 10 ^ n ∧ ExIs (q / 10 ^ n) (e + n) p 0) ∨ nrO p (q / 10 ^ n) (e + n) < 0 ∨ (nrO p (q / 10 ^ n) (e + n) = 0 ∧ q / 10 ^ n % 2 = 1))) → R = q / 10 ^ n)) := fun h => by
      have S := HS.out
      rw [h] at S
      exact pick_is H01.out.1 H01.out.2 S HFn.out d0
    clear hW hN rgN HT HF HFn cut h0 h1
    generalize nrO p (q / 10 ^ n) (e + n) = NR at *
    generalize hcn : (10 : Int) ^ n = cn at *
    generalize hdn : q / cn = d at *
    have HCN : Hid (10 ^ n = cn) := hcn
    clear hcn
    have ie0 : -370 ≤ e + n := by omega
    have ie1 : e + n ≤ 370 := by omega
    have cz : ¬ cn = 0 := by omega
    go_wp2_with fail
    refine (hWb _).mono ?_
    rintro r w2 ⟨tb, rfl, hIb, b2⟩
    have C2 := KB.out.trans (b2.mono KB.out.size)
    have HIb : Hid (tb = true ↔ ExIs d (e + n) p 0) := hIb
    clear hWb b2 hIb KB
    go_wp2_with fail
    refine (hWa _).mono ?_
    rintro r w3 ⟨ta, rfl, hIa, b3⟩
    have C3 := C2.trans (b3.mono C2.size)
    have HIa : Hid (ta = true ↔ ExIs (d + 1) (e + n) p 0) := hIa
    clear hWa b3 hIa C2
    rcases Int.lt_trichotomy T (e + n) with cT | cT | cT
    · -- none here
      have a1 := HQ1.out cT
      have tb0 : tb = false := by cases tb; rfl; exact absurd (HIb.out.mp rfl) a1.1
      have ta0 : ta = false := by cases ta; rfl; exact absurd (HIa.out.mp rfl) a1.2
      subst tb0 ta0
      have n0 : n ≠ 0 := by omega
      have cc := HC.out n0
      have HB' : Hid (T ≤ e + 16 → T - e ≤ (n - 1 : Nat)) := fun h => by omega
      have HA' : Hid (e + 16 < T → n - 1 = 16) := fun h => by omega
      have HC3 : Hid (Below w.heap.size w w3) := C3
      clear HA HB HC HCN HQ9 HQ1 HQ2 HIa HIb C3 hNr
      go_wp2
      go_roundw
      case rel => exact ⟨n - 1, by rw [cc], by congr 1; omega, by omega, HA', HB', HC3⟩
      case measure => simp [intOf]; omega
    · -- here
      obtain ⟨p0, p1, p2⟩ := HQ2.out cT
      have e16 : ¬ e + 16 < T := by omega
      have sm : (R % 10 == 0) = false := beq_no sM
      cases ta
      · have a0 : ¬ ExIs (d + 1) (e + n) p 0 := fun h => by have := HIa.out.mpr h; cases this
        have tb1 : tb = true := HIb.out.mpr (by rcases p0 with h | h; exact h.2; exact absurd h a0)
        have rd := p2 (fun h => a0 h.1)
        subst tb1
        have sm' : (d % 10 == 0) = false := by rw [← rd]; exact sm
        have HR : Hid (R = d ∧ T = e + n) := ⟨rd, cT⟩
        have CC := C3
        clear HA HB HC HCN HQ9 HQ1 HQ2 HIa HIb p0 p1 p2 hNr cT sm rd
        go_wp2
        refine wp_loop_rounds 1 ?_
        rw [rounds_succ]
        go_wp2
        refine bodyPost_ret (v := .tuple #[.int .u64 d, .int .i64 (e + n), .int .i64 0]) (by simp [results, Tryz.results5, go_sem]) rfl ?_
        exact ⟨by rw [HR.out.1, HR.out.2], CC⟩
      · have a0 : ExIs (d + 1) (e + n) p 0 := HIa.out.mp rfl
        cases tb
        · have b0 : ¬ ExIs d (e + n) p 0 := fun h => by have := HIb.out.mpr h; cases this
          have rd := p1 ⟨a0, Or.inl (fun h => b0 h.2)⟩
          have sm' : ((d + 1) % 10 == 0) = false := by rw [← rd]; exact sm
          have HR : Hid (R = (d + 1) ∧ T = e + n) := ⟨rd, cT⟩
          have CC := C3
          clear HA HB HC HCN HQ9 HQ1 HQ2 HIa HIb p0 p1 p2 hNr cT sm rd
          go_wp2
          refine wp_loop_rounds 1 ?_
          rw [rounds_succ]
          go_wp2
          refine bodyPost_ret (v := .tuple #[.int .u64 (d + 1), .int .i64 (e + n), .int .i64 0]) (by simp [results, Tryz.results5, go_sem]) rfl ?_
          exact ⟨by rw [HR.out.1, HR.out.2], CC⟩
        · have b0 : ExIs d (e + n) p 0 := HIb.out.mp rfl
          by_cases nr1 : NR < 0
          · have rd := p1 ⟨a0, Or.inr (Or.inl nr1)⟩
            have g4 : decide (-NR > 0) = true := by simp; omega
            have g4' : decide (0 < -NR) = true := by simp; omega
            go_wp2_with fail
            refine (hNr _).mono ?_
            rintro r w4 ⟨rfl, b4⟩
            have C4 := C3.trans (b4.mono C3.size)
            have sm' : ((d + 1) % 10 == 0) = false := by rw [← rd]; exact sm
            have HR : Hid (R = (d + 1) ∧ T = e + n) := ⟨rd, cT⟩
            have CC := C4
            clear HA HB HC HCN HQ9 HQ1 HQ2 HIa HIb p0 p1 p2 hNr cT sm rd
            go_wp2
            refine wp_loop_rounds 1 ?_
            rw [rounds_succ]
            go_wp2
            refine bodyPost_ret (v := .tuple #[.int .u64 (d + 1), .int .i64 (e + n), .int .i64 0]) (by simp [results, Tryz.results5, go_sem]) rfl ?_
            exact ⟨by rw [HR.out.1, HR.out.2], CC⟩
          · have g4 : decide (-NR > 0) = false := by simp; omega
            have g4' : decide (0 < -NR) = false := by simp; omega
            go_wp2_with fail
            refine (hNr _).mono ?_
            rintro r w4 ⟨rfl, b4⟩
            have C4 := C3.trans (b4.mono C3.size)
            go_wp2_with fail
            refine (hNr _).mono ?_
            rintro r w5 ⟨rfl, b5⟩
            have C5 := C4.trans (b5.mono C4.size)
            by_cases nr2 : NR = 0
            · have g5 : (-NR == 0) = true := beq_of (by omega)
              by_cases od : d % 2 = 1
              · have rd := p1 ⟨a0, Or.inr (Or.inr ⟨nr2, od⟩)⟩
                have g6 : (d % 2 == 1) = true := beq_of od
                have sm' : ((d + 1) % 10 == 0) = false := by rw [← rd]; exact sm
                have HR : Hid (R = (d + 1) ∧ T = e + n) := ⟨rd, cT⟩
                have CC := C5
                clear HA HB HC HCN HQ9 HQ1 HQ2 HIa HIb p0 p1 p2 hNr cT sm rd
                go_wp2
                refine wp_loop_rounds 1 ?_
                rw [rounds_succ]
                go_wp2
                refine bodyPost_ret (v := .tuple #[.int .u64 (d + 1), .int .i64 (e + n), .int .i64 0]) (by simp [results, Tryz.results5, go_sem]) rfl ?_
                exact ⟨by rw [HR.out.1, HR.out.2], CC⟩
              · have rd := p2 (fun h => by rcases h.2 with h | h | h; exact h ⟨by omega, b0⟩; omega; omega)
                have g6 : (d % 2 == 1) = false := beq_no od
                have sm' : (d % 10 == 0) = false := by rw [← rd]; exact sm
                have HR : Hid (R = d ∧ T = e + n) := ⟨rd, cT⟩
                have CC := C5
                clear HA HB HC HCN HQ9 HQ1 HQ2 HIa HIb p0 p1 p2 hNr cT sm rd
                go_wp2
                refine wp_loop_rounds 1 ?_
                rw [rounds_succ]
                go_wp2
                refine bodyPost_ret (v := .tuple #[.int .u64 d, .int .i64 (e + n), .int .i64 0]) (by simp [results, Tryz.results5, go_sem]) rfl ?_
                exact ⟨by rw [HR.out.1, HR.out.2], CC⟩
            · have rd := p2 (fun h => by rcases h.2 with h | h | h; exact h ⟨by omega, b0⟩; omega; omega)
              have g5 : (-NR == 0) = false := beq_no (by omega)
              have sm' : (d % 10 == 0) = false := by rw [← rd]; exact sm
              have HR : Hid (R = d ∧ T = e + n) := ⟨rd, cT⟩
              have CC := C5
              clear HA HB HC HCN HQ9 HQ1 HQ2 HIa HIb p0 p1 p2 hNr cT sm rd
              go_wp2
              refine wp_loop_rounds 1 ?_
              rw [rounds_succ]
              go_wp2
              refine bodyPost_ret (v := .tuple #[.int .u64 d, .int .i64 (e + n), .int .i64 0]) (by simp [results, Tryz.results5, go_sem]) rfl ?_
              exact ⟨by rw [HR.out.1, HR.out.2], CC⟩
    · -- above the first digit
      have e16 : e + 16 < T := by
        rcases Int.lt_or_le (e + 16) T with z | z
        · exact z
        · have := HB.out z; omega
      obtain ⟨t1, t2, t3, t4, t5⟩ := HQ9.out e16
      have ta1 : ta = true := HIa.out.mpr (by rw [t3]; exact t4)
      subst ta1
      have HR : Hid (R = 1 ∧ T = e + n + 1) := ⟨t2, t1⟩
      have g4 : decide (-NR > 0) = true := by simp; omega
      have g4' : decide (0 < -NR) = true := by simp; omega
      clear HA HB HC HCN HQ9 HQ1 HQ2 HIa HIb cT t1 t2 t4
      subst t3
      clear d0 d1 d2 hdn tq cz
      cases tb
      · have CC := C3
        go_wp2
        refine wp_loop_rounds 2 ?_
        rw [rounds_succ]
        go_wp2
        rw [rounds_succ]
        go_wp2
        refine bodyPost_ret (v := .tuple #[.int .u64 1, .int .i64 (e + n + 1), .int .i64 0]) (by simp [results, Tryz.results5, go_sem]) rfl ?_
        exact ⟨by rw [HR.out.1, HR.out.2], CC⟩
      · go_wp2_with fail
        refine (hNr _).mono ?_
        rintro r w4 ⟨rfl, b4⟩
        have CC := C3.trans (b4.mono C3.size)
        go_wp2
        refine wp_loop_rounds 2 ?_
        rw [rounds_succ]
        go_wp2
        rw [rounds_succ]
        go_wp2
        refine bodyPost_ret (v := .tuple #[.int .u64 1, .int .i64 (e + n + 1), .int .i64 0]) (by simp [results, Tryz.results5, go_sem]) rfl ?_
        exact ⟨by rw [HR.out.1, HR.out.2], CC⟩
end Go.Proofs.YtalglldkjbinbaaGreat


import Derived.Deep.DeepCutAuto
import Derived.Below
import Derived.BigQuiet
import Derived.ChangeOld
import Derived.Deep.CutRange
import Derived.Deep.DeepFit
import Derived.Deep.LoopGhost
import Derived.Deep.QuietTactic
import Derived.Deep.RegionHeld3
import Derived.Deep.RegionWith
import Derived.Deep.WholeRow
import Derived.Defers
import Derived.KernelRfl
import Derived.Laws.BitsAllLaws
import Derived.Laws.CopyRow
import Derived.Laws.EntriesVeiled
import Derived.Laws.Externs
import Derived.Laws.IdiomCopy
import Derived.Laws.IdiomRangeMap
import Derived.Laws.IdiomStrings
import Derived.Laws.RangeAny
import Derived.Laws.RangeString
import Derived.Laws.ResultCell
import Derived.Laws.Runes
import Derived.Laws.Strings3
import Derived.Lib.AsciiSet
import Derived.Lib.AtoiErrMem
import Derived.Lib.Bytealg
import Derived.Lib.ConvBytes
import Derived.Lib.IndexBytes
import Derived.Lib.OthersKept
import Derived.Lib.Strings
import Derived.Lib.TrimByte
import Derived.Lib.Walk
import Derived.OpenShut
import Derived.Orders
import Derived.OwnWalk
import Derived.ProofKit
import Derived.Recover
import Derived.Scope
import Derived.Shelf.Strconv.Clone
import Derived.Shelf.Strings.OnBuilder
import Derived.ShutString
import Derived.WalkKit
import Derived.WalkLawsBesides
import Derived.WalkMore
import Derived.WalkSpells
import Derived.Test.YtlaendbngekghaaGreatDoorPr16
import Derived.Test.YtlaendbngekghaaGreatDoorPr23
/- plumbtop: counts: a tenth is read, a half and a third are added. -/
namespace Go.Proofs.YtlaendbngekghaaGreatDoor
open Go.ChangeShapes Go.WideShapes Go.ChangeAt Go.RowKit
open Na Ar Lx
set_option linter.unusedVariables false
namespace Na
theorem lt_w1 {x : Int} (h0 : 0 ≤ x) (h1 : x < 18446744073709551616) : Lt x 1 := ⟨h0, by simpa using h1⟩
theorem nm_one14 {x : Int} (h0 : 0 < x) (h1 : x < 18446744073709551616) : Nm [x] x := Nm.one ⟨by omega, h1⟩
end Na
theorem digit_text {w : World} {a : Option Addr} {n c : Nat} {X : Int} (hr : RowC w a n c (words X)) (h0 : 0 < X) (h1 : X < 10) :
    Calls Tryz.prog 5 #[.slice a n c, .int .i64 10] w fun e w' => e = .returned (.tuple #[.string ⟨(bytesOf (laidD 10 1 X)).toArray⟩, .int .i64 0]) ∧ Below w.heap.size w w' := by
  have hN : Nm (words X) X := nm_words (by omega) (by have := (lt_w1 (x := X) (by omega) (by omega)).len; omega)
  have hl := (lt_w1 (x := X) (by omega) (by omega)).len
  have hn : n = (words X).length := hr.1.1.symm
  refine (text_any hr hN.ws (by omega) (by omega) (by omega) (by rw [hN.num]; omega) (by rw [hN.num]; omega)).mono ?_
  rintro e w' ⟨t, rfl, ht, hb⟩
  rw [hN.num] at ht
  have e := text_bytes (d := 0) ht (by omega) (by omega) (by simp; omega) (by simpa using h1)
  refine ⟨?_, hb⟩
  have : t = ⟨(bytesOf (laidD 10 1 X)).toArray⟩ := by
    apply ByteArray.ext
    rw [← e]
  rw [this]
set_option maxHeartbeats 3200000 in
set_option maxRecDepth 100000 in
theorem sixth_text {w : World} {s : Bool} {a b : Option Addr} {n c m d : Nat} (h : Rt w s a n c b m d (mkRat 1 6)) :
    Calls Tryz.prog 14 #[.agg #[.bool s, .slice a n c, .slice b m d]] w fun e w' => e = .returned (.tuple #[.string ⟨#[49, 47, 54]⟩, .int .i64 0]) ∧ Below w.heap.size w w' := by
  have q1 : (mkRat 1 6).num = 1 := by decide
  have q2 : (mkRat 1 6).den = 6 := by decide
  have hs : s = false := by rw [h.sgn, q1]; decide
  subst hs
  have hz : Sz (mkRat 1 6) 1 := ⟨by rw [q1]; exact lt_w1 (by decide) (by decide), by rw [q2]; exact lt_w1 (by decide) (by decide)⟩
  have hb0 := alloc_below (w := w) (.cells #[.bool false, .slice a n c, .slice b m d] 42)
  have st0 := st_new w (.bool false) (.slice a n c) (.slice b m d) 42
  have h0 := h.later hb0
  obtain ⟨x0, x1, x2⟩ := st0.cells
  have ck := check_ok h0 hz (by omega)
  have rn := fun w1 (hb : Below _ _ w1) => (h0.later hb).nu
  have rd := fun w1 (hb : Below _ _ w1) => (h0.later hb).de
  rw [q1] at rn
  rw [q2] at rd
  have e1 : ((Int.natAbs 1 : Nat) : Int) = 1 := rfl
  have e6 : ((6 : Nat) : Int) = 6 := rfl
  rw [e1] at rn
  rw [e6] at rd
  have tx1 := fun w1 (hb : Below _ _ w1) => digit_text (X := 1) (rn w1 hb) (by omega) (by omega)
  have tx2 := fun w1 (hb : Below _ _ w1) => digit_text (X := 6) (rd w1 hb) (by omega) (by omega)
  have b1 : bytesOf (laidD 10 1 1) = [49] := by decide
  have b6 : bytesOf (laidD 10 1 6) = [54] := by decide
  rw [b1] at tx1
  rw [b6] at tx2
  have lw := (lt_w1 (x := 6) (by omega) (by omega)).len
  have hmm : m = (words (6 : Int)).length := by have := h.lenD; rw [q2] at this; exact this
  have on := fun w1 (hb : Below _ _ w1) => isOne_any (B := false) (rd w1 hb) (A := 6) (nm_words (by omega) (by omega)) (by omega) (by decide)
  have c1 : ByteArray.mk #[49] ++ ByteArray.mk #[47] = ByteArray.mk #[49, 47] := rfl
  have c2 : ByteArray.mk #[49, 47] ++ ByteArray.mk #[54] = ByteArray.mk #[49, 47, 54] := rfl
  have c3 : ByteArray.mk [49].toArray = ByteArray.mk #[49] := rfl
  have c4 : ByteArray.mk [54].toArray = ByteArray.mk #[54] := rfl
  rw [c3] at tx1
  rw [c4] at tx2
  clear h h0 hz q1 q2 rn rd b1 b6 lw hmm e1 e6 c3 c4
  go_enter Tryz.func14, Tryz.ntmps14
  go_wp2_with fail
  refine ck.mono ?_
  rintro e w1 ⟨rfl, hb1⟩
  obtain ⟨z0, z1, z2⟩ := (st0.later hb1).cells
  go_wp2_with fail
  refine (tx1 _ hb1).mono ?_
  rintro e w2 ⟨rfl, hb2⟩
  have hB2 := hb1.trans (hb2.mono hb1.size)
  obtain ⟨u0, u1, u2⟩ := (st0.later hB2).cells
  clear tx1 ck
  go_wp2_with fail
  refine (on _ hB2).mono ?_
  rintro e w3 ⟨rfl, hb3⟩
  have hB3 := hB2.trans (hb3.mono hB2.size)
  obtain ⟨v0, v1, v2⟩ := (st0.later hB3).cells
  clear on
  go_wp2_with fail
  refine (tx2 _ hB3).mono ?_
  rintro e w4 ⟨rfl, hb4⟩
  have hB4 := hB3.trans (hb4.mono hB3.size)
  clear tx2
  go_wp2
  go_ret2
  exact ⟨rfl, hb0.trans (hB4.mono hb0.size)⟩
set_option maxHeartbeats 6400000 in
set_option maxRecDepth 100000 in
theorem counts_any {w : World} (hG : GrVar w) (hT : TenVar w) :
    Calls Tryz.prog 4 #[] w fun r w' => r = .returned (.bool true) ∧ Below w.heap.size w w' := by
  have hP := parse_tenth hG hT
  have zH : Sz (mkR false 1 2) 1 := ⟨by exact lt_w1 (by decide) (by decide), by exact lt_w1 (by decide) (by decide)⟩
  have zT : Sz (mkR true 2 6) 1 := ⟨by exact lt_w1 (by decide) (by decide), by exact lt_w1 (by decide) (by decide)⟩
  have eS : mkR false 1 2 + mkR true 2 6 = mkRat 1 6 := by decide +kernel
  have oK : ordR (mkRat 1 6) (mkR true 2 6) = 1 := by decide +kernel
  have N1 := fun (w : World) => rNew_ok (neg := false) (w := (w.alloc (.cells #[.int .u64 1] 22)).alloc (.cells #[.int .u64 2] 22)) ((rowC_one w 1 22).later (alloc_below _)) (rowC_one (w.alloc (.cells #[.int .u64 1] 22)) 2 22) (nm_one14 (by omega) (by omega)) (nm_one14 (by omega) (by omega)) (by omega) ((lt_w1 (by omega) (by omega)).mono (by omega)) ((lt_w1 (by omega) (by omega)).mono (by omega)) (by omega) (by omega)
  have N2 := fun (w : World) => rNew_ok (neg := true) (w := (w.alloc (.cells #[.int .u64 2] 22)).alloc (.cells #[.int .u64 6] 22)) ((rowC_one w 2 22).later (alloc_below _)) (rowC_one (w.alloc (.cells #[.int .u64 2] 22)) 6 22) (nm_one14 (by omega) (by omega)) (nm_one14 (by omega) (by omega)) (by omega) ((lt_w1 (by omega) (by omega)).mono (by omega)) ((lt_w1 (by omega) (by omega)).mono (by omega)) (by omega) (by omega)
  have BB := fun (w : World) (x y : Int) => ((Below.refl _ w).alloc (Nat.le_refl _) (.cells #[.int .u64 x] 22)).alloc (by simp) (.cells #[.int .u64 y] 22)
  have HN1 : Hid _ := N1
  have HN2 : Hid _ := N2
  have HBB : Hid _ := BB
  clear N1 N2 BB
  go_enter Tryz.func4, Tryz.ntmps4
  go_wp2_with fail
  refine hP.mono ?_
  rintro e w1 ⟨rfl, hb1⟩
  clear hP
  have n1 := HN1.out w1
  have bb1 := hb1.trans ((HBB.out w1 1 2).mono hb1.size)
  simp only [World.size_alloc] at n1
  go_wp2_with fail
  refine n1.mono ?_
  rintro e w2 ⟨s1, v1, v2, rfl, ho1, hb2⟩
  obtain ⟨a1, n1', c1, b1, m1, d1, rfl, rfl, r1⟩ := ho1.opens
  have B2 := bb1.trans (hb2.mono (by have := bb1.size; simpa using this))
  clear n1 ho1 HN1 hb1 hb2 bb1
  have st1 := st_new w2 (.bool s1) (.slice a1 n1' c1) (.slice b1 m1 d1) 42
  have k1 := alloc_below (w := w2) (.cells #[.bool s1, .slice a1 n1' c1, .slice b1 m1 d1] 42)
  replace r1 := r1.later k1
  have n2 := HN2.out (w2.alloc (.cells #[.bool s1, .slice a1 n1' c1, .slice b1 m1 d1] 42))
  have kk := HBB.out (w2.alloc (.cells #[.bool s1, .slice a1 n1' c1, .slice b1 m1 d1] 42)) 2 6
  simp only [World.size_alloc] at n2
  clear HN2 HBB
  go_wp2_with fail
  refine n2.mono ?_
  rintro e w3 ⟨s2, v3, v4, rfl, ho2, hb3⟩
  obtain ⟨a2, n2', c2, b2, m2, d2, rfl, rfl, r2⟩ := ho2.opens
  have B23 := kk.trans (hb3.mono (by simp))
  have B3 := B2.trans ((k1.trans (B23.mono k1.size)).mono B2.size)
  replace st1 := st1.later B23
  replace r1 := r1.later B23
  clear n2 ho2 kk hb3 k1 B23 B2
  have st2 := st_new w3 (.bool s2) (.slice a2 n2' c2) (.slice b2 m2 d2) 42
  have k3 := alloc_below (w := w3) (.cells #[.bool s2, .slice a2 n2' c2, .slice b2 m2 d2] 42)
  replace r1 := r1.later k3
  replace r2 := r2.later k3
  replace st1 := st1.later k3
  have B4 := B3.trans (k3.mono B3.size)
  obtain ⟨x0, x1, x2⟩ := st1.cells
  obtain ⟨y0, y1, y2⟩ := st2.cells
  have hA := rAdd_ok r1 r2 zH zT (by omega)
  clear B3 k3
  go_wp2_with fail
  refine hA.mono ?_
  rintro e w5 ⟨s3, v5, v6, rfl, ho3, z3, hb5⟩
  rw [eS] at ho3 z3
  obtain ⟨a3, n3', c3, b3, m3, d3, rfl, rfl, r3⟩ := ho3.opens
  have B5 := B4.trans (hb5.mono B4.size)
  replace st2 := st2.later hb5
  replace r2 := r2.later hb5
  clear hA ho3 B4 hb5 st1 r1 x0 x1 x2 y0 y1 y2
  have st3 := st_new w5 (.bool s3) (.slice a3 n3' c3) (.slice b3 m3 d3) 42
  have k5 := alloc_below (w := w5) (.cells #[.bool s3, .slice a3 n3' c3, .slice b3 m3 d3] 42)
  replace r3 := r3.later k5
  replace r2 := r2.later k5
  replace st2 := st2.later k5
  have B6 := B5.trans (k5.mono B5.size)
  obtain ⟨x0, x1, x2⟩ := st3.cells
  have hX := sixth_text r3
  clear B5 k5
  go_wp2_with fail
  refine hX.mono ?_
  rintro e w6 ⟨rfl, hb6⟩
  have B7 := B6.trans (hb6.mono B6.size)
  replace st2 := st2.later hb6
  replace st3 := st3.later hb6
  replace r2 := r2.later hb6
  replace r3 := r3.later hb6
  clear hX B6 hb6 x0 x1 x2
  obtain ⟨x0, x1, x2⟩ := st3.cells
  obtain ⟨y0, y1, y2⟩ := st2.cells
  have hC := rCmp_ok r3 r2 z3 zT (by omega) oK
  go_wp2_with fail
  refine hC.mono ?_
  rintro e w7 ⟨rfl, hb7⟩
  have B8 : Hid (Below w.heap.size w w7) := B7.trans (hb7.mono B7.size)
  clear hC B7 hb7 r2 r3 st2 st3 x0 x1 x2 y0 y1 y2 z3 eS oK zH zT
  go_wp2
  go_ret
  exact ⟨rfl, B8.out⟩
end Go.Proofs.YtlaendbngekghaaGreatDoor

/- TopRoads (written by genTopR.py). -/
namespace Go.Proofs.YtlaendbngekghaaGreatDoor
open Go.ChangeShapes Go.WideShapes Go.ChangeAt Go.RowKit
open Na Ar Lx
set_option linter.unusedVariables false
theorem fromW_any {v : Int} (hv : U v) (w : World) :
    Calls Tryz.prog 6 #[.int .u64 v] w fun e w' => ∃ a l c ls, e = .returned (.slice a l c) ∧ RowC w' a l c ls ∧ Nm ls v ∧ l ≤ 100 ∧ Below w.heap.size w w' := by
  refine (natFrom_any hv w).mono ?_
  rintro e w' ⟨r, rfl, ho, hb⟩
  obtain ⟨a, l, c, ls, rfl, hr, hn, hq⟩ := ho.opens (Lt.word hv) (by omega)
  have e1 := hr.1.1
  have e2 : ls = words v := hq.out
  have e3 := (Lt.word hv).len
  rw [← e2] at e3
  exact ⟨a, l, c, ls, rfl, hr, hn, by omega, hb⟩
theorem textW_any {v : Int} (hv : U v) {w : World} {a : Option Addr} {l c : Nat} {ls : List Int} (hr : RowC w a l c ls) (hn : Nm ls v) (hl : l ≤ 100) :
    Calls Tryz.prog 5 #[.slice a l c, .int .i64 10] w fun e w' => ∃ t : ByteArray, e = .returned (.tuple #[.string t, .int .i64 0]) ∧ (v ≠ 0 → TextIs v 10 t) ∧ Below w.heap.size w w' := by
  by_cases h : v = 0
  · refine (textZero_any hr hn.ws (by omega) (by omega) (by omega) (hn.num.trans h)).mono ?_
    rintro e w' ⟨rfl, hb⟩
    exact ⟨_, rfl, fun q => absurd h q, hb⟩
  · have h0 := hv.1
    have hll := (Lt.word hv).len
    refine (text_any hr hn.ws (by omega) (by omega) (by omega) (by rw [hn.num]; omega) (by rw [hn.num]; omega)).mono ?_
    rintro e w' ⟨t, rfl, ht, hb⟩
    rw [hn.num] at ht
    exact ⟨t, rfl, fun _ => ht, hb⟩
set_option maxHeartbeats 3200000 in
set_option maxRecDepth 100000 in
theorem roads_go {m e : Int} (um : U m) (i0 : -9223372036854775808 ≤ e) (i1 : e ≤ 9223372036854775807) {w : World} (hN : TenVar w) (hG : GrVar w) :
    Calls Tryz.prog 3 #[.int .u64 m, .int .i64 e] w fun r w' => r = .returned (.bool true) ∧ Below w.heap.size w w' := by
  have hC := counts_any hG hN
  have hF := fun w => fromW_any um w
  have HV : Hid (TenVar w ∧ GrVar w) := ⟨hN, hG⟩
  have HU : Hid (U m) := um
  have HI : Hid (-9223372036854775808 ≤ e ∧ e ≤ 9223372036854775807) := ⟨i0, i1⟩
  clear hN hG um
  go_enter Tryz.func3, Tryz.ntmps3
  go_wp2_with fail
  refine hC.mono ?_
  rintro r w1 ⟨rfl, hb1⟩
  clear hC
  go_wp2_with fail
  refine (hF _).mono ?_
  rintro r w2 ⟨a, l, c, ls, rfl, hr, hn, hl, hb2⟩
  have B2 := hb1.trans (hb2.mono hb1.size)
  have tx := textW_any HU.out hr hn hl
  clear hF hb1 hb2 hr hn hl
  go_wp2_with fail
  refine tx.mono ?_
  rintro r w3 ⟨t, rfl, ht, hb3⟩
  have HT : Hid (m ≠ 0 → TextIs m 10 t) := ht
  have B3 := B2.trans (hb3.mono B2.size)
  clear ht tx hb3 B2
  go_upto_if 30 with fail
  go_cut [6] (fun v wx => v = .string (if m = 0 then ⟨#[]⟩ else t) ∧ wx = w3)
  case first =>
    by_cases hm : m = 0
    · have d : (m == 0) = true := beq_of hm
      have HD : Hid ((if m = 0 then (⟨#[]⟩ : ByteArray) else t) = ⟨#[]⟩) := if_pos hm
      clear hm
      go_wp2
      go_meet
      exact ⟨by rw [HD.out], rfl⟩
    · have d : (m == 0) = false := beq_no hm
      have HD : Hid ((if m = 0 then (⟨#[]⟩ : ByteArray) else t) = t) := if_neg hm
      clear hm
      go_wp2
      go_meet
      exact ⟨by rw [HD.out], rfl⟩
  obtain ⟨rfl, rfl⟩ := hcut
  obtain ⟨T, hT⟩ : ∃ T, T = (if m = 0 then (⟨#[]⟩ : ByteArray) else t) := ⟨_, rfl⟩
  rw [← hT]
  have HTT : Hid (T = (if m = 0 then (⟨#[]⟩ : ByteArray) else t)) := hT
  clear hT
  go_upto_if 33 with fail
  go_cut [8] (fun v wx => v = .int .i64 (if 1073741824 < e then 1073741824 else e) ∧ wx = wc)
  case first =>
    by_cases hm : 1073741824 < e
    · have d : decide (1073741824 < e) = true := by simp; omega
      have HD : Hid ((if 1073741824 < e then 1073741824 else e) = 1073741824) := if_pos hm
      generalize decide (1073741824 < e) = D at *
      subst d
      clear hm
      go_wp2
      go_meet
      exact ⟨by rw [HD.out], rfl⟩
    · have d : decide (1073741824 < e) = false := by simp; omega
      have HD : Hid ((if 1073741824 < e then 1073741824 else e) = e) := if_neg hm
      generalize decide (1073741824 < e) = D at *
      subst d
      clear hm
      go_wp2
      go_meet
      exact ⟨by rw [HD.out], rfl⟩
  obtain ⟨rfl, rfl⟩ := hcut
  obtain ⟨A, hA⟩ : ∃ A, A = (if 1073741824 < e then 1073741824 else e) := ⟨_, rfl⟩
  rw [← hA]
  have hcl : clampE e = if A < -1073741824 then -1073741824 else A := by
    rw [hA]; unfold clampE; by_cases q : 1073741824 < e
    · rw [if_pos q, if_pos q, if_neg (by omega)]
    · rw [if_neg q, if_neg q]
  have HCL : Hid (clampE e = if A < -1073741824 then -1073741824 else A) := hcl
  clear hA hcl
  go_upto_if 35 with fail
  go_cut [8] (fun v wx => v = .int .i64 (clampE e) ∧ wx = wc)
  case first =>
    have hc := HCL.out
    by_cases hm : A < -1073741824
    · have d : decide (A < -1073741824) = true := by simp; omega
      rw [if_pos hm] at hc
      have HD : Hid (clampE e = -1073741824) := hc
      generalize decide (A < -1073741824) = D at *
      subst d
      clear hm hc HCL
      go_wp2
      go_meet
      exact ⟨by rw [HD.out], rfl⟩
    · have d : decide (A < -1073741824) = false := by simp; omega
      rw [if_neg hm] at hc
      have HD : Hid (clampE e = A) := hc
      generalize decide (A < -1073741824) = D at *
      subst d
      clear hm hc HCL
      go_wp2
      go_meet
      exact ⟨by rw [HD.out], rfl⟩
  obtain ⟨rfl, rfl⟩ := hcut
  clear HCL
  obtain ⟨X, hX⟩ : ∃ X, X = clampE e := ⟨_, rfl⟩
  rw [← hX]
  have HX : Hid (X = clampE e) := hX
  clear hX
  have sT : T.size ≤ 9223372036854775807 := by
    have e1 := HTT.out
    by_cases hm : m = 0
    · rw [if_pos hm] at e1; rw [e1]; decide
    · rw [if_neg hm] at e1
      have h0 := HU.out.1
      have := (text_facts (by omega) HU.out.2 (HT.out hm)).2.2.2
      rw [e1, Lib.size_eq]; omega
  obtain ⟨g, hg⟩ : ∃ g, g = wc.heap.size := ⟨_, rfl⟩
  have BX := Bk.new wc 30 (numC 1 false T X ⟨#[]⟩)
  have hb0 : Below wc.heap.size wc (wc.alloc (.cells (numC 1 false T X ⟨#[]⟩) 30)) := (Below.refl _ wc).alloc (Nat.le_refl _) _
  have B4 := B3.trans (hb0.mono B3.size)
  obtain ⟨W, hW⟩ : ∃ W, W = wc.alloc (.cells (numC 1 false T X ⟨#[]⟩) 30) := ⟨_, rfl⟩
  rw [← hW] at BX B4
  have hS := slow11_any 1 false T X ⟨#[]⟩ sT (by decide) (HV.out.2.later B4)
  unfold numC at hS hW
  go_wp2_with fail
  rw [← hW]
  refine hS.mono ?_
  rintro r V1 ⟨b, E, rfl, hq, ub, hb⟩
  have HQ : Hid (BitsIs 1 false T.data.toList X [] b E) := hq
  replace BX := BX.later hb
  replace B4 := B4.trans (hb.mono B4.size)
  clear hq hS hW hb hb0 B3
  have c0 := BX.cell 0 (v := .int .i64 1) rfl
  have c1 := BX.cell 1 (v := .bool false) rfl
  have c2 := BX.cell 2 (v := .string T) rfl
  have c3 := BX.cell 3 (v := .int .i64 X) rfl
  have c4 := BX.cell 4 (v := .string ⟨#[]⟩) rfl
  have hB := bits11_any 1 false T X ⟨#[]⟩ sT (by decide) (HV.out.2.later B4) (HV.out.1.later B4)
  unfold numC at hB
  go_wp2_with fail
  refine hB.mono ?_
  rintro r V2 ⟨b', E', rfl, hq, ub', hb⟩
  obtain ⟨rfl, rfl⟩ := bits_uniq hq HQ.out
  replace B4 := B4.trans (hb.mono B4.size)
  clear hq hB hb BX c0 c1 c2 c3 c4 ub ub'
  have hSm := lemSmall_any HU.out HI.out.1 HI.out.2 (HV.out.1.later B4)
  have t1 : (b' != b') = false := by simp
  have t2 : (E' != E') = false := by simp
  go_wp2_with fail
  refine hSm.mono ?_
  rintro r V3 ⟨s, rfl, hs1, hs2, us, hb⟩
  replace B4 := B4.trans (hb.mono B4.size)
  have hFs := fun w => lemFast_any HU.out HI.out.1 HI.out.2 w
  -- what the numbers say
  have HF : Hid ((smallOk m e = true → E' = 0 ∧ s = b') ∧ ∀ f F, FastIs m e f F → (F = 0 → E' = 0 ∧ f = b') ∧ (F = 70 → E' = 70)) := by
    have e1 := HTT.out
    have eX := HX.out
    have hQ := HQ.out
    rw [eX] at hQ
    by_cases hm : m = 0
    · rw [if_pos hm] at e1
      rw [e1] at hQ
      subst hm
      obtain ⟨z1, z2, z3, z4⟩ := roads_zero hQ
      exact ⟨fun ok => ⟨z2, by rw [z1]; exact z3 s ok (hs1 ok)⟩, fun f F q => ⟨fun _ => ⟨z2, by rw [z1]; exact (z4 f F q).1⟩, fun hF => by have := (z4 f F q).2; omega⟩⟩
    · rw [if_neg hm] at e1
      have h0 := HU.out.1
      obtain ⟨f1, f2, f3, f4⟩ := text_facts (by omega) HU.out.2 (HT.out hm)
      rw [← e1] at f1 f2 f3 f4
      obtain ⟨_, g2, g3⟩ := roads_fit (by omega) HU.out.2 f1 f2 f3 f4 hQ
      exact ⟨fun ok => g2 s ok (hs1 ok), g3⟩
  clear hSm hs1 hs2 us hb HQ HTT HT t1 t2
  have fin : ∀ f F, FastIs m e f F → Hid ((F = 0 ∧ E' = 0 ∧ f = b') ∨ (F = 70 ∧ E' = 70) ∨ (F ≠ 0 ∧ F ≠ 70)) := fun f F q => by
    obtain ⟨k1, k2⟩ := HF.out.2 f F q
    by_cases z : F = 0
    · exact Or.inl ⟨z, k1 z⟩
    · by_cases y : F = 70
      · exact Or.inr (Or.inl ⟨y, k2 y⟩)
      · exact Or.inr (Or.inr ⟨z, y⟩)
  have HI2 : Hid (∀ f F, FastIs m e f F → Hid ((F = 0 ∧ E' = 0 ∧ f = b') ∨ (F = 70 ∧ E' = 70) ∨ (F ≠ 0 ∧ F ≠ 70))) := fin
  clear fin
  have tail : Hid (smallOk m e = true → E' = 0 ∧ s = b') := HF.out.1
  clear HF
  have BB : Hid (Below w.heap.size w V3) := B4
  clear B4
  generalize smallOk m e = ok at *
  cases ok with
  | true =>
    obtain ⟨q1, q2⟩ := tail.out rfl
    subst q1 q2
    have t1 : ((0 : Int) != 0) = false := rfl
    have t2 : (s != s) = false := by simp
    go_wp2_with fail
    refine (hFs _).mono ?_
    rintro r V4 ⟨f, F, rfl, hf, uf, hb⟩
    have B5 := BB.out.trans (hb.mono BB.out.size)
    have hcase := (HI2.out f F hf).out
    clear hFs hf HI2 hb uf
    rcases hcase with ⟨rfl, _, rfl⟩ | ⟨_, q⟩ | ⟨z, y⟩
    · go_wp2
      go_ret
      exact ⟨rfl, B5⟩
    · exact absurd q (by decide)
    · have k1 : (F == 0) = false := beq_no z
      have k2 : (F != 70) = true := bne_yes y
      go_wp2
      go_ret
      exact ⟨rfl, B5⟩
  | false =>
    go_wp2_with fail
    refine (hFs _).mono ?_
    rintro r V4 ⟨f, F, rfl, hf, uf, hb⟩
    have B5 := BB.out.trans (hb.mono BB.out.size)
    have hcase := (HI2.out f F hf).out
    clear hFs hf HI2 hb uf tail
    rcases hcase with ⟨rfl, rfl, rfl⟩ | ⟨rfl, rfl⟩ | ⟨z, y⟩
    · have t2 : (f != f) = false := by simp
      go_wp2
      go_ret
      exact ⟨rfl, B5⟩
    · go_wp2
      go_ret
      exact ⟨rfl, B5⟩
    · have k1 : (F == 0) = false := beq_no z
      have k2 : (F != 70) = true := bne_yes y
      go_wp2
      go_ret
      exact ⟨rfl, B5⟩
end Go.Proofs.YtlaendbngekghaaGreatDoor


import Derived.Deep.DeepCutAuto
import Derived.Below
import Derived.BigQuiet
import Derived.ChangeOld
import Derived.Deep.CutRange
import Derived.Deep.DeepFit
import Derived.Deep.LoopGhost
import Derived.Deep.QuietTactic
import Derived.Deep.RegionHeld3
import Derived.Deep.RegionWith
import Derived.Deep.WholeRow
import Derived.Defers
import Derived.KernelRfl
import Derived.Laws.BitsAllLaws
import Derived.Laws.CopyRow
import Derived.Laws.EntriesVeiled
import Derived.Laws.Externs
import Derived.Laws.IdiomCopy
import Derived.Laws.IdiomRangeMap
import Derived.Laws.IdiomStrings
import Derived.Laws.RangeAny
import Derived.Laws.RangeString
import Derived.Laws.ResultCell
import Derived.Laws.Runes
import Derived.Laws.Strings3
import Derived.Lib.AsciiSet
import Derived.Lib.AtoiErrMem
import Derived.Lib.BufferRead
import Derived.Lib.Bytealg
import Derived.Lib.ConvBytes
import Derived.Lib.IndexBytes
import Derived.Lib.OthersKept
import Derived.Lib.Strings
import Derived.Lib.TrimByte
import Derived.Lib.Walk
import Derived.OpenShut
import Derived.Orders
import Derived.OwnWalk
import Derived.ProofKit
import Derived.Recover
import Derived.Scope
import Derived.Shelf.Strconv.Clone
import Derived.Shelf.Strings.OnBuilder
import Derived.ShutString
import Derived.WalkKit
import Derived.WalkLawsBesides
import Derived.WalkMore
import Derived.WalkSpells
import Derived.Test.YtjeoiffloghonaaGreatDoorArj24
import Derived.Test.YtjeoiffloghonaaGreatDoorArj25
import Derived.Test.YtjeoiffloghonaaGreatDoorArj26
/- AtofRising. -/
namespace Go.Proofs.YtjeoiffloghonaaGreatDoor
open Go.ChangeShapes Go.WideShapes Go.ChangeAt Go.RowKit
open Na Ar Lx
set_option linter.unusedVariables false
theorem tame_refs {k e : Int} {nu de : B} (h : TameIs k nu e de) : refE k nu e de = 0 := by
  have key : ∀ {l : B} {hx : Bool}, PlOk hx l → keptB (if hx = true then smal9 else digs9) l = true := fun {l hx} q => by
    rcases q.2.2 with rfl | ql
    · cases hx <;> rfl
    · refine kept_of (by have := q.1; omega) ql (fun c hc => ?_)
      have := q.2.1 c hc
      cases hx
      · exact isD_digs this
      · exact this
  rcases h with ⟨rfl, h1, rfl, h2, h3⟩ | ⟨rfl, h1, rfl, h2, h3⟩ | ⟨rfl, h1, rfl, h2, h3⟩
  · have hr : rightB 1 nu e [] = true := by
      unfold rightB
      rw [if_pos rfl, show keptB digs9 nu = true from key h1]
      unfold withB
      simp; omega
    unfold refE
    rw [hr, if_pos rfl, if_neg (fun q => absurd q.1 (by decide))]
  · have hr : rightB 2 nu e [] = true := by
      unfold rightB
      rw [if_neg (by decide), if_pos rfl, show keptB smal9 nu = true from key h1]
      unfold withB
      simp; omega
    unfold refE
    rw [hr, if_pos rfl, if_neg (fun q => absurd q.1 (by decide))]
  · have hr : rightB 3 nu 0 de = true := by
      unfold rightB
      rw [if_neg (by decide), if_neg (by decide), if_pos rfl, show keptB digs9 nu = true from key h1, show keptB digs9 de = true from key h2]
      rfl
    unfold refE
    rw [hr, if_pos rfl, if_neg (fun q => h3 q.2)]
theorem tame_sizes {k e : Int} {nu de : B} (h : TameIs k nu e de) : (str nu).size ≤ 40 ∧ (str de).size ≤ 40 ∧ -1500 ≤ e ∧ e ≤ 1500 := by
  rw [str_size, str_size]
  rcases h with ⟨_, h1, rfl, h2, h3⟩ | ⟨_, h1, rfl, h2, h3⟩ | ⟨_, h1, rfl, h2, h3⟩
  · exact ⟨h1.1, by simp, by omega, by omega⟩
  · exact ⟨h1.1, by simp, by omega, by omega⟩
  · exact ⟨h1.1, h2.1, by omega, by omega⟩
theorem v_sz {k e : Int} {num den : B} (ng : Bool) (h : refE k num e den = 0) (hn : num.length ≤ 400) (hd : den.length ≤ 400) (e0 : -1500 ≤ e) (e1 : e ≤ 1500) : Sz (mkR ng (vA k num e) (vB k e den)) 2001 := by
  have hB := vB_pos h
  obtain ⟨hr, h3⟩ := refE_right h
  have nvl : ∀ {b : Int} {l : B}, keptB (if b = 16 then smal9 else digs9) l = true → (b = 10 ∨ b = 16) → l.length ≤ 400 → Lt (nv b l) 400 := fun {b l} q hb hl => by
    by_cases hz : l = []
    · subst hz
      rw [nv_nil]
      exact ⟨Int.le_refl _, Int.pow_pos (by omega)⟩
    · rcases hb with rfl | rfl
      · exact (nv_LtV (by omega) (by omega) (okB_ten (kept_dec q hz).2.2.1)).mono hl
      · exact (nv_LtV (by omega) (by omega) (kept_hex q hz).2.2.1).mono hl
  have l1 := lt_one
  refine Sz.mkR ?_ ?_ hB
  · unfold vA exN
    rcases right_kinds hr with ⟨rfl, q1, q2, _⟩ | ⟨rfl, q1, q2, _⟩ | ⟨rfl, q1, q2, _⟩
    · have := nvl (b := 10) q1 (Or.inl rfl) hn
      rw [if_pos rfl]
      split
      · exact (this.mul (lt_pow_v (b := 10) (by omega) (by omega) e.toNat)).mono (by omega)
      · exact this.mono (by omega)
    · have := nvl (b := 16) q1 (Or.inr rfl) hn
      rw [if_neg (by decide), if_pos rfl]
      split
      · exact (this.mul (lt_pow_v (b := 2) (by omega) (by omega) e.toNat)).mono (by omega)
      · exact this.mono (by omega)
    · rw [if_neg (by decide), if_neg (by decide)]
      exact (nvl (b := 10) q1 (Or.inl rfl) hn).mono (by omega)
  · unfold vB exD
    rcases right_kinds hr with ⟨rfl, q1, q2, _⟩ | ⟨rfl, q1, q2, _⟩ | ⟨rfl, q1, q2, _⟩
    · rw [if_pos rfl]
      split
      · exact l1.mono (by omega)
      · exact (lt_pow_v (b := 10) (by omega) (by omega) (-e).toNat).mono (by omega)
    · rw [if_neg (by decide), if_pos rfl]
      split
      · exact l1.mono (by omega)
      · exact (lt_pow_v (b := 2) (by omega) (by omega) (-e).toNat).mono (by omega)
    · rw [if_neg (by decide), if_neg (by decide)]
      exact (nvl (b := 10) q2 (Or.inl rfl) hd).mono (by omega)
set_option maxHeartbeats 12800000 in
set_option maxRecDepth 100000 in
theorem rising_walk {kd1 x1 kd2 x2 : Int} {ng0 ng1 : Bool} {nu1 de1 nu2 de2 : ByteArray} (ka : -9223372036854775808 ≤ kd1) (kb : kd1 ≤ 9223372036854775807) (ea : -9223372036854775808 ≤ x1) (eb : x1 ≤ 9223372036854775807) (hn1 : nu1.size ≤ 9223372036854775807) (hd1 : de1.size ≤ 9223372036854775807) (kc : -9223372036854775808 ≤ kd2) (kd : kd2 ≤ 9223372036854775807) (ec : -9223372036854775808 ≤ x2) (ed : x2 ≤ 9223372036854775807) (hn2 : nu2.size ≤ 9223372036854775807) (hd2 : de2.size ≤ 9223372036854775807) {w : World} (hT : TenVar w) (hG : GrVar w) :
    Calls Tryz.prog 8 #[.agg (numC kd1 ng0 nu1 x1 de1), .agg (numC kd2 ng1 nu2 x2 de2)] w fun r w' => r = .returned (.bool true) ∧ Below w.heap.size w w' := by
  obtain ⟨s1, hs1⟩ : ∃ s1, s1 = ng0 := ⟨_, rfl⟩
  obtain ⟨s2, hs2⟩ : ∃ s2, s2 = ng1 := ⟨_, rfl⟩
  subst hs1 hs2
  clear ka kb ea eb kc kd ec ed
  have hb1 : Below w.heap.size w (w.alloc (.cells (numC kd1 s1 nu1 x1 de1) 23)) := (Below.refl _ w).alloc (Nat.le_refl _) _
  have C1 : Bk (w.alloc (.cells (numC kd1 s1 nu1 x1 de1) 23)) w.heap.size 23 (numC kd1 s1 nu1 x1 de1) := Bk.new _ _ _
  have hb2 := alloc_below (w := w.alloc (.cells (numC kd1 s1 nu1 x1 de1) 23)) (.cells (numC kd2 s2 nu2 x2 de2) 23)
  have B2 : Bk ((w.alloc (.cells (numC kd1 s1 nu1 x1 de1) 23)).alloc (.cells (numC kd2 s2 nu2 x2 de2) 23)) (w.alloc (.cells (numC kd1 s1 nu1 x1 de1) 23)).heap.size 23 (numC kd2 s2 nu2 x2 de2) := Bk.new _ _ _
  have hb0 := hb1.trans (hb2.mono hb1.size)
  have B1 := C1.later hb2
  rw [World.size_alloc] at B2
  obtain ⟨w0, hw0⟩ : ∃ w0, w0 = (w.alloc (.cells (numC kd1 s1 nu1 x1 de1) 23)).alloc (.cells (numC kd2 s2 nu2 x2 de2) 23) := ⟨_, rfl⟩
  rw [← hw0] at B1 B2 hb0
  obtain ⟨g, hg⟩ : ∃ g, g = w.heap.size := ⟨_, rfl⟩
  have HG : Hid (w.heap.size = g) := hg.symm
  rw [← hg] at B1 B2
  clear hb1 hb2 C1
  have f1 := fun w1 (h : Below w0.heap.size w0 w1) => (tame_any kd1 s1 nu1 x1 de1 hn1 hd1 w1).mono (R' := fun r w' => ∃ (k e : Int) (nu de : B), r = .returned (.agg (numC k s1 (str nu) e (str de))) ∧ TameIs k nu e de ∧ Below w0.heap.size w0 w' ∧ Below w1.heap.size w1 w') (by
    rintro r w' ⟨k, e, nu, de, rfl, ht, hb⟩
    exact ⟨k, e, nu, de, rfl, ht, h.trans (hb.mono h.size), hb⟩)
  have f2 := fun w1 (h : Below w0.heap.size w0 w1) => (tame_any kd2 s2 nu2 x2 de2 hn2 hd2 w1).mono (R' := fun r w' => ∃ (k e : Int) (nu de : B), r = .returned (.agg (numC k s2 (str nu) e (str de))) ∧ TameIs k nu e de ∧ Below w0.heap.size w0 w' ∧ Below w1.heap.size w1 w') (by
    rintro r w' ⟨k, e, nu, de, rfl, ht, hb⟩
    exact ⟨k, e, nu, de, rfl, ht, h.trans (hb.mono h.size), hb⟩)
  have hcl : ∀ w1, Below w0.heap.size w0 w1 → (w1.cell? ⟨g, 0, none⟩ = some (.int .i64 kd1) ∧ w1.cell? ⟨g, 1, none⟩ = some (.bool s1) ∧ w1.cell? ⟨g, 2, none⟩ = some (.string nu1) ∧ w1.cell? ⟨g, 3, none⟩ = some (.int .i64 x1) ∧ w1.cell? ⟨g, 4, none⟩ = some (.string de1)) ∧ (w1.cell? ⟨g + 1, 0, none⟩ = some (.int .i64 kd2) ∧ w1.cell? ⟨g + 1, 1, none⟩ = some (.bool s2) ∧ w1.cell? ⟨g + 1, 2, none⟩ = some (.string nu2) ∧ w1.cell? ⟨g + 1, 3, none⟩ = some (.int .i64 x2) ∧ w1.cell? ⟨g + 1, 4, none⟩ = some (.string de2)) := fun w1 h => ⟨⟨(B1.later h).cell 0 rfl, (B1.later h).cell 1 rfl, (B1.later h).cell 2 rfl, (B1.later h).cell 3 rfl, (B1.later h).cell 4 rfl⟩, ⟨(B2.later h).cell 0 rfl, (B2.later h).cell 1 rfl, (B2.later h).cell 2 rfl, (B2.later h).cell 3 rfl, (B2.later h).cell 4 rfl⟩⟩
  obtain ⟨⟨p0, p1, p2, p3, p4⟩, ⟨q0, q1, q2, q3, q4⟩⟩ := hcl w0 (Below.refl _ _)
  have ne1 : ¬ g = g + 1 := by omega
  have ne2 : ¬ g + 1 = g := by omega
  unfold numC at hw0 f1 f2 ⊢
  go_enter Tryz.func8, Tryz.ntmps8
  go_upto_region 1 with (fail)
  rw [← hw0, ← hg]
  clear hw0 hg
  go_cut [] from 17 to 20 (fun wx => ∃ (k1 e1 k2 e2 : Int) (m1 d1 m2 d2 : B), Bk wx g 23 (numC k1 s1 (str m1) e1 (str d1)) ∧ Bk wx (g + 1) 23 (numC k2 s2 (str m2) e2 (str d2)) ∧ TameIs k1 m1 e1 d1 ∧ TameIs k2 m2 e2 d2 ∧ Below w.heap.size w wx)
  case first =>
    go_region_with (first | (go_at_call_of 15 nu1; refine (f1 _ (by first | exact Below.refl _ _ | exact below_drewN (Below.refl _ _) _)).mono ?_; rintro r wX ⟨k1, e1, m1, d1, rfl, ht1, hBX, hbX⟩; obtain ⟨⟨p0, p1, p2, p3, p4⟩, ⟨q0, q1, q2, q3, q4⟩⟩ := hcl wX hBX) | (go_at_call 15; refine (f2 _ (by first | exact hBX | exact below_drewN hBX _)).mono ?_; rintro r wY ⟨k2, e2, m2, d2, rfl, ht2, hBY, hbY⟩; obtain ⟨⟨p0, p1, p2, p3, p4⟩, ⟨q0, q1, q2, q3, q4⟩⟩ := hcl wY hBY; have B1Y := B1.later hBY; have B2Y := B2.later hBY; have i0 := B1Y.frozen 0; have i1 := B1Y.frozen 1; have i2 := B1Y.frozen 2; have i3 := B1Y.frozen 3; have i4 := B1Y.frozen 4; have j0 := B2Y.frozen 0; have j1 := B2Y.frozen 1; have j2 := B2Y.frozen 2; have j3 := B2Y.frozen 3; have j4 := B2Y.frozen 4))
    all_goals (go_wp2_with fail)
    all_goals go_meet
    all_goals (have T1 := Tn.all5 wY g (.int .i64 k1) (.bool s1) (.string (str m1)) (.int .i64 e1) (.string (str d1)); have B1Z := Bk.set (Bk.set (Bk.set (Bk.set (Bk.set B1Y 0 (.int .i64 k1)) 1 (.bool s1)) 2 (.string (str m1))) 3 (.int .i64 e1)) 4 (.string (str d1)); have B2Z := Bk.tn B2Y T1 ne2; have T2 := Tn.all5 (((((wY.setCell ⟨g, 0, none⟩ (.int .i64 k1)).setCell ⟨g, 1, none⟩ (.bool s1)).setCell ⟨g, 2, none⟩ (.string (str m1))).setCell ⟨g, 3, none⟩ (.int .i64 e1)).setCell ⟨g, 4, none⟩ (.string (str d1))) (g + 1) (.int .i64 k2) (.bool s2) (.string (str m2)) (.int .i64 e2) (.string (str d2)); have B1V := Bk.tn B1Z T2 ne1; have B2V := Bk.set (Bk.set (Bk.set (Bk.set (Bk.set B2Z 0 (.int .i64 k2)) 1 (.bool s2)) 2 (.string (str m2))) 3 (.int .i64 e2)) 4 (.string (str d2)); have HV := Tn.below (Tn.below (hb0.trans (hBY.mono hb0.size)) T1 (by rw [HG.out]; exact Nat.le_refl _) (Nat.le_refl _)) T2 (by rw [HG.out]; omega) (Nat.le_refl _))
    all_goals exact ⟨k1, e1, k2, e2, m1, d1, m2, d2, B1V, B2V, ht1, ht2, HV⟩
  obtain ⟨k1, e1, k2, e2, m1, d1, m2, d2, BA, BB, ht1, ht2, HC⟩ := hcut
  clear f1 f2 B1 B2 hb0 hcl p0 p1 p2 p3 p4 q0 q1 q2 q3 q4
  obtain ⟨wC, hwC⟩ : ∃ wC, wC = wc := ⟨_, rfl⟩
  subst hwC
  obtain ⟨sn1, sd1, ea1, eb1⟩ := tame_sizes ht1
  obtain ⟨sn2, sd2, ea2, eb2⟩ := tame_sizes ht2
  have R1 : refE k1 (str m1).data.toList e1 (str d1).data.toList = 0 := by rw [str_list, str_list]; exact tame_refs ht1
  have R2 : refE k2 (str m2).data.toList e2 (str d2).data.toList = 0 := by rw [str_list, str_list]; exact tame_refs ht2
  clear ht1 ht2
  generalize str m1 = t1 at *
  generalize str d1 = u1 at *
  generalize str m2 = t2 at *
  generalize str d2 = u2 at *
  have z1 := v_sz s1 R1 (by rw [← Lib.size_eq]; omega) (by rw [← Lib.size_eq]; omega) ea1 eb1
  have z2 := v_sz s2 R2 (by rw [← Lib.size_eq]; omega) (by rw [← Lib.size_eq]; omega) ea2 eb2
  have hV1 := fun w => value9_any k1 s1 t1 e1 u1 R1 (by omega) (by omega) ea1 eb1 w
  have hV2 := fun w => value9_any k2 s2 t2 e2 u2 R2 (by omega) (by omega) ea2 eb2 w
  obtain ⟨Q1, hQ1⟩ : ∃ Q1, Q1 = mkR s1 (vA k1 t1.data.toList e1) (vB k1 e1 u1.data.toList) := ⟨_, rfl⟩
  obtain ⟨Q2, hQ2⟩ : ∃ Q2, Q2 = mkR s2 (vA k2 t2.data.toList e2) (vB k2 e2 u2.data.toList) := ⟨_, rfl⟩
  rw [← hQ1] at z1 hV1
  rw [← hQ2] at z2 hV2
  have HQ1 : Hid (Q1 = mkR s1 (vA k1 t1.data.toList e1) (vB k1 e1 u1.data.toList)) := hQ1
  have HQ2 : Hid (Q2 = mkR s2 (vA k2 t2.data.toList e2) (vB k2 e2 u2.data.toList)) := hQ2
  have HR1 : Hid (refE k1 t1.data.toList e1 u1.data.toList = 0) := R1
  have HR2 : Hid (refE k2 t2.data.toList e2 u2.data.toList = 0) := R2
  clear hQ1 hQ2 R1 R2 ea1 eb1 ea2 eb2
  unfold numC at hV1 hV2
  have p0 := BA.cell 0 (v := .int .i64 k1) rfl
  have p1 := BA.cell 1 (v := .bool s1) rfl
  have p2 := BA.cell 2 (v := .string t1) rfl
  have p3 := BA.cell 3 (v := .int .i64 e1) rfl
  have p4 := BA.cell 4 (v := .string u1) rfl
  go_wp2_with fail
  refine (hV1 _).mono ?_
  rintro r w1 ⟨sA, vX, vY, rfl, hRA, hbA⟩
  obtain ⟨a1, n1, c1, b1, m1, d1', rfl, rfl, qA⟩ := hRA.opens
  have HA := HC.trans (hbA.mono HC.size)
  have BA1 := BA.later hbA
  have BB1 := BB.later hbA
  clear hV1 hRA hbA BA BB
  clear p0 p1 p2 p3 p4
  go_upto_region 3 with fail
  have tx := st_new w1 (.bool sA) (.slice a1 n1 c1) (.slice b1 m1 d1') 58
  have ha1 := alloc_below (w := w1) (.cells #[.bool sA, .slice a1 n1 c1, .slice b1 m1 d1'] 58)
  have qx := qA.later ha1
  have BA2 := BA1.later ha1
  have BB2 := BB1.later ha1
  have H2 := HA.trans (ha1.mono HA.size)
  generalize w1.alloc (.cells #[.bool sA, .slice a1 n1 c1, .slice b1 m1 d1'] 58) = y1 at *
  obtain ⟨gx, hgx⟩ : ∃ gx, gx = w1.heap.size := ⟨_, rfl⟩
  rw [← hgx] at tx ⊢
  clear hgx ha1 qA HA BA1 BB1
  have q0 := BB2.cell 0 (v := .int .i64 k2) rfl
  have q1 := BB2.cell 1 (v := .bool s2) rfl
  have q2 := BB2.cell 2 (v := .string t2) rfl
  have q3 := BB2.cell 3 (v := .int .i64 e2) rfl
  have q4 := BB2.cell 4 (v := .string u2) rfl
  go_wp2_with fail
  refine (hV2 _).mono ?_
  rintro r w2 ⟨sB, vX, vY, rfl, hRB, hbB⟩
  obtain ⟨a2, n2, c2, b2, m2, d2, rfl, rfl, qB⟩ := hRB.opens
  have H3 := H2.trans (hbB.mono H2.size)
  have BA3 := BA2.later hbB
  have BB3 := BB2.later hbB
  have tx3 := tx.later hbB
  have qx3 := qx.later hbB
  clear hV2 hRB hbB BA2 BB2 tx qx H2
  clear q0 q1 q2 q3 q4
  go_upto_region 4 with fail
  have ty := st_new w2 (.bool sB) (.slice a2 n2 c2) (.slice b2 m2 d2) 58
  have ha2 := alloc_below (w := w2) (.cells #[.bool sB, .slice a2 n2 c2, .slice b2 m2 d2] 58)
  have qy := qB.later ha2
  have qx4 := qx3.later ha2
  have tx4 := tx3.later ha2
  have BA4 := BA3.later ha2
  have BB4 := BB3.later ha2
  have H4 := H3.trans (ha2.mono H3.size)
  generalize w2.alloc (.cells #[.bool sB, .slice a2 n2 c2, .slice b2 m2 d2] 58) = y2 at *
  obtain ⟨gy, hgy⟩ : ∃ gy, gy = w2.heap.size := ⟨_, rfl⟩
  rw [← hgy] at ty ⊢
  clear hgy ha2 qB qx3 tx3 H3 BA3 BB3
  obtain ⟨K, hK⟩ : ∃ K, ordR Q1 Q2 = K := ⟨_, rfl⟩
  have hM := rCmp_ok qx4 qy z1 z2 (by omega) hK
  have HK : Hid (ordR Q1 Q2 = K) := hK
  clear hK
  obtain ⟨g0, g1, g2⟩ := tx4.cells
  obtain ⟨h0, h1, h2⟩ := ty.cells
  go_wp2_with fail
  refine hM.mono ?_
  rintro r w3 ⟨rfl, hbM⟩
  have H5 := H4.trans (hbM.mono H4.size)
  have BA5 := BA4.later hbM
  have BB5 := BB4.later hbM
  clear hM hbM g0 g1 g2 h0 h1 h2 tx4 ty qx4 qy H4 BA4 BB4 z1 z2
  have hB1 := bits11_any k1 s1 t1 e1 u1 (by omega) (by omega) (hG.later H5) (hT.later H5)
  unfold numC at hB1
  have p0 := BA5.cell 0 (v := .int .i64 k1) rfl
  have p1 := BA5.cell 1 (v := .bool s1) rfl
  have p2 := BA5.cell 2 (v := .string t1) rfl
  have p3 := BA5.cell 3 (v := .int .i64 e1) rfl
  have p4 := BA5.cell 4 (v := .string u1) rfl
  go_wp2_with fail
  refine hB1.mono ?_
  rintro r w4 ⟨b, E, rfl, hq1, ub, hb4⟩
  have HB1 : Hid (BitsIs k1 s1 t1.data.toList e1 u1.data.toList b E) := hq1
  have H6 := H5.trans (hb4.mono H5.size)
  have BB6 := BB5.later hb4
  clear hB1 hq1 hb4 BA5 BB5 H5
  clear p0 p1 p2 p3 p4
  have hB2 := bits11_any k2 s2 t2 e2 u2 (by omega) (by omega) (hG.later H6) (hT.later H6)
  unfold numC at hB2
  have q0 := BB6.cell 0 (v := .int .i64 k2) rfl
  have q1 := BB6.cell 1 (v := .bool s2) rfl
  have q2 := BB6.cell 2 (v := .string t2) rfl
  have q3 := BB6.cell 3 (v := .int .i64 e2) rfl
  have q4 := BB6.cell 4 (v := .string u2) rfl
  go_wp2_with fail
  refine hB2.mono ?_
  rintro r w5 ⟨c, F, rfl, hq2, uc, hb5⟩
  have HB2 : Hid (BitsIs k2 s2 t2.data.toList e2 u2.data.toList c F) := hq2
  have H7 := H6.trans (hb5.mono H6.size)
  clear hB2 hq2 hb5 BB6 H6
  clear q0 q1 q2 q3 q4
  have hA := alive11_any (hG.later H7) (hT.later H7)
  go_wp2_with fail
  refine hA.mono ?_
  rintro r w6 ⟨rfl, hb6⟩
  have H8 := H7.trans (hb6.mono H7.size)
  clear hA hb6 H7
  have HE1 : Hid (E = 0 ∨ E = 70) := (BitsIs.codes HB1.out HR1.out).1
  have HE2 : Hid (F = 0 ∨ F = 70) := (BitsIs.codes HB2.out HR2.out).1
  rcases HE1.out with rfl | rfl
  · rcases HE2.out with rfl | rfl
    · have fb := bits_fin HB1.out HR1.out
      have fc := bits_fin HB2.out HR2.out
      have hcm := fun w => f6Cmp_any ub uc w
      have eE : cmE b c = 0 := by unfold cmE; rw [if_neg fb, if_neg fc]
      have eW : cmW b c = ord (rk0 b) (rk0 c) := by unfold cmW; rw [if_neg fb, if_neg fc]
      rw [eE, eW] at hcm
      have up : K ≤ 0 → rk0 b ≤ rk0 c := fun h => bits_rise HB1.out HR1.out HB2.out HR2.out (by rw [← HQ1.out, ← HQ2.out, HK.out]; exact h)
      have dn : 0 ≤ K → rk0 c ≤ rk0 b := fun h => bits_rise HB2.out HR2.out HB1.out HR1.out (by rw [← HQ1.out, ← HQ2.out, ordR_swap, HK.out]; omega)
      have LC : (K ≤ 0 → ord (rk0 b) (rk0 c) ≤ 0) ∧ (0 ≤ K → 0 ≤ ord (rk0 b) (rk0 c)) := by
        rcases ord_cases (rk0 b) (rk0 c) with ⟨a1, a2⟩ | ⟨a1, a2⟩ | ⟨a1, a2⟩ <;> rw [a2] <;> constructor <;> intro h <;> (first | omega | (have := up h; omega) | (have := dn h; omega))
      generalize ord (rk0 b) (rk0 c) = O at *
      obtain ⟨L1, L2⟩ := LC
      clear fb fc eE eW up dn HB1 HB2 HE1 HE2 HQ1 HQ2 HR1 HR2 HK
      go_wp2_with fail
      refine (hcm _).mono ?_
      rintro r w7 ⟨rfl, rfl⟩
      clear hcm
      rcases Int.lt_trichotomy K 0 with hk | hk | hk
      · have o := L1 (by omega)
        have t1 : decide (K > 0) = false := by simp; omega
        have t1' : decide (0 < K) = false := by simp; omega
        have t2 : decide (O ≤ 0) = true := by simp; omega
        have t3 : decide (K < 0) = true := by simp; omega
        clear L1 L2 o hk
        go_wp2
        go_ret
        exact ⟨rfl, H8⟩
      · subst hk
        have o := L1 (by omega)
        have o' := L2 (by omega)
        have o9 : O = 0 := by omega
        subst o9
        clear L1 L2 o o'
        go_wp2
        go_ret
        exact ⟨rfl, H8⟩
      · have o := L2 (by omega)
        have t1 : decide (K > 0) = true := by simp; omega
        have t1' : decide (0 < K) = true := by simp; omega
        have t2 : decide (O ≥ 0) = true := by simp; omega
        have t2' : decide (0 ≤ O) = true := by simp; omega
        have t3 : decide (K < 0) = false := by simp; omega
        clear L1 L2 o hk
        go_wp2
        go_ret
        exact ⟨rfl, H8⟩
    · clear HB1 HB2 HE1 HE2
      go_wp2
      go_ret
      exact ⟨rfl, H8⟩
  · rcases HE2.out with rfl | rfl
    · clear HB1 HB2 HE1 HE2
      go_wp2
      go_ret
      exact ⟨rfl, H8⟩
    · clear HB1 HB2 HE1 HE2
      go_wp2
      go_ret
      exact ⟨rfl, H8⟩
end Go.Proofs.YtjeoiffloghonaaGreatDoor


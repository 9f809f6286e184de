import Derived.Deep.DeepCutAuto
import Derived.Deep.RegionHeld3
import Derived.Below
import Derived.BigQuiet
import Derived.ChangeOld
import Derived.Deep.CutRange
import Derived.Deep.DeepFit
import Derived.Deep.LoopGhost
import Derived.Deep.QuietTactic
import Derived.Deep.RegionWith
import Derived.Deep.WholeRow
import Derived.Defers
import Derived.KernelRfl
import Derived.Laws.BitsAllLaws
import Derived.Laws.CopyRow
import Derived.Laws.EntriesVeiled
import Derived.Laws.Externs
import Derived.Laws.IdiomCopy
import Derived.Laws.IdiomRangeMap
import Derived.Laws.IdiomStrings
import Derived.Laws.RangeAny
import Derived.Laws.RangeString
import Derived.Laws.ResultCell
import Derived.Laws.Runes
import Derived.Laws.Strings3
import Derived.Lib.AsciiSet
import Derived.Lib.AtoiErrMem
import Derived.Lib.BufferRead
import Derived.Lib.Bytealg
import Derived.Lib.ConvBytes
import Derived.Lib.IndexBytes
import Derived.Lib.OthersKept
import Derived.Lib.Strings
import Derived.Lib.TrimByte
import Derived.Lib.Walk
import Derived.OpenShut
import Derived.Orders
import Derived.OwnWalk
import Derived.ProofKit
import Derived.Recover
import Derived.Scope
import Derived.Shelf.Strconv.Clone
import Derived.Shelf.Strings.OnBuilder
import Derived.ShutString
import Derived.WalkKit
import Derived.WalkLawsBesides
import Derived.WalkMore
import Derived.WalkSpells
import Derived.Test.YtjeoiffloghonabGreatDoorAnj25
import Derived.Test.YtjeoiffloghonabGreatDoorAnj26
import Derived.Test.YtjeoiffloghonabGreatDoorAnj27
/- AtofRising. -/
namespace Go.Proofs.YtjeoiffloghonabGreatDoor
open Go.ChangeShapes Go.WideShapes Go.ChangeAt Go.RowKit
open Na Ar Lx
set_option linter.unusedVariables false
theorem tame_refs {k e : Int} {nu de : B} (h : TameIs k nu e de) : refE k nu e de = 0 := by
  have key : ∀ {l : B} {hx : Bool}, PlOk hx l → keptB (if hx = true then smal9 else digs9) l = true := fun {l hx} q => by
    rcases q.2.2 with rfl | ql
    · cases hx <;> rfl
    · refine kept_of (by have := q.1; omega) ql (fun c hc => ?_)
      have := q.2.1 c hc
      cases hx
      · exact isD_digs this
      · exact this
  rcases h with ⟨rfl, h1, rfl, h2, h3⟩ | ⟨rfl, h1, rfl, h2, h3⟩ | ⟨rfl, h1, rfl, h2, h3⟩
  · have hr : rightB 1 nu e [] = true := by
      unfold rightB
      rw [if_pos rfl, show keptB digs9 nu = true from key h1]
      unfold withB
      simp; omega
    unfold refE
    rw [hr, if_pos rfl, if_neg (fun q => absurd q.1 (by decide))]
  · have hr : rightB 2 nu e [] = true := by
      unfold rightB
      rw [if_neg (by decide), if_pos rfl, show keptB smal9 nu = true from key h1]
      unfold withB
      simp; omega
    unfold refE
    rw [hr, if_pos rfl, if_neg (fun q => absurd q.1 (by decide))]
  · have hr : rightB 3 nu 0 de = true := by
      unfold rightB
      rw [if_neg (by decide), if_neg (by decide), if_pos rfl, show keptB digs9 nu = true from key h1, show keptB digs9 de = true from key h2]
      rfl
    unfold refE
    rw [hr, if_pos rfl, if_neg (fun q => h3 q.2)]
theorem tame_sizes {k e : Int} {nu de : B} (h : TameIs k nu e de) : (str nu).size ≤ 40 ∧ (str de).size ≤ 40 ∧ -1500 ≤ e ∧ e ≤ 1500 := by
  rw [str_size, str_size]
  rcases h with ⟨_, h1, rfl, h2, h3⟩ | ⟨_, h1, rfl, h2, h3⟩ | ⟨_, h1, rfl, h2, h3⟩
  · exact ⟨h1.1, by simp, by omega, by omega⟩
  · exact ⟨h1.1, by simp, by omega, by omega⟩
  · exact ⟨h1.1, h2.1, by omega, by omega⟩
theorem v_sz {k e : Int} {num den : B} (ng : Bool) (h : refE k num e den = 0) (hn : num.length ≤ 400) (hd : den.length ≤ 400) (e0 : -1500 ≤ e) (e1 : e ≤ 1500) : Sz (mkR ng (vA k num e) (vB k e den)) 2001 := by
  have hB := vB_pos h
  obtain ⟨hr, h3⟩ := refE_right h
  have nvl : ∀ {b : Int} {l : B}, keptB (if b = 16 then smal9 else digs9) l = true → (b = 10 ∨ b = 16) → l.length ≤ 400 → Lt (nv b l) 400 := fun {b l} q hb hl => by
    by_cases hz : l = []
    · subst hz
      rw [nv_nil]
      exact ⟨Int.le_refl _, Int.pow_pos (by omega)⟩
    · rcases hb with rfl | rfl
      · exact (nv_LtV (by omega) (by omega) (okB_ten (kept_dec q hz).2.2.1)).mono hl
      · exact (nv_LtV (by omega) (by omega) (kept_hex q hz).2.2.1).mono hl
  have l1 := lt_one
  refine Sz.mkR ?_ ?_ hB
  · unfold vA exN
    rcases right_kinds hr with ⟨rfl, q1, q2, _⟩ | ⟨rfl, q1, q2, _⟩ | ⟨rfl, q1, q2, _⟩
    · have := nvl (b := 10) q1 (Or.inl rfl) hn
      rw [if_pos rfl]
      split
      · exact (this.mul (lt_pow_v (b := 10) (by omega) (by omega) e.toNat)).mono (by omega)
      · exact this.mono (by omega)
    · have := nvl (b := 16) q1 (Or.inr rfl) hn
      rw [if_neg (by decide), if_pos rfl]
      split
      · exact (this.mul (lt_pow_v (b := 2) (by omega) (by omega) e.toNat)).mono (by omega)
      · exact this.mono (by omega)
    · rw [if_neg (by decide), if_neg (by decide)]
      exact (nvl (b := 10) q1 (Or.inl rfl) hn).mono (by omega)
  · unfold vB exD
    rcases right_kinds hr with ⟨rfl, q1, q2, _⟩ | ⟨rfl, q1, q2, _⟩ | ⟨rfl, q1, q2, _⟩
    · rw [if_pos rfl]
      split
      · exact l1.mono (by omega)
      · exact (lt_pow_v (b := 10) (by omega) (by omega) (-e).toNat).mono (by omega)
    · rw [if_neg (by decide), if_pos rfl]
      split
      · exact l1.mono (by omega)
      · exact (lt_pow_v (b := 2) (by omega) (by omega) (-e).toNat).mono (by omega)
    · rw [if_neg (by decide), if_neg (by decide)]
      exact (nvl (b := 10) q2 (Or.inl rfl) hd).mono (by omega)
end Go.Proofs.YtjeoiffloghonabGreatDoor

/- AtofNearest. -/
namespace Go.Proofs.YtjeoiffloghonabGreatDoor
open Go.ChangeShapes Go.WideShapes Go.ChangeAt Go.RowKit
open Na Ar Lx
set_option linter.unusedVariables false
theorem neg_sg {m : Int} {ng : Bool} (h0 : 0 ≤ m) (h1 : m ≤ mostP) : m + sgB (!ng) = negW (m + sgB ng) := by
  unfold mostP at h1
  unfold negW
  cases ng
  · show m + 9223372036854775808 = if m + 0 < 9223372036854775808 then m + 0 + 9223372036854775808 else m + 0 - 9223372036854775808
    rw [if_pos (by omega)]; omega
  · show m + 0 = if m + 9223372036854775808 < 9223372036854775808 then m + 9223372036854775808 + 9223372036854775808 else m + 9223372036854775808 - 9223372036854775808
    rw [if_neg (by omega)]; omega
theorem bits_neg {k e b c E F : Int} {ng : Bool} {num den : B} (h : BitsIs k ng num e den b E) (h' : BitsIs k (!ng) num e den c F) (hr : refE k num e den = 0) : E = F ∧ (E = 0 → c = negW b) ∧ (E = 70 → b = 0 ∧ c = 0) := by
  have hz : ∀ s, sgB s = 0 + sgB s := fun s => by omega
  rcases h with ⟨a1, _⟩ | ⟨_, a2, a3, a4⟩ | ⟨a1, a2, m, G, a3, a4⟩
  · exact absurd hr a1
  · rcases h' with ⟨c1, _⟩ | ⟨_, c2, c3, c4⟩ | ⟨c1, c2, _⟩
    · exact absurd hr c1
    · refine ⟨by omega, fun _ => ?_, fun q => by omega⟩
      rw [a3, c3, hz (!ng), neg_sg (by omega) (by unfold mostP; omega), ← hz]
    · exact absurd a2 c2
  · rcases h' with ⟨c1, _⟩ | ⟨_, c2, _⟩ | ⟨c1, c2, m', G', c3, c4⟩
    · exact absurd hr c1
    · exact absurd c2 a2
    · obtain ⟨rfl, rfl⟩ := val_uniq hr a3 c3
      rcases val_over hr a3 with ⟨rfl, rfl⟩ | ⟨rfl, q1, q2⟩
      · rcases a4 with ⟨_, x2, x3⟩ | ⟨x1, _⟩
        · rcases c4 with ⟨_, y2, y3⟩ | ⟨y1, _⟩
          · exact ⟨x3.trans y3.symm, fun q => by omega, fun _ => ⟨x2, y2⟩⟩
          · exact absurd y1 (by decide)
        · exact absurd x1 (by decide)
      · rcases a4 with ⟨x1, _⟩ | ⟨_, x2, x3⟩
        · exact absurd rfl x1
        · rcases c4 with ⟨y1, _⟩ | ⟨_, y2, y3⟩
          · exact absurd rfl y1
          · exact ⟨x2.trans y2.symm, fun _ => by rw [x3, y3]; exact neg_sg q1 q2, fun q => by omega⟩
/-- what Bits tells, against the value -/
theorem bits_told {k e b E : Int} {ng : Bool} {num den : B} (h : BitsIs k ng num e den b E) (hr : refE k num e den = 0) :
    (E = 70 ∧ ¬ 2 * (vA k num e * e2 1074) < (numW mostP + nxtN mostP) * vB k e den) ∨
    (E = 0 ∧ 2 * (vA k num e * e2 1074) < (numW mostP + nxtN mostP) * vB k e den ∧ ∃ m, 0 ≤ m ∧ m ≤ mostP ∧ b = m + sgB ng ∧ (vA k num e = 0 → m = 0) ∧
      (m < mostP → ordR (absR (valR m - mkR false (vA k num e) (vB k e den))) (absR (valR (m + 1) - mkR false (vA k num e) (vB k e den))) < 0 ∨ (ordR (absR (valR m - mkR false (vA k num e) (vB k e den))) (absR (valR (m + 1) - mkR false (vA k num e) (vB k e den))) = 0 ∧ m % 2 = 0)) ∧
      (m ≠ 0 → ordR (absR (valR m - mkR false (vA k num e) (vB k e den))) (absR (valR (m - 1) - mkR false (vA k num e) (vB k e den))) < 0 ∨ (ordR (absR (valR m - mkR false (vA k num e) (vB k e den))) (absR (valR (m - 1) - mkR false (vA k num e) (vB k e den))) = 0 ∧ m % 2 = 0))) := by
  have hA := vA_nonneg k num e
  have hB := vB_pos hr
  have sA : scA (vA k num e) 0 = vA k num e * e2 1074 := rfl
  have sB : scB (vB k e den) 0 = vB k e den := by unfold scB; rw [e2_zero (by omega), Int.mul_one]
  have hE := e2_pos 1074
  rcases (BitsIs.codes h hr).1 with rfl | rfl
  · right
    obtain ⟨m, m0, m1, hb, q⟩ := bits_flat h hr
    have hz : vA k num e = 0 → m = 0 := fun z => by rw [z] at q; exact flat_zero hB q
    rw [sA, sB] at q
    rcases round_over hB q with ⟨x, _⟩ | ⟨_, _, _, x⟩
    · exact absurd x (by decide)
    rcases even_near hB q with ⟨y, _⟩ | ⟨_, d, d0, d1, hd, u1, u2, u3⟩
    · exact absurd y (by decide)
    have hmd : m = d := by rw [hd]; show d + 0 = d; omega
    subst hmd
    refine ⟨rfl, x, m, m0, m1, hb, hz, fun hm => ?_, fun hm => ?_⟩
    · rw [valR_low m0 m1, valR_low (by omega) (by omega), num_succ m0 hm]
      exact near_low hA hB (numW_pos0 m m0 m1) (nxt_gt m) hE u1 (fun t => (u2 t).1)
    · obtain ⟨w1, w2⟩ := u3 hm
      have hlt : numW (m - 1) < numW m := by
        have := num_succ (p := m - 1) (by omega) (by omega)
        rw [show m - 1 + 1 = m by omega] at this
        rw [this]
        exact nxt_gt _
      rw [valR_low m0 m1, valR_low (by omega) (by omega)]
      exact near_high hA hB (numW_pos0 (m - 1) (by omega) (by omega)) hlt hE w1 w2
  · left
    refine ⟨rfl, ?_⟩
    rcases h with ⟨a1, _⟩ | ⟨_, _, _, a4⟩ | ⟨a1, a2, m, F, a3, a4⟩
    · exact absurd hr a1
    · exact absurd a4 (by decide)
    · rcases a4 with ⟨_, _, x3⟩ | ⟨_, x2, _⟩
      · subst x3
        have q := val_flat hr a3
        rw [sA, sB] at q
        rcases round_over hB q with ⟨_, _, x⟩ | ⟨x, _⟩
        · omega
        · exact absurd x (by decide)
      · exact absurd x2 (by decide)
theorem sign_off {m : Int} {ng : Bool} (h0 : 0 ≤ m) (h1 : m ≤ mostP) : bits .andNot .u64 (m + sgB ng) 9223372036854775808 = m ∧ decide (9223372036854775808 ≤ m + sgB ng) = ng := by
  unfold mostP at h1
  cases ng
  · show bits .andNot .u64 (m + 0) 9223372036854775808 = m ∧ decide ((9223372036854775808 : Int) ≤ m + 0) = false
    rw [size_bits (by unfold U; omega)]
    unfold mg
    exact ⟨by omega, by simp; omega⟩
  · show bits .andNot .u64 (m + 9223372036854775808) 9223372036854775808 = m ∧ decide ((9223372036854775808 : Int) ≤ m + 9223372036854775808) = true
    rw [size_bits (by unfold U; omega)]
    unfold mg
    exact ⟨by omega, by simp; omega⟩
end Go.Proofs.YtjeoiffloghonabGreatDoor

/- AtofNearest: the walk. -/
namespace Go.Proofs.YtjeoiffloghonabGreatDoor
open Go.ChangeShapes Go.WideShapes Go.ChangeAt Go.RowKit
open Na Ar Lx
set_option linter.unusedVariables false
theorem int_at11 {v : Int} {w0 w1 : World} (h : Below w0.heap.size w0 w1) (h0 : -9223372036854775808 ≤ v) (h1 : v ≤ 9223372036854775807) :
    Calls Tryz.prog 14 #[.int .i64 v] w1 fun e w' => ∃ s a n c b m d, e = .returned (.agg #[.bool s, .slice a n c, .slice b m d]) ∧ Rt w' s a n c b m d ((v : Int) : Rat) ∧ Below w0.heap.size w0 w' ∧ Below w1.heap.size w1 w' := by
  refine (rInt_any h0 h1 w1).mono ?_
  rintro e w' ⟨s, v1, v2, rfl, hR, hb⟩
  obtain ⟨a, n, c, b, m, d, rfl, rfl, hRt⟩ := hR.opens
  exact ⟨_, _, _, _, _, _, _, rfl, hRt, h.trans (hb.mono h.size), hb⟩
theorem sz_int11 {v : Int} (h : v.natAbs < 18446744073709551616) : Sz ((v : Int) : Rat) 1 := by
  refine ⟨?_, ?_⟩
  · rw [Rat.num_intCast]; exact Lt.word ⟨by omega, by omega⟩
  · rw [Rat.den_intCast]; exact lt_one
theorem mkR_num0 {s : Bool} {A B : Int} (hA : 0 ≤ A) (hB : 0 < B) : sgnR (mkR s A B) = 0 ↔ A = 0 := by
  have h := rat_abs (s := s) hA hB
  have hd : A / (Int.gcd A B : Int) * (Int.gcd A B : Int) = A := Int.ediv_mul_cancel (Int.gcd_dvd_left ..)
  unfold sgnR
  constructor
  · intro q
    by_cases z : (mkR s A B).num = 0
    · rw [z] at h
      simp only [Int.natAbs_zero] at h
      rw [← h] at hd
      omega
    · rw [if_neg z] at q
      split at q <;> omega
  · intro q
    subst q
    rw [Int.zero_ediv] at h
    rw [if_pos (by omega)]
theorem or_zero11 : bits .or .u64 0 0 = 0 := by decide
set_option maxHeartbeats 25600000 in
set_option maxRecDepth 100000 in
theorem nearest_walk11 {kd x : Int} {ng0 : Bool} {nu0 de0 : ByteArray} (ka : -9223372036854775808 ≤ kd) (kb : kd ≤ 9223372036854775807) (ea : -9223372036854775808 ≤ x) (eb : x ≤ 9223372036854775807) (hn : nu0.size ≤ 9223372036854775807) (hd : de0.size ≤ 9223372036854775807) {w : World} (hT : TenVar w) (hG : GrVar w) :
    Calls Tryz.prog 3 #[.agg (numC kd ng0 nu0 x de0)] w fun r w' => r = .returned (.bool true) ∧ Below w.heap.size w w' := by
  obtain ⟨ng, hng⟩ : ∃ ng, ng = ng0 := ⟨_, rfl⟩
  subst hng
  clear ka kb ea eb
  have hTm := fun w => tame_any kd ng nu0 x de0 hn hd w
  have B0 := Bk.new w 23 (numC kd ng nu0 x de0)
  have hb0 : Below w.heap.size w (w.alloc (.cells (numC kd ng nu0 x de0) 23)) := (Below.refl _ w).alloc (Nat.le_refl _) _
  obtain ⟨w0, hw0⟩ : ∃ w0, w0 = w.alloc (.cells (numC kd ng nu0 x de0) 23) := ⟨_, rfl⟩
  rw [← hw0] at B0 hb0
  obtain ⟨g, hg⟩ : ∃ g, g = w.heap.size := ⟨_, rfl⟩
  rw [← hg] at B0
  have HG : Hid (w.heap.size = g) := hg.symm
  unfold numC at hTm hw0 ⊢
  go_enter Tryz.func3, Tryz.ntmps3
  go_wp2_with fail
  refine (hTm _).mono ?_
  rintro r w1 ⟨k, e, nu, de, rfl, htm, hb⟩
  rw [← hw0] at hb
  rw [← hg]
  have BY := B0.later hb
  have BV := hb0.trans (hb.mono hb0.size)
  clear hTm hw0 hg B0 hb0 hb
  have y0 := BY.cell 0 (v := .int .i64 kd) rfl
  have y1 := BY.cell 1 (v := .bool ng) rfl
  have y2 := BY.cell 2 (v := .string nu0) rfl
  have y3 := BY.cell 3 (v := .int .i64 x) rfl
  have y4 := BY.cell 4 (v := .string de0) rfl
  have f0 := BY.frozen 0
  have f1 := BY.frozen 1
  have f2 := BY.frozen 2
  have f3 := BY.frozen 3
  have f4 := BY.frozen 4
  obtain ⟨W, hW⟩ : ∃ W, W = ((((w1.setCell ⟨g, 0, none⟩ (.int .i64 k)).setCell ⟨g, 1, none⟩ (.bool ng)).setCell ⟨g, 2, none⟩ (.string (str nu))).setCell ⟨g, 3, none⟩ (.int .i64 e)).setCell ⟨g, 4, none⟩ (.string (str de)) := ⟨_, rfl⟩
  have BX : Bk W g 23 (numC k ng (str nu) e (str de)) := by
    rw [hW]
    exact Bk.set (Bk.set (Bk.set (Bk.set (Bk.set BY 0 _) 1 _) 2 _) 3 _) 4 _
  have BW : Below w.heap.size w W := by
    rw [hW]
    exact Tn.below BV ((((((Tn.refl g _).set 0 _).set 1 _).set 2 _).set 3 _).set 4 _) (by rw [HG.out]; exact Nat.le_refl _) (Nat.le_refl _)
  obtain ⟨sn, sd, ea, eb⟩ := tame_sizes htm
  have R : refE k (str nu).data.toList e (str de).data.toList = 0 := by rw [str_list, str_list]; exact tame_refs htm
  go_upto_region 2 with fail
  rw [← hW]
  clear hW y0 y1 y2 y3 y4 f0 f1 f2 f3 f4 BY BV htm
  generalize str nu = t at *
  generalize str de = u at *
  have zQ := v_sz ng R (by rw [← Lib.size_eq]; omega) (by rw [← Lib.size_eq]; omega) ea eb
  have hV := fun w => value9_any k ng t e u R (by omega) (by omega) ea eb w
  have hAn := vA_nonneg k t.data.toList e
  have hBp := vB_pos R
  have hab := absR_mk (s := ng) hAn hBp
  have TL := fun {b E : Int} (h : BitsIs k ng t.data.toList e u.data.toList b E) => bits_told h R
  generalize vA k t.data.toList e = A at *
  generalize vB k e u.data.toList = B at *
  have HR : Hid (refE k t.data.toList e u.data.toList = 0) := R
  clear R ea eb
  unfold numC at hV
  have p0 := BX.cell 0 (v := .int .i64 k) rfl
  have p1 := BX.cell 1 (v := .bool ng) rfl
  have p2 := BX.cell 2 (v := .string t) rfl
  have p3 := BX.cell 3 (v := .int .i64 e) rfl
  have p4 := BX.cell 4 (v := .string u) rfl
  go_wp2_with fail
  refine (hV _).mono ?_
  rintro r w2 ⟨sv, v1, v2, rfl, hRv, hb⟩
  obtain ⟨av, nv', cv, bv, mv, dv', rfl, rfl, qv⟩ := hRv.opens
  replace BX := BX.later hb
  replace BW := BW.trans (hb.mono BW.size)
  clear hV hRv hb p0 p1 p2 p3 p4
  go_upto_region 3 with fail
  have tv := st_new w2 (.bool sv) (.slice av nv' cv) (.slice bv mv dv') 27
  have hal := alloc_below (w := w2) (.cells #[.bool sv, .slice av nv' cv, .slice bv mv dv'] 27)
  replace qv := qv.later hal
  replace BX := BX.later hal
  replace BW := BW.trans (hal.mono BW.size)
  generalize w2.alloc (.cells #[.bool sv, .slice av nv' cv, .slice bv mv dv'] 27) = Y at *
  obtain ⟨gv, hgv⟩ : ∃ gv, gv = w2.heap.size := ⟨_, rfl⟩
  rw [← hgv] at tv ⊢
  clear hgv hal
  have hcn : ∀ w', Below Y.heap.size Y w' → w'.cell? ⟨g, 0, none⟩ = some (.int .i64 k) ∧ w'.cell? ⟨g, 1, none⟩ = some (.bool ng) ∧ w'.cell? ⟨g, 2, none⟩ = some (.string t) ∧ w'.cell? ⟨g, 3, none⟩ = some (.int .i64 e) ∧ w'.cell? ⟨g, 4, none⟩ = some (.string u) := fun w' h => ⟨(BX.later h).cell 0 rfl, (BX.later h).cell 1 rfl, (BX.later h).cell 2 rfl, (BX.later h).cell 3 rfl, (BX.later h).cell 4 rfl⟩
  have hcv : ∀ w', Below Y.heap.size Y w' → w'.cell? ⟨gv, 0, none⟩ = some (.bool sv) ∧ w'.cell? ⟨gv, 1, none⟩ = some (.slice av nv' cv) ∧ w'.cell? ⟨gv, 2, none⟩ = some (.slice bv mv dv') := fun w' h => (tv.later h).cells
  have hGl : ∀ w', Below Y.heap.size Y w' → GrVar w' := fun w' h => hG.later (BW.trans (h.mono BW.size))
  have hTl : ∀ w', Below Y.heap.size Y w' → TenVar w' := fun w' h => hT.later (BW.trans (h.mono BW.size))
  have sgv := tv.lt
  clear hG hT tv
  obtain ⟨p0, p1, p2, p3, p4⟩ := hcn Y (Below.refl _ _)
  have hB1 := bits11_any k ng t e u (by omega) (by omega) (hGl Y (Below.refl _ _)) (hTl Y (Below.refl _ _))
  unfold numC at hB1
  go_wp2_with fail
  refine hB1.mono ?_
  rintro r w3 ⟨b, E, rfl, hq, ub, H⟩
  have HQ : Hid (BitsIs k ng t.data.toList e u.data.toList b E) := hq
  clear hq hB1 p0 p1 p2 p3 p4
  have hA := alive11_any (hGl _ H) (hTl _ H)
  go_wp2_with fail
  refine hA.mono ?_
  rintro r w4 ⟨rfl, hb⟩
  replace H := H.trans (hb.mono H.size)
  clear hA hb
  obtain ⟨p0, p1, p2, p3, p4⟩ := hcn w4 H
  go_upto_region 7 with fail
  have BM := Bk.new w4 23 (numC k ng t e u)
  have hal := alloc_below (w := w4) (.cells (numC k ng t e u) 23)
  have kgm := H.size
  replace H := H.trans (hal.mono H.size)
  unfold numC at BM hal H
  generalize w4.alloc (.cells #[.int .i64 k, .bool ng, .string t, .int .i64 e, .string u] 23) = Z at *
  obtain ⟨gm, hgm⟩ : ∃ gm, gm = w4.heap.size := ⟨_, rfl⟩
  rw [← hgm] at BM kgm ⊢
  clear hgm hal p0 p1 p2 p3 p4
  obtain ⟨p0, p1, p2, p3, p4⟩ := hcn Z H
  have m0 := BM.cell 0 (v := .int .i64 k) rfl
  have m1 := BM.cell 1 (v := .bool ng) rfl
  have m2 := BM.cell 2 (v := .string t) rfl
  have m3 := BM.cell 3 (v := .int .i64 e) rfl
  have m4 := BM.cell 4 (v := .string u) rfl
  have f1 := BM.frozen 1
  obtain ⟨W3, hW3⟩ : ∃ W3, W3 = Z.setCell ⟨gm, 1, none⟩ (.bool (!ng)) := ⟨_, rfl⟩
  have H3 : Below Y.heap.size Y W3 := by rw [hW3]; exact Tn.below H ((Tn.refl gm Z).set 1 _) kgm (Nat.le_refl _)
  have hB2 := bits11_any k (!ng) t e u (by omega) (by omega) (hGl _ H3) (hTl _ H3)
  unfold numC at hB2
  go_wp2_with fail
  rw [← hW3]
  refine hB2.mono ?_
  rintro r w6 ⟨c, F, rfl, hq2, uc, hb⟩
  obtain ⟨hEF, hn0, hn7⟩ := bits_neg HQ.out hq2 HR.out
  have H6 := H3.trans (hb.mono H3.size)
  clear hB2 hq2 hb hW3 p0 p1 p2 p3 p4 m0 m1 m2 m3 m4 f1 BM kgm H H3
  subst hEF
  have HC := (BitsIs.codes HQ.out HR.out).1
  go_upto_region 9 with fail
  go_cut [73] (fun v wx => v = .bool false ∧ wx = w6)
  case first =>
    rcases HC with hE | hE
    · subst hE
      have hc := hn0 rfl
      subst hc
      clear hn0 hn7 HQ TL
      have hN := fun w => f6Neg_any ub w
      generalize negW b = nb at *
      go_wp2_with fail
      refine (hN _).mono ?_
      rintro r w7 ⟨rfl, rfl⟩
      clear hN
      go_wp2
      go_meet
      exact ⟨rfl, rfl⟩
    · subst hE
      obtain ⟨hb0, hc0⟩ := hn7 rfl
      subst hb0 hc0
      have hor := or_zero11
      clear hn0 hn7 HQ TL
      go_wp2
      go_meet
      exact ⟨rfl, rfl⟩
  obtain ⟨rfl, hwc⟩ := hcut
  subst hwc
  clear hn0 hn7 uc
  have hM := fun w => nearValue_fin (b := 9218868437227405311) (by unfold U; omega) (by decide) w
  have hL := fun w => nearValue_fin (b := 9218868437227405310) (by unfold U; omega) (by decide) w
  have zX := value_size (b := 9218868437227405311) (by unfold U; omega) (by decide)
  have zZ := value_size (b := 9218868437227405310) (by unfold U; omega) (by decide)
  have hre := reach_ord (N := A) (D := B) hAn hBp (e2_pos 1074)
  rw [← valR_low (b := mostP) (by decide) (by omega), ← valR_low (b := mostP - 1) (by decide) (by omega)] at hre
  have hmo : mostP = 9218868437227405311 := rfl
  have hmp : mostP - 1 = 9218868437227405310 := rfl
  rw [hmp] at hre
  rw [← hab] at hre
  have hre2 : (ordR (absR (mkR ng A B)) (valR 9218868437227405311 + (valR 9218868437227405311 - valR 9218868437227405310) / ((2 : Int) : Rat)) < 0) ↔ 2 * (A * e2 1074) < (numW mostP + nxtN mostP) * B := hre
  clear hre hmp
  generalize valR 9218868437227405311 = VX at *
  generalize valR 9218868437227405310 = VZ at *
  generalize 2 * (A * e2 1074) = LHS at *
  generalize (numW mostP + nxtN mostP) * B = RHS at *
  go_wp2_with fail
  refine (hM _).mono ?_
  rintro r w7 ⟨sx, v1, v2, rfl, hRx, hb⟩
  obtain ⟨ax, nx, cx, bx, mx, dx, rfl, rfl, qx⟩ := hRx.opens
  have H7 := H6.trans (hb.mono H6.size)
  clear hM hRx hb H6
  go_upto_region 12 with fail
  have tx := st_new w7 (.bool sx) (.slice ax nx cx) (.slice bx mx dx) 27
  have hal := alloc_below (w := w7) (.cells #[.bool sx, .slice ax nx cx, .slice bx mx dx] 27)
  replace qx := qx.later hal
  have H8 := H7.trans (hal.mono H7.size)
  generalize w7.alloc (.cells #[.bool sx, .slice ax nx cx, .slice bx mx dx] 27) = y8 at *
  obtain ⟨gx, hgg⟩ : ∃ gx, gx = w7.heap.size := ⟨_, rfl⟩
  rw [← hgg] at tx ⊢
  clear hgg hal H7
  go_wp2_with fail
  refine (hL _).mono ?_
  rintro r w9 ⟨sz, v1, v2, rfl, hRz, hb⟩
  obtain ⟨az, nz, cz, bz, mz, dz, rfl, rfl, qz⟩ := hRz.opens
  have H9 := H8.trans (hb.mono H8.size)
  replace qx := qx.later hb
  replace tx := tx.later hb
  clear hL hRz hb H8
  go_upto_region 13 with fail
  have tz := st_new w9 (.bool sz) (.slice az nz cz) (.slice bz mz dz) 27
  have hal := alloc_below (w := w9) (.cells #[.bool sz, .slice az nz cz, .slice bz mz dz] 27)
  replace qx := qx.later hal
  replace tx := tx.later hal
  replace qz := qz.later hal
  have H10 := H9.trans (hal.mono H9.size)
  generalize w9.alloc (.cells #[.bool sz, .slice az nz cz, .slice bz mz dz] 27) = y10 at *
  obtain ⟨gz, hgg⟩ : ∃ gz, gz = w9.heap.size := ⟨_, rfl⟩
  rw [← hgg] at tz ⊢
  clear hgg hal H9
  have hS := rSub_ok qx qz zX zZ (by omega)
  obtain ⟨x0, x1, x2⟩ := tx.cells
  obtain ⟨j0, j1, j2⟩ := tz.cells
  go_wp2_with fail
  refine hS.mono ?_
  rintro r w11 ⟨ss, v1, v2, rfl, hRs, zS, hb⟩
  obtain ⟨aS, nS, cS, bS, mS, dS, rfl, rfl, qs⟩ := hRs.opens
  have H11 := H10.trans (hb.mono H10.size)
  replace qx := qx.later hb
  replace tx := tx.later hb
  clear hS hRs hb H10 tz qz x0 x1 x2 j0 j1 j2 zZ
  go_upto_region 14 with fail
  have ts := st_new w11 (.bool ss) (.slice aS nS cS) (.slice bS mS dS) 27
  have hal := alloc_below (w := w11) (.cells #[.bool ss, .slice aS nS cS, .slice bS mS dS] 27)
  replace qx := qx.later hal
  replace tx := tx.later hal
  replace qs := qs.later hal
  have H12 := H11.trans (hal.mono H11.size)
  generalize w11.alloc (.cells #[.bool ss, .slice aS nS cS, .slice bS mS dS] 27) = y12 at *
  obtain ⟨gs, hgg⟩ : ∃ gs, gs = w11.heap.size := ⟨_, rfl⟩
  rw [← hgg] at ts ⊢
  clear hgg hal H11
  have hcs : ∀ w1, Below y12.heap.size y12 w1 → w1.cell? ⟨gs, 0, none⟩ = some (.bool ss) ∧ w1.cell? ⟨gs, 1, none⟩ = some (.slice aS nS cS) ∧ w1.cell? ⟨gs, 2, none⟩ = some (.slice bS mS dS) := fun w1 h => (ts.later h).cells
  obtain ⟨x0, x1, x2⟩ := hcs y12 (Below.refl _ _)
  have sA := ts.lt
  have k1 : ¬ gs = y12.heap.size := by omega
  have k2 : ¬ y12.heap.size = gs := by omega
  have fI := fun w1 h => int_at11 (v := 2) (w0 := y12) (w1 := w1) h (by omega) (by omega)
  have zI := sz_int11 (v := 2) (by decide)
  have ne2 : (((2 : Int)) : Rat) ≠ 0 := by decide
  generalize (((2 : Int)) : Rat) = TWO at *
  go_cut [16, 17] from 88 to 93 (fun pv ev wx => ∃ rG sG aG nG cG bG mG dG, pv = .pointer (some ⟨rG, 0, none⟩) ∧ ev = .int .i64 0 ∧ Rt wx sG aG nG cG bG mG dG ((VX - VZ) / TWO) ∧ Sz ((VX - VZ) / TWO) (20 + 20 + 1 + 1) ∧ St wx rG 27 (.bool sG) (.slice aG nG cG) (.slice bG mG dG) ∧ Below y12.heap.size y12 wx)
  case first =>
    go_region_held3 (fun w' => w'.cell? ⟨gs, 0, none⟩ = some (.bool ss) ∧ w'.cell? ⟨gs, 1, none⟩ = some (.slice aS nS cS) ∧ w'.cell? ⟨gs, 2, none⟩ = some (.slice bS mS dS)) (go_keep) (first | (go_at_call 14; refine (fI _ (by first | exact Below.refl _ _ | exact below_drewN (Below.refl _ _) _ | exact (below_drewN (Below.refl _ _) 1).alloc (by simp) _ | exact below_drewN ((Below.refl _ _).alloc (Nat.le_refl _) _) _)).mono ?_; rintro e wI ⟨sI, aI, nI, cI, bI, mI, dI, rfl, hI, hBI, hbI⟩; obtain ⟨x0, x1, x2⟩ := hcs wI hBI; have sI1 := hBI.size; have k3 : ¬ gs = wI.heap.size := (by omega); have k4 : ¬ wI.heap.size = gs := (by omega)) | (go_at_call 13; refine (rDiv_ok (qs.later (by first | exact hBI | exact hBI.alloc hBI.size _)) (by first | exact hI | exact hI.later (alloc_below _)) zS zI (by omega) ne2).mono ?_; rintro e wM ⟨sG, u1, u2, rfl, hRG, zG, hbM⟩; obtain ⟨aG, nG, cG, bG, mG, dG, rfl, rfl, hGG⟩ := hRG.opens; have hBM : Below y12.heap.size y12 wM := (by first | exact hBI.trans (hbM.mono hBI.size) | exact (hBI.alloc hBI.size _).trans (hbM.mono (by simp; omega))); obtain ⟨x0, x1, x2⟩ := hcs wM hBM; have sI2 := hBM.size; have k5 : ¬ gs = wM.heap.size := (by omega); have k6 : ¬ wM.heap.size = gs := (by omega); first | (have tvM := (St.later (w' := wM) (st_new wI (.bool false) (.slice none 0 0) (.slice none 0 0) 27) hbM); obtain ⟨q0, q1, q2⟩ := tvM.cells; obtain ⟨q3, q4, q5⟩ := tvM.frozen) | (have tvM := ((St.drew (st_new y12 (.bool false) (.slice none 0 0) (.slice none 0 0) 27)).later hbI).later hbM; obtain ⟨q0, q1, q2⟩ := tvM.cells; obtain ⟨q3, q4, q5⟩ := tvM.frozen) | (have tvM := ((st_new (y12.drew) (.bool false) (.slice none 0 0) (.slice none 0 0) 27).later hbI).later hbM; obtain ⟨q0, q1, q2⟩ := tvM.cells; obtain ⟨q3, q4, q5⟩ := tvM.frozen) | skip))
    all_goals (go_wp2_with fail)
    all_goals (go_meet)
    all_goals first | exact ⟨wM.heap.size, sG, aG, nG, cG, bG, mG, dG, rfl, rfl, hGG.later (alloc_below _), zG, st_new wM _ _ _ _, hBM.alloc hBM.size _⟩ | exact ⟨_, sG, aG, nG, cG, bG, mG, dG, rfl, rfl, RtO_rt (hRG.inn (in3 _ _ _ _ _) (by first | (simp; done) | (have := hbI.size; simp at this ⊢; omega))), zG, tvM.set _ _ _, below_in hBM (in3 _ _ _ _ _) (by first | exact Nat.le_refl _ | exact hBI.size | omega) (Nat.le_refl _)⟩
  obtain ⟨gh, sh, ah, nh, ch, bh, mh, dh, rfl, rfl, qh, zH, th, hb⟩ := hcut
  obtain ⟨wH, hwH⟩ : ∃ wH, wH = wc := ⟨_, rfl⟩
  subst hwH
  have H13 := H12.trans (hb.mono H12.size)
  replace qx := qx.later hb
  replace tx := tx.later hb
  clear hcs x0 x1 x2 sA k1 k2 fI zI ne2 ts qs hb H12 zS
  have hS := rAdd_ok qx qh zX zH (by omega)
  obtain ⟨x0, x1, x2⟩ := tx.cells
  obtain ⟨j0, j1, j2⟩ := th.cells
  go_wp2_with fail
  refine hS.mono ?_
  rintro r w14 ⟨sr, v1, v2, rfl, hRr, zR, hb⟩
  obtain ⟨ar, nr, cr, br, mr, dr, rfl, rfl, qr⟩ := hRr.opens
  have H14 := H13.trans (hb.mono H13.size)
  clear hS hRr hb H13 tx th qx qh x0 x1 x2 j0 j1 j2 zX zH
  go_upto_region 18 with fail
  have tr := st_new w14 (.bool sr) (.slice ar nr cr) (.slice br mr dr) 27
  have hal := alloc_below (w := w14) (.cells #[.bool sr, .slice ar nr cr, .slice br mr dr] 27)
  replace qr := qr.later hal
  have H15 := H14.trans (hal.mono H14.size)
  generalize w14.alloc (.cells #[.bool sr, .slice ar nr cr, .slice br mr dr] 27) = y15 at *
  obtain ⟨gr, hgg⟩ : ∃ gr, gr = w14.heap.size := ⟨_, rfl⟩
  rw [← hgg] at tr ⊢
  clear hgg hal H14
  generalize VX + (VX - VZ) / TWO = RE at *
  obtain ⟨K, hK⟩ : ∃ K, ordR (absR (mkR ng A B)) RE = K := ⟨_, rfl⟩
  rw [hK] at hre2
  have hcr : ∀ w1, Below y15.heap.size y15 w1 → (w1.cell? ⟨gv, 0, none⟩ = some (.bool sv) ∧ w1.cell? ⟨gv, 1, none⟩ = some (.slice av nv' cv) ∧ w1.cell? ⟨gv, 2, none⟩ = some (.slice bv mv dv')) ∧ (w1.cell? ⟨gr, 0, none⟩ = some (.bool sr) ∧ w1.cell? ⟨gr, 1, none⟩ = some (.slice ar nr cr) ∧ w1.cell? ⟨gr, 2, none⟩ = some (.slice br mr dr)) := fun w1 h => ⟨hcv w1 (H15.trans (h.mono H15.size)), (tr.later h).cells⟩
  obtain ⟨⟨x0, x1, x2⟩, ⟨j0, j1, j2⟩⟩ := hcr y15 (Below.refl _ _)
  have hCm := fun {w1 : World} (h : Below y15.heap.size y15 w1) => rCmp_ok (Rt_abs (qv.later (H15.trans (h.mono H15.size)))) (qr.later h) (Sz_abs zQ) zR (by omega) hK
  go_wp2_with fail
  go_region_held3 (fun w' => w'.cell? ⟨gv, 0, none⟩ = some (.bool sv) ∧ w'.cell? ⟨gv, 1, none⟩ = some (.slice av nv' cv) ∧ w'.cell? ⟨gv, 2, none⟩ = some (.slice bv mv dv') ∧ w'.cell? ⟨gr, 0, none⟩ = some (.bool sr) ∧ w'.cell? ⟨gr, 1, none⟩ = some (.slice ar nr cr) ∧ w'.cell? ⟨gr, 2, none⟩ = some (.slice br mr dr)) (go_keep) (first | (go_at_call 17; refine (size_at (w0 := y15) (by first | exact Below.refl _ _ | exact below_drewN (Below.refl _ _) _)).mono ?_; rintro r wA ⟨rfl, hBA, hbA⟩; obtain ⟨⟨x0, x1, x2⟩, ⟨j0, j1, j2⟩⟩ := hcr wA hBA) | (go_at_call 16; refine (hCm hBA).mono ?_; rintro r wB ⟨rfl, hbB⟩; have hBB := hBA.trans (hbB.mono hBA.size); obtain ⟨⟨x0, x1, x2⟩, ⟨j0, j1, j2⟩⟩ := hcr wB hBB))
  have H16 := H15.trans (hBB.mono H15.size)
  clear hCm hK hcr x0 x1 x2 j0 j1 j2 tr qr zR hBA hbA hBB hbB H15
  rcases TL HQ.out with ⟨hE, over⟩ | ⟨hE, under, m, m0, m1, hbm, hz, up, dn⟩
  · subst hE
    have hk : ¬ K < 0 := fun q => by have := hre2.mp q; omega
    have t1 : decide (K ≥ 0) = true := by simp; omega
    have t1' : decide (0 ≤ K) = true := by simp; omega
    have HB := BW.trans (H16.mono BW.size)
    clear TL HQ hre2 over HC
    go_wp2
    go_ret
    exact ⟨rfl, HB⟩
  · subst hE
    have hk : K < 0 := hre2.mpr under
    have t1 : decide (K ≥ 0) = false := by simp; omega
    have t1' : decide (0 ≤ K) = false := by simp; omega
    obtain ⟨so, sg'⟩ := sign_off (ng := ng) m0 m1
    rw [← hbm] at so sg'
    have sg2 : decide (b ≥ 9223372036854775808) = ng := sg'
    obtain ⟨um, fm, _⟩ := size_fin m0 m1
    have hcm : ∀ w', Below wB.heap.size wB w' → w'.cell? ⟨g, 1, none⟩ = some (.bool ng) ∧ (w'.cell? ⟨gv, 0, none⟩ = some (.bool sv) ∧ w'.cell? ⟨gv, 1, none⟩ = some (.slice av nv' cv) ∧ w'.cell? ⟨gv, 2, none⟩ = some (.slice bv mv dv')) := fun w' h => ⟨(hcn w' (H16.trans (h.mono H16.size))).2.1, hcv w' (H16.trans (h.mono H16.size))⟩
    obtain ⟨p1, x0, x1, x2⟩ := hcm wB (Below.refl _ _)
    obtain ⟨K0, hK0⟩ : ∃ K0, sgnR (mkR ng A B) = K0 := ⟨_, rfl⟩
    have hSg := rSign_any (qv.later H16) (by have := (qv.later H16).le zQ; omega) hK0
    have h00 := mkR_num0 (s := ng) hAn hBp
    rw [hK0] at h00
    have qw := qv.later H16
    have zA := Sz_abs zQ
    rw [hab] at zA
    have hwp : IntKind.u64.wrap (m + 1) = m + 1 := by rw [wrapU]; unfold mostP at m1; omega
    have tle : decide (m ≤ 9218868437227405311) = true := by unfold mostP at m1; simp; omega
    have HS : Hid (decide (9223372036854775808 ≤ b) = ng) := sg'
    clear TL HQ hre2 under HC hk hmo sg' sg2 hbm
    go_upto_region 23 with fail
    go_cut [139] (fun v wx => v = .bool false ∧ wx = wB)
    case first =>
      clear so up dn hSg hcm zA
      go_wp2
      go_meet
      exact ⟨by first | (rw [HS.out]; simp; done) | (simp; exact HS.out), rfl⟩
    obtain ⟨rfl, hwc⟩ := hcut
    subst hwc
    by_cases hA0 : A = 0
    · have hk0 : K0 = 0 := h00.mpr hA0
      have hm0 := hz hA0
      have tmz : (m == 0) = true := by simp [hm0]
      subst hk0
      clear hz up dn hm0 hA0 h00
      go_wp2_with fail
      refine hSg.mono ?_
      rintro r wS ⟨rfl, hb⟩
      have H17 := H16.trans (hb.mono H16.size)
      have HB := BW.trans (H17.mono BW.size)
      clear hSg hb
      go_wp2
      go_ret
      exact ⟨rfl, HB⟩
    · have hk0 : (K0 == 0) = false := by
        have : K0 ≠ 0 := fun q => hA0 (h00.mp q)
        simp [this]
      clear hz h00 hA0
      go_wp2_with fail
      refine hSg.mono ?_
      rintro r wS ⟨rfl, hb⟩
      have H17 := H16.trans (hb.mono H16.size)
      obtain ⟨p1, x0, x1, x2⟩ := hcm wS hb
      clear hSg hb
      go_wp2_with fail
      refine (size11_any sv av bv nv' cv mv dv' wS).mono ?_
      rintro r wT ⟨rfl, hb⟩
      have H18 := H17.trans (hb.mono H17.size)
      have qW := Rt_abs (qv.later H18)
      rw [hab] at qW
      clear hb x0 x1 x2 p1 hcm
      go_upto_region 28 with fail
      have tw := st_new wT (.bool false) (.slice av nv' cv) (.slice bv mv dv') 27
      have hal := alloc_below (w := wT) (.cells #[.bool false, .slice av nv' cv, .slice bv mv dv'] 27)
      replace qW := qW.later hal
      have H20 := H18.trans (hal.mono H18.size)
      generalize wT.alloc (.cells #[.bool false, .slice av nv' cv, .slice bv mv dv'] 27) = y20 at *
      obtain ⟨gw, hgg⟩ : ∃ gw, gw = wT.heap.size := ⟨_, rfl⟩
      rw [← hgg] at tw ⊢
      clear hgg hal H18
      have tw0 := tw.cells
      obtain ⟨x0, x1, x2⟩ := tw0
      have HB := BW.trans (H20.mono BW.size)
      by_cases hm : m = 0
      · have t5 : decide (m > 0) = false := by simp; omega
        have t5' : decide (0 < m) = false := by simp; omega
        have hlt : m < mostP := by unfold mostP; omega
        have t6 : (m == 9218868437227405311) = false := by unfold mostP at hlt; simp; omega
        obtain ⟨uc, fc, _⟩ := size_fin (p := m + 1) (by omega) (by omega)
        have hF := farther11_any um fm uc fc qW zA (by omega) (up hlt)
        clear up dn hm
        go_wp2_with fail
        refine hF.mono ?_
        rintro r wU ⟨rfl, hb⟩
        have HB2 := HB.trans (hb.mono HB.size)
        clear hF hb
        go_wp2
        go_ret
        exact ⟨rfl, HB2⟩
      · have t5 : decide (m > 0) = true := by simp; omega
        have t5' : decide (0 < m) = true := by simp; omega
        have hwm : IntKind.u64.wrap (m - 1) = m - 1 := by rw [wrapU]; unfold mostP at m1; omega
        obtain ⟨ud, fd, _⟩ := size_fin (p := m - 1) (by omega) (by omega)
        have hF := farther11_any um fm ud fd qW zA (by omega) (dn hm)
        clear dn
        go_wp2_with fail
        refine hF.mono ?_
        rintro r wU ⟨rfl, hb⟩
        have HB2 := HB.trans (hb.mono HB.size)
        obtain ⟨x0, x1, x2⟩ := (tw.later hb).cells
        have qU := qW.later hb
        clear hF hb
        by_cases hlt : m < mostP
        · have t6 : (m == 9218868437227405311) = false := by unfold mostP at hlt; simp; omega
          obtain ⟨uc, fc, _⟩ := size_fin (p := m + 1) (by omega) (by omega)
          have hF2 := farther11_any um fm uc fc qU zA (by omega) (up hlt)
          clear up
          go_wp2_with fail
          refine hF2.mono ?_
          rintro r wV ⟨rfl, hb⟩
          have HB3 := HB2.trans (hb.mono HB2.size)
          clear hF2 hb
          go_wp2
          go_ret
          exact ⟨rfl, HB3⟩
        · have t6 : (m == 9218868437227405311) = true := by unfold mostP at hlt m1; simp; omega
          clear up
          go_wp2
          go_ret
          exact ⟨rfl, HB2⟩
end Go.Proofs.YtjeoiffloghonabGreatDoor


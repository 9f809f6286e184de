/-
  THE SHELL OF A PROOF OF 'Rows.NatFreshSaid' ('plumb/plumblaw02.NatFresh'), WRITTEN BY PROGRAM (proof-skeleton.mjs, third state) off the guide's own print for that function. Not trusted: Lean checks it.
  YOURS IS THE HOLE MARKED 'HOLE' (it bears 'sorry'). ALL ELSE IS THE GUIDE's OWN WAY (howto/template/XProofs.lean; Derived/Test/ChunkProofs.lean for 'Below') at this function's number and types: leave it.
-/
import Derived.Test.YthigofcbmgheeabRows
import Derived.WalkKit
import Derived.ProofKit
import Derived.OpenShut
import Derived.ShutString
import Derived.WalkLawsBesides
import Derived.WalkSpells
import Derived.Deep.RegionWith
import Derived.Deep.DeepCutAuto
import Derived.Deep.DeepFit
import Derived.Test.YthigofcbmgheeabFreshMain
import Derived.ChangeOld
import Derived.Below
namespace Go.Proofs.Ythigofcbmgheeab.natFresh
open Go.ChangeShapes Go.WideShapes Go.ChangeAt Go.RowKit
open Go.ChangeMaps (open_string shut_string)
set_option linter.unusedVariables false

theorem own : ownKnob Try.prog.godebug = none := by kernel_rfl
theorem laidOut : laidOutB Try.prog = true := by kernel_rfl

/-- WHAT THE WALK IS TOLD OF A SLICE OF INTEGERS THAT CAME IN: it is nil; or it leads to a row of 'cap' cells, the numbers 'zs' (the first 'len' are its elements, the rest its spare room), each fitting its kind. -/
def IsRow (k : IntKind) (w : World) (a : Option Addr) (len cap : Nat) (zs : List Int) : Prop :=
  (a = none ∧ len = 0 ∧ cap = 0 ∧ zs = []) ∨
  ∃ x, a = some x ∧ len ≤ cap ∧ cap ≤ maxLen ∧ zs.length = cap ∧ (∀ i, i < zs.length → w.cell? (x.add i) = some (.int k (zs.getD i 0))) ∧ ∀ n ∈ zs, (Lit.int k n).wf = true

open Na Ar
/-! ### STEP 1: THE WALK: the Go text returns true, AND WRITES NOTHING THAT WAS THERE: 'Below w.heap.size w w'' (Derived/Below.lean: '.refl', '.alloc', '.drew', '.setCell' at a new block, '.trans'). Open each 'IsRow' by 'rcases' AHEAD of 'go_enter'; part every test ahead of the walk. -/
set_option maxHeartbeats 6000000 in
set_option maxRecDepth 100000 in
theorem walk (a0 : Option Addr) (len0 cap0 : Nat) (z0 : List Int) (a1 : Option Addr) (len1 cap1 : Nat) (z1 : List Int) (a2 : Int) (w : World) (w0 : IsRow .u64 w a0 len0 cap0 z0) (w1 : IsRow .u64 w a1 len1 cap1 z1) (w2 : (Lit.int .i64 a2).wf = true) :
    Calls Try.prog 4 #[.slice a0 len0 cap0, .slice a1 len1 cap1, .int .i64 a2] w fun e w' => e = .returned (.bool true) ∧ Below w.heap.size w w' := by
  have b2 := bounds_i64 w2
  clear w2
  have q0 := row_of w0
  obtain ⟨hr0, hx0, hm0⟩ := q0
  have q1 := row_of w1
  obtain ⟨hr1, hx1, hm1⟩ := q1
  clear w0 w1
  generalize z0.take len0 = x0 at *
  generalize z1.take len1 = x1 at *
  have B_0 := Below.refl w.heap.size w
  go_enter Try.func4, Try.ntmps4
  go_wp2_with fail
  refine (cutQ hr0 hx0 hm0).mono ?_
  rintro e w1' ⟨ca1, cn1, cc1, X, rfl, cr1, cm1, ct1, cl1, _, hb1⟩
  have hr1_1 := hr1.later hb1
  have B_1 := B_0.trans (hb1.mono B_0.size)
  clear hr0 hr1 B_0 hb1
  go_wp2_with fail
  refine (cutQ hr1_1 hx1 hm1).mono ?_
  rintro e w2' ⟨ca2, cn2, cc2, Y, rfl, cr2, cm2, ct2, cl2, _, hb2⟩
  have cr1_2 := cr1.later hb2
  have B_2 := B_1.trans (hb2.mono B_1.size)
  clear hr1_1 cr1 B_1 hb2 hx0 hx1 hm0 hm1
  have i2 := fun w => into_any a2 200 (by have := b2.1; omega) (by have := b2.2; omega) (by omega) (by omega) w
  clear b2
  go_wp2_with fail
  refine (i2 _).mono ?_
  rintro e w' ⟨t, rfl, ht, rfl⟩
  clear i2
  go_wp2_with fail
  refine (alive_any _).mono ?_
  rintro e w3 ⟨rfl, hb3⟩
  have cr1_3 := cr1_2.later hb3
  have cr2_3 := cr2.later hb3
  have B_3 := B_2.trans (hb3.mono B_2.size)
  clear cr1_2 cr2 B_2 hb3
  have HX : Hid (X.length = cn1) := cr1_3.1.1
  have HY : Hid (Y.length = cn2) := cr2_3.1.1
  have wX := cm1.ws
  have wY := cm2.ws
  go_wp2_with fail
  refine (roomy_any cr1_3 (by omega)).mono ?_
  rintro e w4 ⟨v4, rfl, V4, hb4⟩
  obtain ⟨gv, cv, hv4, hcv1, hcv2, hgv1, hgv2⟩ := room_some V4 HX.out
  subst hv4
  have V4' := V4.wider B_3.size
  have cr1_4 := cr1_3.later hb4
  have cr2_4 := cr2_3.later hb4
  have B_4 := B_3.trans (hb4.mono B_3.size)
  have gv0 : w.heap.size ≤ gv := Nat.le_trans B_3.size hgv1
  clear cr1_3 cr2_3 B_3 hb4 V4 hgv1
  go_wp2_with fail
  refine (roomy_any cr2_4 (by omega)).mono ?_
  rintro e w5 ⟨v5, rfl, W5, hb5⟩
  obtain ⟨gw, cw, hv5, hcw1, hcw2, hgw1, hgw2⟩ := room_some W5 HY.out
  subst hv5
  have V5 := V4'.later hb5
  have W5' := W5.wider B_4.size
  have cr1_5 := cr1_4.later hb5
  have cr2_5 := cr2_4.later hb5
  have hgvw : gv < gw := by omega
  have gv5 : gv < w5.heap.size := by omega
  have gw0 : w.heap.size ≤ gw := by omega
  have B_5 := B_4.trans (hb5.mono B_4.size)
  clear cr1_4 cr2_4 B_4 hb5 V4' W5 hgw1 hgv2
  unfold maxLen at hcv2 hcw2
  go_wp2
  go_quiet (fail)
  go_wp2_with fail
  have bd6 := below_drewN (Below.refl w5.heap.size w5) nq
  obtain ⟨w6, hw6⟩ : ∃ w6, w6 = w5.drewN nq := ⟨_, rfl⟩
  rw [← hw6] at bd6
  rw [← hw6]
  have V6 := V5.later bd6
  have W6 := W5'.later bd6
  have X6 := cr1_5.later bd6
  have Y6 := cr2_5.later bd6
  have B_6 := B_5.trans (bd6.mono B_5.size)
  have gv6 : gv < w6.heap.size := by have := bd6.size; omega
  have gw6 : gw < w6.heap.size := by have := bd6.size; omega
  have D_6 := Below.refl w6.heap.size w6
  have M6 := (room_mine V6 HX.out).rowJ HX.out.symm
  have O6 := (room_mine W6 HY.out).rowJ HY.out.symm
  have RV6 := V6.rowJ (by rw [room_len, HX.out])
  have RW6 := W6.rowJ (by rw [room_len, HY.out])
  clear V5 W5' cr1_5 cr2_5 B_5 gv5 hgw2 bd6 hw6
  refine (answersA M6 O6 cm1 cm2 ct1 ct2 ht).mono ?_
  rintro e w7 ⟨g1, us1, rfl, A1, hb7⟩
  have D_7 := D_6.trans (hb7.mono D_6.size)
  have g7 := cells_lt A1.1
  clear hb7 D_6
  go_wp2_with fail
  refine (answersA (M6.later D_7) (O6.later D_7) cm1 cm2 ct1 ct2 ht).mono ?_
  rintro e w8 ⟨g2, us2, rfl, A2, hb8⟩
  have A1_8 := A1.later hb8
  have D_8 := D_7.trans (hb8.mono D_7.size)
  have s7 := D_7.size
  clear hb8 D_7 A1
  go_wp2_with fail
  refine (asWas_any (RV6.later D_8) (X6.later D_8) (by omega)).mono ?_
  rintro e w9 ⟨rfl, hb9⟩
  have A1_9 := A1_8.later hb9
  have A2_9 := A2.later hb9
  have D_9 := D_8.trans (hb9.mono D_8.size)
  clear hb9 D_8 A1_8 A2
  go_wp2_with fail
  refine (asWas_any (RW6.later D_9) (Y6.later D_9) (by omega)).mono ?_
  rintro e w10 ⟨rfl, hb10⟩
  have A1_10 := A1_9.later hb10
  have A2_10 := A2_9.later hb10
  have D_10 := D_9.trans (hb10.mono D_9.size)
  clear hb10 D_9 A1_9 A2_9
  have HP : Hid (∀ q, q < 16 → ∃ a n c b d, n ≤ 10000 ∧ w10.cell? ⟨g1, q, none⟩ = some (.slice a n c) ∧ w10.cell? ⟨g2, q, none⟩ = some (.slice b n d) ∧ RowC w10 a n c ((ansL (num X) (num Y) t).getD q []) ∧ RowC w10 b n d ((ansL (num X) (num Y) t).getD q [])) := fun q hq => A1_10.pair A2_10 ct1 ct2 ht hq
  go_wp2
  go_loopw [15] (fun i wz => ∃ q d : Nat, i = .int .i64 q ∧ q ≤ 16 ∧ wz = w10.drewN d) (fun i _ => 16 - (intOf i).toNat)
  case atStart => exact ⟨0, 0, rfl, by omega, rfl⟩
  case round =>
    obtain ⟨q, d, rfl, hq, rfl⟩ := hrel
    by_cases hlt : q < 16
    · obtain ⟨pa, pn, pc, pb, pd, hpn, z1, z2, r1, r2⟩ := HP.out q hlt
      have hq16 : (q : Int) < 16 := by omega
      have hsq := fun (k : Nat) => same_drew (c1 := pc) (c2 := pd) (w := w10) (r1.1) (r2.1) (by omega) k
      obtain ⟨PN, hPN, hPW⟩ := ans_words cm1.nonneg cm2.nonneg (t := t) hlt
      rw [hPW] at r1
      have hnq := fun (k : Nat) => normal_same (w := w10.drewN k) (r1.later (below_drewN (Below.refl _ _) k)) hPN hpn
      clear r1 r2 hPW
      go_wp2
      go_quiet (first | (go_at_call 23; exact (hsq _).mono (fun _ _ h => ⟨h.1, drew_past h.2⟩)) | (go_at_call 24; exact (hnq _).mono (fun _ _ h => ⟨h.1, drew_past ⟨0, h.2⟩⟩)))
      go_wp2
      go_roundw
      case rel => exact ⟨q + 1, _, by go_num, by omega, rfl⟩
      case measure => simp [intOf]; omega
    · have bd := below_drewN (Below.refl w10.heap.size w10) d
      obtain ⟨w11, hw11⟩ : ∃ w11, w11 = w10.drewN d := ⟨_, rfl⟩
      rw [← hw11] at bd
      have A1_11 := A1_10.later bd
      have A2_11 := A2_10.later bd
      have D_11 := D_10.trans (bd.mono D_10.size)
      clear HP A1_10 A2_10 D_10 bd
      go_wp2_with fail
      rw [← hw11]
      clear hw11
      refine (markedA A1_11 ct1 ct2 ht).mono ?_
      rintro e w12 ⟨ka, kn, kc, rfl, K12, I12⟩
      have A2_12 := A2_11.inn I12 (by omega)
      have D_12 := D_11.trans (I12.below D_11.size)
      clear A1_11 A2_11 D_11 I12
      have al := alloc_below (w := w12) (.cells #[.slice (some ⟨g1, 0, none⟩) 16 16, .slice ka kn kc] 45)
      have S13 : Sk (w12.alloc (.cells #[.slice (some ⟨g1, 0, none⟩) 16 16, .slice ka kn kc] 45)) w12.heap.size (.slice (some ⟨g1, 0, none⟩) 16 16) (.slice ka kn kc) := heap_alloc_new _ _
      go_wp2_with fail
      generalize w12.alloc (.cells #[.slice (some ⟨g1, 0, none⟩) 16 16, .slice ka kn kc] 45) = w13 at *
      have K13 := K12.later al
      have A2_13 := A2_12.later al
      have D_13 := D_12.trans (al.mono D_12.size)
      obtain ⟨gk, hgk⟩ : ∃ gk, gk = w12.heap.size := ⟨_, rfl⟩
      have hgk6 : w6.heap.size ≤ gk := by have := D_12.size; omega
      rw [← hgk] at S13
      rw [← hgk]
      clear K12 A2_12 D_12 al hgk
      refine (answersA (M6.later D_13) (O6.later D_13) cm1 cm2 ct1 ct2 ht).mono ?_
      rintro e w14 ⟨g3, us3, rfl, A3, hb14⟩
      have F14 : Af w14 w6.heap.size g1 gk g2 g3 (.slice ka kn kc) us2 us3 (ansL (num X) (num Y) t) := ⟨K13.later hb14, S13.later hb14, hgk6, _, _, s7, D_13.size, A2_13.later hb14, A3⟩
      have D_14 := D_13.trans (hb14.mono D_13.size)
      clear hb14 D_13 K13 S13 A2_13 A3
      go_wp2_with fail
      refine (asWas_any (RV6.later D_14) (X6.later D_14) (by omega)).mono ?_
      rintro e w15 ⟨rfl, hb15⟩
      have F15 := F14.later hb15
      have D_15 := D_14.trans (hb15.mono D_14.size)
      clear hb15 D_14 F14
      go_wp2_with fail
      refine (asWas_any (RW6.later D_15) (Y6.later D_15) (by omega)).mono ?_
      rintro e w16 ⟨rfl, hb16⟩
      have F16 := F15.later hb16
      have D_16 := D_15.trans (hb16.mono D_15.size)
      clear hb16 D_15 F15
      have S16 : w16.heap[gk]? = some (.cells #[.slice (some ⟨g1, 0, none⟩) 16 16, .slice ka kn kc] 45 (0, 0)) := F16.2.1
      have k0 : w16.cell? ⟨gk, 0, none⟩ = some (.slice (some ⟨g1, 0, none⟩) 16 16) := by simp [World.cell?, S16]
      have k1 : w16.cell? ⟨gk, 1, none⟩ = some (.slice ka kn kc) := by simp [World.cell?, S16]
      go_wp2_with fail
      clear k0 k1 S16
      refine (whole_any F16.1).mono ?_
      rintro e w17 ⟨rfl, hb17⟩
      have F17 := F16.later hb17
      have D_17 := D_16.trans (hb17.mono D_16.size)
      have B_17 := B_6.trans (D_17.mono B_6.size)
      have V17 := V6.later D_17
      have W17 := W6.later D_17
      have HVL : Hid ((roomL X).length = cn1 + 70) := by show _ = _; rw [room_len, HX.out]
      have HWL : Hid ((roomL Y).length = cn2 + 70) := by show _ = _; rw [room_len, HY.out]
      have wV := ws_room wX
      have wW := ws_room wY
      clear hb17 D_16 F16 D_17 B_6 V6 W6 M6 O6 RV6 RW6 X6 Y6 s7 g7
      go_wp2
      clear hlt hq
      go_loopw [18] (fun i wr => ∃ (q : Nat) (us : List Int), i = .int .i64 q ∧ q ≤ cn1 + 70 ∧ Own .u64 wr w.heap.size 47 (.slice (some ⟨gv, 0, none⟩) (cn1 + 70) cv) us ∧ Hid (us.length = cn1 + 70) ∧ Ws us ∧ Own .u64 wr w.heap.size 47 (.slice (some ⟨gw, 0, none⟩) (cn2 + 70) cw) (roomL Y) ∧ Af wr w6.heap.size g1 gk g2 g3 (.slice ka kn kc) us2 us3 (ansL (num X) (num Y) t) ∧ Below w.heap.size w wr) (fun i _ => cn1 + 70 - (intOf i).toNat)
      case atStart => exact ⟨0, _, rfl, by omega, V17, HVL, wV, W17, F17, B_17⟩
      case round =>
        obtain ⟨q2, us, rfl, hq2, hou, hul, hwu, hwo, hF, hnx⟩ := hrel
        clear V17 HVL wV W17 F17 B_17
        by_cases hlt2 : q2 < cn1 + 70
        · have hlu : cn1 + 70 = us.length := hul.out.symm
          have hce := hou.cellAt hlu (j := q2) (by omega)
          have hfz := hou.frozenAt hlu q2
          have hO := hou.set hlu q2 3
          have hW : Ws (us.set q2 3) := hwu.set _ (by omega)
          have hWO := hwo.other (k := q2) (g := gv) (by simp only [Value.ownBlock, ne_eq, Option.some.injEq]; omega) (.int .u64 3)
          have hF2 := hF.low (k := q2) gv6 (.int .u64 3)
          have HL : Hid ((us.set q2 3).length = cn1 + 70) := by show _ = _; rw [List.length_set]; exact hul.out
          have hlt3 : (q2 : Int) < (cn1 : Int) + 70 := by omega
          generalize us.getD q2 0 = u at *
          clear hou hlu hwo hF hwu
          go_wp2
          go_roundw
          case rel => exact ⟨q2 + 1, _, by go_num, by omega, hO, HL, hW, hWO, hF2, hnx.setCell gv0 _⟩
          case measure => simp [intOf]; omega
        · have hlt3 : ¬ (q2 : Int) < (cn1 : Int) + 70 := by omega
          go_wp2
          clear hlt2 hlt3 hq2
          go_loopw [19] (fun i wr => ∃ (q : Nat) (ls : List Int), i = .int .i64 q ∧ q ≤ cn2 + 70 ∧ Own .u64 wr w.heap.size 47 (.slice (some ⟨gw, 0, none⟩) (cn2 + 70) cw) ls ∧ Hid (ls.length = cn2 + 70) ∧ Ws ls ∧ Own .u64 wr w.heap.size 47 (.slice (some ⟨gv, 0, none⟩) (cn1 + 70) cv) us ∧ Af wr w6.heap.size g1 gk g2 g3 (.slice ka kn kc) us2 us3 (ansL (num X) (num Y) t) ∧ Below w.heap.size w wr) (fun i _ => cn2 + 70 - (intOf i).toNat)
          case atStart => exact ⟨0, _, rfl, by omega, hwo, HWL, wW, hou, hF, hnx⟩
          case round =>
            obtain ⟨q3, ls, rfl, hq3, hol, hll, hwl, hov, hG, hny⟩ := hrel
            clear hwo HWL wW hou hF hnx
            by_cases hlt4 : q3 < cn2 + 70
            · have hlu : cn2 + 70 = ls.length := hll.out.symm
              have hce := hol.cellAt hlu (j := q3) (by omega)
              have hfz := hol.frozenAt hlu q3
              have hO := hol.set hlu q3 4
              have hW : Ws (ls.set q3 4) := hwl.set _ (by omega)
              have hVO := hov.other (k := q3) (g := gw) (by simp only [Value.ownBlock, ne_eq, Option.some.injEq]; omega) (.int .u64 4)
              have hG2 := hG.low (k := q3) gw6 (.int .u64 4)
              have HL : Hid ((ls.set q3 4).length = cn2 + 70) := by show _ = _; rw [List.length_set]; exact hll.out
              have hlt5 : (q3 : Int) < (cn2 : Int) + 70 := by omega
              generalize ls.getD q3 0 = u at *
              clear hol hlu hov hG hwl
              go_wp2
              go_roundw
              case rel => exact ⟨q3 + 1, _, by go_num, by omega, hO, HL, hW, hVO, hG2, hny.setCell gw0 _⟩
              case measure => simp [intOf]; omega
            · have hlt5 : ¬ (q3 : Int) < (cn2 : Int) + 70 := by omega
              obtain ⟨w18, hw18⟩ : ∃ w18, w18 = wr := ⟨_, rfl⟩
              subst hw18
              go_wp2
              clear hlt4 hlt5 hq3
              obtain ⟨G1, G2, G3, lo2, lo3, G4, G5, G6, G7⟩ := hG
              have HP : Hid (∀ q, q < 16 → ∃ a n c b d, n ≤ 10000 ∧ w18.cell? ⟨g3, q, none⟩ = some (.slice a n c) ∧ w18.cell? ⟨g2, q, none⟩ = some (.slice b n d) ∧ RowC w18 a n c ((ansL (num X) (num Y) t).getD q []) ∧ RowC w18 b n d ((ansL (num X) (num Y) t).getD q [])) := fun q hq => G7.pair G6 ct1 ct2 ht hq
              clear G6 G7
              go_loopw [20] (fun i wz => ∃ q d : Nat, i = .int .i64 q ∧ q ≤ 16 ∧ wz = w18.drewN d) (fun i _ => 16 - (intOf i).toNat)
              case atStart => exact ⟨0, 0, rfl, by omega, rfl⟩
              case round =>
                obtain ⟨q4, d4, rfl, hq4, rfl⟩ := hrel
                by_cases hlt6 : q4 < 16
                · obtain ⟨pa, pn, pc, pb, pd, hpn, z1, z2, r1, r2⟩ := HP.out q4 hlt6
                  have hq16 : (q4 : Int) < 16 := by omega
                  have hsq := fun (k : Nat) => same_drew (c1 := pc) (c2 := pd) (w := w18) (r1.1) (r2.1) (by omega) k
                  clear r1 r2
                  go_wp2
                  go_quiet ((go_at_call 23; exact (hsq _).mono (fun _ _ h => ⟨h.1, drew_past h.2⟩)))
                  go_wp2
                  go_roundw
                  case rel => exact ⟨q4 + 1, _, by go_num, by omega, rfl⟩
                  case measure => simp [intOf]; omega
                · have bd := below_drewN (Below.refl w18.heap.size w18) d4
                  have S18 : w18.heap[gk]? = some (.cells #[.slice (some ⟨g1, 0, none⟩) 16 16, .slice ka kn kc] 45 (0, 0)) := G2
                  have k0 : w18.cell? ⟨gk, 0, none⟩ = some (.slice (some ⟨g1, 0, none⟩) 16 16) := by simp [World.cell?, S18]
                  have k1 : w18.cell? ⟨gk, 1, none⟩ = some (.slice ka kn kc) := by simp [World.cell?, S18]
                  obtain ⟨w19, hw19⟩ : ∃ w19, w19 = w18.drewN d4 := ⟨_, rfl⟩
                  rw [← hw19] at bd
                  have K19 := G1.later bd
                  have V19 := hov.later bd
                  have W19 := hol.later bd
                  have B_19 := hny.trans (bd.mono hny.size)
                  clear HP G1 G2 hov hol hny bd S18
                  go_wp2_with fail
                  rw [← hw19]
                  clear hw19 k0 k1
                  refine (whole_any K19).mono ?_
                  rintro e w20 ⟨rfl, hb20⟩
                  have V20 := V19.later hb20
                  have W20 := W19.later hb20
                  have B_20 := B_19.trans (hb20.mono B_19.size)
                  clear K19 V19 W19 B_19 hb20
                  go_wp2_with fail
                  have mV := own_mine V20 hul.out (by omega : cn1 ≤ cn1 + 70)
                  have mW := (own_mine W20 hll.out (by omega : cn2 ≤ cn2 + 70)).wider (Nat.zero_le _)
                  refine (anew_any mV (by rw [List.length_take, hul.out]; omega) cl1 (hwu.take cn1) mW (by rw [List.length_take, hll.out]; omega) cl2 (hwl.take cn2) (by simp only [Value.ownBlock, ne_eq, Option.some.injEq]; omega) ht B_20.size).mono ?_
                  rintro e w21 ⟨rfl, hb21⟩
                  have B_21 := B_20.trans hb21
                  clear V20 W20 mV mW B_20 hb21
                  go_wp2
                  go_ret
                  exact ⟨rfl, B_21⟩

/-! ### THE ROW's STEP: WRITTEN OUT: LEAVE IT -/
set_option maxRecDepth 100000 in
theorem lifted (os : Os) (started : os.Started) (H : Type) (enc : TypeId × Value → H) :
    ReturnsInHanded {} Try.checked os 4 .any (Rows.natFreshSpec.pre6 enc Try.prog Try.f4 Rows.natFreshRow.domain false) (Rows.natFreshSpec.post enc Try.prog Try.f4 false true false false) := by
  refine returnsInHanded_of_change (C := Try.checked) own started (by kernel_rfl) Try.func4
    (ChangeSpec.witness6 (enc := enc) (C := Try.checked) false ⟨#[], #[.slice none 0 0, .slice none 0 0, .int .i64 0], []⟩ 8 (by kernel_rfl) (by kernel_rfl) (by kernel_rfl) (by kernel_rfl)) ?_
  intro W base args ds gs before hval0 hW hcnd _
  have hval : ∀ (j : Nat) t v, Try.f4.params[j]? = some t → args[j]? = some v → Value.okWide Try.prog W .any base t v := hval0
  have hW' := hW
  obtain ⟨p, q, hA0, hV, rfl, hfz, hnd⟩ := hW
  have hA : DataW.TrodAll enc Try.prog W 0 (fun _ => true) true Try.f4.params.toList args.toList ds p := hA0
  rw [Try.params4] at hA hval
  obtain ⟨v0, vs0, d0, ds0, p0, q0, hargs, rfl, rfl, h0, r0⟩ := trodAll_cons hA
  obtain ⟨v1, vs1, d1, ds1, p1, q1, rfl, rfl, rfl, h1, r1⟩ := trodAll_cons r0
  obtain ⟨v2, vs2, d2, ds2, p2, q2, rfl, rfl, rfl, h2, r2⟩ := trodAll_cons r1
  obtain ⟨rfl, rfl, rfl⟩ := trodAll_nil r2
  obtain rfl : args = #[v0, v1, v2] := by cases args; simp_all
  obtain ⟨rfl, rfl⟩ := trodVars_none hV
  obtain ⟨a0, len0, cap0, rfl⟩ := okWide_slice Try.underlying22 (hval 0 22 v0 rfl rfl)
  have k0 := h0
  have lt0 : ∀ x ∈ p0, x.block < W.heap.size := by obtain ⟨m, hm⟩ := k0; exact DataW.trod_lt m _ _ _ hm
  obtain ⟨z0, w0⟩ : ∃ zs, IsRow .u64 W a0 len0 cap0 zs := by
    obtain ⟨fuel, hf⟩ := h0
    rcases open_ints Try.underlying22 Try.underlying47 (by kernel_rfl) hf with ⟨hcs, _⟩ | ⟨x, l, c, zs, hcs, _, hl, hm, hz, _, hcell, hwz⟩
    · simp [Value.cells] at hcs
      obtain ⟨rfl, rfl, rfl⟩ := hcs
      exact ⟨[], .inl ⟨rfl, rfl, rfl, rfl⟩⟩
    · simp [Value.cells] at hcs
      obtain ⟨rfl, rfl, rfl⟩ := hcs
      exact ⟨zs, .inr ⟨_, rfl, hl, hm, by simpa using hz, hcell, hwz⟩⟩
  obtain ⟨a1, len1, cap1, rfl⟩ := okWide_slice Try.underlying22 (hval 1 22 v1 rfl rfl)
  have k1 := h1
  have lt1 : ∀ x ∈ p1, x.block < W.heap.size := by obtain ⟨m, hm⟩ := k1; exact DataW.trod_lt m _ _ _ hm
  obtain ⟨z1, w1⟩ : ∃ zs, IsRow .u64 W a1 len1 cap1 zs := by
    obtain ⟨fuel, hf⟩ := h1
    rcases open_ints Try.underlying22 Try.underlying47 (by kernel_rfl) hf with ⟨hcs, _⟩ | ⟨x, l, c, zs, hcs, _, hl, hm, hz, _, hcell, hwz⟩
    · simp [Value.cells] at hcs
      obtain ⟨rfl, rfl, rfl⟩ := hcs
      exact ⟨[], .inl ⟨rfl, rfl, rfl, rfl⟩⟩
    · simp [Value.cells] at hcs
      obtain ⟨rfl, rfl, rfl⟩ := hcs
      exact ⟨zs, .inr ⟨_, rfl, hl, hm, by simpa using hz, hcell, hwz⟩⟩
  obtain ⟨a2, rfl, rfl, rfl, w2⟩ := open_int Try.underlying3 (hval 2 3 v2 rfl rfl) h2
  clear hA0 hval0
  refine (walk a0 len0 cap0 z0 a1 len1 cap1 z1 a2 W w0 w1 w2).mono fun e W' ⟨he, bel⟩ => ?_
  subst he
  exact ⟨_, rfl, _, _, _, [], _, [], hW', trodAll_mk1 (shut_bool Try.underlying4 _), (trodAll_cons_mk (Below.trod laidOut (by kernel_rfl) (of_decide_eq_true (by kernel_rfl)) k0 bel lt0) (trodAll_cons_mk (Below.trod laidOut (by kernel_rfl) (of_decide_eq_true (by kernel_rfl)) k1 bel lt1) (trodAll_cons_mk (shut_int Try.underlying3 w2) trodAll_mk0))), rfl, bel.frame _, fun h => by cases h⟩

theorem over : Rows.natFreshRow.holds Try.pinned (OpenSpec.ofChange Rows.natFreshSpec) :=
  OpenClaim.holds_of_wide 4 Try.f4 rfl rfl rfl rfl rfl rfl rfl ⟨rfl, rfl, rfl, rfl, rfl⟩ rfl rfl rfl rfl rfl (by kernel_rfl) Try.func4 (by kernel_rfl)
    (of_decide_eq_true (by kernel_rfl)) (by unfold Func.isWrapper; first | (rw [if_pos (by decide +kernel)]; kernel_rfl) | (rw [if_neg (by decide +kernel)]; exact ⟨rfl, rfl⟩))
    (fun os started H enc _ => lifted os started H enc)

/-- ████ THE STATEMENT ████ -/
theorem proved : Rows.NatFreshSaid := over
#print axioms proved
end Go.Proofs.Ythigofcbmgheeab.natFresh

/- Layer 16: OctetReads. -/
import Derived.Test.YtchlflmdannhaabDoorOctN
namespace Go.Proofs.YtchlflmdannhaabDoor
open Go.ChangeShapes Go.WideShapes Go.ChangeAt Go.RowKit
open Ep Oc
set_option linter.unusedVariables false
/-- what Err answers -/
def EV (w : World) (k : Nat) (F : Bool) (v : Value) : Prop := (F = false ∧ v = .nilIface) ∨ (F = true ∧ ∃ f, v = .iface 41 (.pointer (some ⟨f, 0, none⟩)) ∧ FaultAt w f (k : Int) 160)
theorem err16_any {w : World} {g : Nat} {l : List UInt8} {k : Nat} {F : Bool} (h : Rd w g l k F) :
    Calls Tryd.prog 12 #[.pointer (some ⟨g, 0, none⟩)] w fun e w' => ∃ v, e = .returned v ∧ EV w' k F v ∧ Below w.heap.size w w' := by
  cases F
  · refine (err16_none h).mono ?_
    rintro e w' ⟨rfl, rfl⟩
    exact ⟨_, rfl, Or.inl ⟨rfl, rfl⟩, Below.refl _ _⟩
  · refine (err16_some h).mono ?_
    rintro e w' ⟨f, rfl, hF, hb⟩
    exact ⟨_, rfl, Or.inr ⟨rfl, f, rfl, hF⟩, hb⟩
theorem sameErr_ev {w : World} {k : Nat} {F : Bool} {v : Value} (h : EV w k F v) (hE : ErrVar w) :
    Calls Tryd.prog 11 #[v, .int .i64 (eN F), .int .i64 (eP F k)] w fun e w' => e = .returned (.bool true) ∧ Below w.heap.size w w' := by
  rcases h with ⟨rfl, rfl⟩ | ⟨rfl, f, rfl, hF⟩
  · refine (sameErr_nil _ _).mono ?_
    rintro e w' ⟨rfl, rfl⟩
    exact ⟨rfl, Below.refl _ _⟩
  · exact sameErr_yes hF hE (by decide)
theorem Rr.cells {w : World} {g : Nat} {l : List UInt8} {k : Nat} {F : Bool} (h : Rr w g l k F) : ∃ a c, w.cell? ⟨g, 0, none⟩ = some (.slice a l.length c) ∧ w.cell? ⟨g, 1, none⟩ = some (.int .i64 (k : Int)) ∧ w.cell? ⟨g, 2, none⟩ = some (.int .i64 (eN F)) ∧ w.cell? ⟨g, 3, none⟩ = some (.int .i64 (eP F k)) := by
  obtain ⟨a, n, c, h1, h2, _⟩ := h
  obtain ⟨c0, c1, c2, c3⟩ := h1.cells
  rw [h2.len]
  exact ⟨a, c, c0, c1, c2, c3⟩
/-- the four readers -/
structure Four (w : World) (g1 g2 g3 g4 : Nat) (A B : List UInt8) (k : Nat) (F : Bool) (j : Nat) (E : Bool) : Prop where
  r : Rd w g1 A k F
  s : Rd w g2 B j E
  p : Rr w g3 A k F
  q : Rr w g4 B j E
theorem Four.later {w w' : World} {g1 g2 g3 g4 : Nat} {A B : List UInt8} {k j : Nat} {F E : Bool} (h : Four w g1 g2 g3 g4 A B k F j E) (hb : Below w.heap.size w w') : Four w' g1 g2 g3 g4 A B k F j E := ⟨h.r.later hb, h.s.later hb, h.p.later hb, h.q.later hb⟩
def Apart4 (g1 g2 g3 g4 : Nat) : Prop := g1 ≠ g2 ∧ g1 ≠ g3 ∧ g1 ≠ g4 ∧ g2 ≠ g3 ∧ g2 ≠ g4 ∧ g3 ≠ g4
theorem Four.one {w w' : World} {g1 g2 g3 g4 : Nat} {A B : List UInt8} {k j k' : Nat} {F E F' : Bool} (h : Four w g1 g2 g3 g4 A B k F j E) (ha : Apart4 g1 g2 g3 g4) (h1 : Rd w' g1 A k' F') (h2 : Rr w' g3 A k' F') (ht : Turned g1 g3 A k F w w') : Four w' g1 g2 g3 g4 A B k' F' j E := by
  obtain ⟨wm, i1, i2, hm⟩ := ht
  obtain ⟨a12, a13, a14, a23, a24, a34⟩ := ha
  exact ⟨h1, (h.s.keep h.r.nb (Ne.symm a12) i1).keep hm.nb a23 i2, h2, (h.q.keep h.r.nb (Ne.symm a14) i1).keep hm.nb (Ne.symm a34) i2⟩
theorem Four.two {w w' : World} {g1 g2 g3 g4 : Nat} {A B : List UInt8} {k j j' : Nat} {F E E' : Bool} (h : Four w g1 g2 g3 g4 A B k F j E) (ha : Apart4 g1 g2 g3 g4) (h1 : Rd w' g2 B j' E') (h2 : Rr w' g4 B j' E') (ht : Turned g2 g4 B j E w w') : Four w' g1 g2 g3 g4 A B k F j' E' := by
  obtain ⟨wm, i1, i2, hm⟩ := ht
  obtain ⟨a12, a13, a14, a23, a24, a34⟩ := ha
  exact ⟨(h.r.keep h.s.nb a12 i1).keep hm.nb a14 i2, h1, (h.p.keep h.s.nb (Ne.symm a23) i1).keep hm.nb a34 i2, h2⟩
theorem turnedBelow {w0 w w' : World} {g g' : Nat} {l : List UInt8} {k : Nat} {F : Bool} (hB : Below w0.heap.size w0 w) (hg : w0.heap.size ≤ g) (hg' : w0.heap.size ≤ g') (ht : Turned g g' l k F w w') : Below w0.heap.size w0 w' := by
  obtain ⟨wm, i1, i2, _⟩ := ht
  exact below_inn (below_inn hB i1 hg (Nat.le_refl _)) i2 hg' (Nat.le_refl _)
set_option maxHeartbeats 6400000 in
set_option maxRecDepth 100000 in
theorem reads_walk16 {w : World} {a b sa : Option Addr} {n c m d sn sc : Nat} {A B : List UInt8} {S : List Opc} (hA : Rb w a n c A) (hn : n ≤ 1048576) (hB : Rb w b m d B) (hm : m ≤ 1048576) (hS : Opl w sa sn S) (hsn : sn ≤ 1048576 ∧ sn ≤ sc ∧ sc ≤ 9223372036854775807) (hE : ErrVar w) :
    Calls Tryd.prog 3 #[.slice a n c, .slice b m d, .slice sa sn sc] w fun e w' => e = .returned (.bool true) ∧ Below w.heap.size w w' := by
  have HA : Hid (A.length = n) := hA.len
  have HB : Hid (B.length = m) := hB.len
  have hcA := hA.2
  have hcB := hB.2
  go_enter Tryd.func3, Tryd.ntmps3
  go_wp2_with fail
  refine (lent16_any hA (by omega)).mono ?_
  rintro e w1 ⟨v1, rfl, hO1, hb1⟩
  have hB1 := hB.later hb1
  go_wp2_with fail
  refine (lent16_any hB1 (by omega)).mono ?_
  rintro e w2 ⟨v2, rfl, hO2, hb2⟩
  have hBw2 := hb1.trans (hb2.mono hb1.size)
  have hO1' := hO1.later hb2
  have hlenA : (lentL A).length = n + 2 := by rw [lentL_len, HA.out]
  have hlenB : (lentL B).length = m + 2 := by rw [lentL_len, HB.out]
  obtain ⟨lg, lc, rfl, hlc, hlc9, hlg, hlg2⟩ := hO1'.shape (by omega)
  rw [hlenA] at hO1' hlc ⊢
  have hlg1 : lg < w1.heap.size := (hO1.blk (by rfl)).2
  obtain ⟨ma, mc, rfl, hmr⟩ := hO2.row
  rw [hlenB] at hmr ⊢
  have hlr := hO1'.rb
  have hcutA := hlr.take (k := n) (c' := lc) (by omega) (by omega) (by omega)
  rw [lentL_take A HA.out] at hcutA
  have hmc := hmr.2
  have hcutB := hmr.take (k := m) (c' := mc) (by omega) (by omega) (by omega)
  rw [lentL_take B HB.out] at hcutB
  clear hlenA hlenB hO1 hO2 hB1 hb1 hb2
  go_wp2_with fail
  refine (newReader_new hcutA (by omega)).mono ?_
  rintro e w3 ⟨g1, rfl, N1, hg1, hg1', hb3⟩
  have hb3s := hb3.size
  go_wp2_with fail
  refine (newReader_new (hcutB.later hb3) (by omega)).mono ?_
  rintro e w4 ⟨g2, rfl, N2, hg2, hg2', hb4⟩
  have hb4s := hb4.size
  have hB4 := (hBw2.trans (hb3.mono hBw2.size)).trans (hb4.mono (Nat.le_trans hBw2.size hb3.size))
  go_wp2_with fail
  refine (rnew_new (hA.later hB4) (by omega)).mono ?_
  rintro e w5 ⟨g3, rfl, N3, hg3, hg3', hb5⟩
  have hb5s := hb5.size
  have hB5 := hB4.trans (hb5.mono hB4.size)
  go_wp2_with fail
  refine (rnew_new (hB.later hB5) (by omega)).mono ?_
  rintro e w6 ⟨g4, rfl, N4, hg4, hg4', hb6⟩
  have hb6s := hb6.size
  have hB6 := hB5.trans (hb6.mono hB5.size)
  have hB26 : Below w2.heap.size w2 w6 := ((hb3.trans (hb4.mono hb3.size)).trans (hb5.mono (Nat.le_trans hb3.size hb4.size))).trans (hb6.mono (Nat.le_trans (Nat.le_trans hb3.size hb4.size) hb5.size))
  have HAp : Hid (Apart4 g1 g2 g3 g4) := by
    show Apart4 _ _ _ _
    refine ⟨?_, ?_, ?_, ?_, ?_, ?_⟩ <;> omega
  have HF : Hid (∀ w' : World, w6.heap.size ≤ w'.heap.size → (∀ k, w2.heap.size ≤ k → k < w6.heap.size → w'.heap[k]? = w6.heap[k]?) → Four w' g1 g2 g3 g4 A B 0 false 0 false) := fun w' hs hk => by
    have k3 : ∀ k, k < w3.heap.size → w6.heap[k]? = w3.heap[k]? := fun k hk => by rw [hb6.block k (by omega), hb5.block k (by omega), hb4.block k (by omega)]
    have k4 : ∀ k, k < w4.heap.size → w6.heap[k]? = w4.heap[k]? := fun k hk => by rw [hb6.block k (by omega), hb5.block k (by omega)]
    have k5 : ∀ k, k < w5.heap.size → w6.heap[k]? = w5.heap[k]? := fun k hk => by rw [hb6.block k (by omega)]
    exact ⟨N1 w' (by omega) (fun k h1 h2 => by rw [hk k (by omega) (by omega), k3 k h2]), N2 w' (by omega) (fun k h1 h2 => by rw [hk k (by omega) (by omega), k4 k h2]), N3 w' (by omega) (fun k h1 h2 => by rw [hk k (by omega) (by omega), k5 k h2]), N4 w' (by omega) (fun k h1 h2 => hk k (by omega) (by omega))⟩
  clear N1 N2 N3 N4
  have hk1 := kept16_any (hlr.later hB26) (hA.later hB6) (by omega)
  go_wp2_with fail
  refine hk1.mono ?_
  rintro e w7 ⟨rfl, q7, rfl⟩
  have hd7 := below_drewN (Below.refl w6.heap.size w6) q7
  have hB7 := hB6.trans (hd7.mono hB6.size)
  have hB27 := hB26.trans (hd7.mono hB26.size)
  have hk2 := kept16_any (hmr.later hB27) (hB.later hB7) (by omega)
  go_wp2_with fail
  refine hk2.mono ?_
  rintro e w8 ⟨rfl, q8, rfl⟩
  have hd8 := below_drewN hd7 q8
  have hB8 := hB6.trans (hd8.mono hB6.size)
  have hB28 := hB26.trans (hd8.mono hB26.size)
  have hO8 := hO1'.later hB28
  have HF8 : Hid (∀ w' : World, In lg (lg + 1) ((w6.drewN q7).drewN q8) w' → Four w' g1 g2 g3 g4 A B 0 false 0 false) := fun w' hi => HF.out w' (Nat.le_trans hd8.size hi.size) (fun k h1 h2 => by rw [hi.block k (Nat.lt_of_lt_of_le h2 hd8.size) (by omega), hd8.block k h2])
  have hG : w.heap.size ≤ g1 ∧ w.heap.size ≤ g2 ∧ w.heap.size ≤ g3 ∧ w.heap.size ≤ g4 := by have := hBw2.size; omega
  clear hk1 hk2 HF hd7 hd8 hB7 hB27 hb3 hb4 hb5 hb6 hcutA hcutB hlr hmr hB26 hO1' hB4 hB5 hB6 hA hB
  generalize (w6.drewN q7).drewN q8 = W at *
  have hlu : ∃ us : List UInt8, Ob W w.heap.size (.slice (some ⟨lg, 0, none⟩) (n + 2) lc) us ∧ us.length = n + 2 := ⟨_, hO8, by rw [lentL_len, HA.out]⟩
  clear hO8 hBw2 hB28
  go_wp2
  go_loopw [13] (fun i wr => ∃ (k : Nat) (us : List UInt8), i = .int .i64 (k : Int) ∧ k ≤ n + 2 ∧ Ob wr w.heap.size (.slice (some ⟨lg, 0, none⟩) (n + 2) lc) us ∧ Hid (us.length = n + 2) ∧ In lg (lg + 1) W wr) (fun i _ => n + 2 - (intOf i).toNat)
  case atStart =>
    obtain ⟨us, h1, h2⟩ := hlu
    exact ⟨0, us, rfl, by omega, h1, h2, In.refl _ _ _⟩
  case round =>
    obtain ⟨k, us, rfl, hk, hO, hul, hI⟩ := hrel
    clear hlu
    by_cases hlt : k < n + 2
    · have c1 := hO.at hul.out.symm (j := k) hlt
      have f1 := hO.free hul.out.symm k
      have hO2 := hO.set hul.out.symm k 238 (X := 238) rfl
      have hul2 : Hid ((us.set k 238).length = n + 2) := by show _ = _; rw [List.length_set]; exact hul.out
      have hI2 : In lg (lg + 1) W (wr.setCell ⟨lg, k, none⟩ (.int .u8 238)) := hI.set1 _ _
      generalize us.getD k 0 = x at *
      clear hO hul hI
      go_wp2
      go_roundw
      case rel => exact ⟨k + 1, _, by go_num, by omega, hO2, hul2, hI2⟩
      case measure => simp [intOf]; omega
    · have h4 := HF8.out wr hI
      have hBr := below_inn hB8 hI hlg (Nat.le_refl _)
      clear hO hul hI HF8 hB8
      clear hlc hlc9 hlg hlg2 hlg1 hmc hg1 hg1' hb3s hg2 hg2' hb4s hg3 hg3' hb5s hg4 hg4' hb6s hcA hcB
      go_wp2
      go_loopw [14] (fun i wr => ∃ (q k j : Nat) (F E : Bool), i = .int .i64 (q : Int) ∧ q ≤ 2 * sn + 1 ∧ Four wr g1 g2 g3 g4 A B k F j E ∧ Below w.heap.size w wr) (fun i _ => 2 * sn + 1 - (intOf i).toNat)
      case atStart => exact ⟨0, 0, 0, false, false, rfl, by omega, h4, hBr⟩
      case round =>
        obtain ⟨q, kk, jj, F, E, rfl, hq, h4', hBr'⟩ := hrel
        clear h4 hBr
        by_cases hle : q ≤ 2 * sn
        · have hleI : (q : Int) ≤ 2 * (sn : Int) := by omega
          go_upto_if 72 with fail
          go_cut [15] (fun v wx => ∃ k' F' j' E', Four wx g1 g2 g3 g4 A B k' F' j' E' ∧ Below w.heap.size w wx)
          case first =>
            by_cases hlt : q < 2 * sn
            · obtain ⟨t, ht⟩ : ∃ t, t = q / 2 := ⟨_, rfl⟩
              have et : (q : Int) / 2 = (t : Int) := by omega
              have hts : t < sn := by omega
              have hST := (hS.later hBr').2 t (by rw [hS.1]; exact hts)
              generalize S[t]'(by rw [hS.1]; exact hts) = op at *
              obtain ⟨_, b0, o0, rfl, hb0, c0, c1⟩ := hST
              rw [Nat.mul_comm 2 t] at c0 c1
              have htI : (t : Int) < (sn : Int) := by omega
              have ht0 : (0 : Int) ≤ (t : Int) := by omega
              have hqlt : (q : Int) < 2 * (sn : Int) := by omega
              obtain ⟨Wa, hWa⟩ : ∃ Wa, Wa = wr.alloc (.cells #[.int .i64 op.x, .bool op.b] 31) := ⟨_, rfl⟩
              have hba : Below wr.heap.size wr Wa := by rw [hWa]; exact alloc_below _
              have h4a := h4'.later hba
              have hBa := hBr'.trans (hba.mono hBr'.size)
              have hca : Wa.cell? ⟨wr.heap.size, 0, none⟩ = some (.int .i64 op.x) ∧ Wa.cell? ⟨wr.heap.size, 1, none⟩ = some (.bool op.b) := by rw [hWa]; simp
              generalize op.x = X at *
              generalize op.b = lt at *
              rcases Nat.mod_two_eq_zero_or_one q with par | par
              · have p1 : ((q : Int) % 2 == 0) = true := by simp; omega
                have p2 : ((q : Int) % 2 == 1) = false := by simp; omega
                have hst := step16_any (x := X) (b := lt) h4a.r h4a.p HAp.out.2.1
                clear par ht
                go_wp2_with fail
                rw [← hWa]
                refine hst.mono ?_
                rintro e wz ⟨rfl, z1, z2, z3⟩
                have h5 := h4a.one HAp.out z1 z2 z3
                have hB5 := turnedBelow hBa hG.1 hG.2.2.1 z3
                clear hst z1 z2 z3 h4a hBa hca hWa hba c0 c1
                go_wp2
                go_meet
                exact ⟨_, _, _, _, h5, hB5⟩
              · have p1 : ((q : Int) % 2 == 0) = false := by simp; omega
                have p2 : ((q : Int) % 2 == 1) = true := by simp; omega
                have hst := step16_any (x := X) (b := lt) h4a.s h4a.q HAp.out.2.2.2.2.1
                clear par ht
                go_wp2_with fail
                rw [← hWa]
                refine hst.mono ?_
                rintro e wz ⟨rfl, z1, z2, z3⟩
                have h5 := h4a.two HAp.out z1 z2 z3
                have hB5 := turnedBelow hBa hG.2.1 hG.2.2.2 z3
                clear hst z1 z2 z3 h4a hBa hca hWa hba c0 c1
                go_wp2
                go_meet
                exact ⟨_, _, _, _, h5, hB5⟩
            · have hqlt : ¬ (q : Int) < 2 * (sn : Int) := by omega
              go_wp2
              go_meet
              exact ⟨_, _, _, _, h4', hBr'⟩
          obtain ⟨k1, F1, j1, E1, h5, hB5⟩ := hcut
          obtain ⟨pa, pc, y0, y1, y2, y3⟩ := h5.p.cells
          obtain ⟨qa, qc, z0, z1, z2, z3⟩ := h5.q.cells
          have hlt3 := cell_lt y0
          have hlt4 := cell_lt z0
          have hcs : ∀ w' : World, Below wc.heap.size wc w' → w'.cell? ⟨g3, 0, none⟩ = some (.slice pa A.length pc) ∧ w'.cell? ⟨g3, 1, none⟩ = some (.int .i64 (k1 : Int)) ∧ w'.cell? ⟨g3, 2, none⟩ = some (.int .i64 (eN F1)) ∧ w'.cell? ⟨g3, 3, none⟩ = some (.int .i64 (eP F1 k1)) ∧ w'.cell? ⟨g4, 0, none⟩ = some (.slice qa B.length qc) ∧ w'.cell? ⟨g4, 1, none⟩ = some (.int .i64 (j1 : Int)) ∧ w'.cell? ⟨g4, 2, none⟩ = some (.int .i64 (eN E1)) ∧ w'.cell? ⟨g4, 3, none⟩ = some (.int .i64 (eP E1 j1)) := fun w' hb =>
            ⟨(hb.cell (p := ⟨g3, 0, none⟩) hlt3).trans y0, (hb.cell (p := ⟨g3, 1, none⟩) hlt3).trans y1, (hb.cell (p := ⟨g3, 2, none⟩) hlt3).trans y2, (hb.cell (p := ⟨g3, 3, none⟩) hlt3).trans y3, (hb.cell (p := ⟨g4, 0, none⟩) hlt4).trans z0, (hb.cell (p := ⟨g4, 1, none⟩) hlt4).trans z1, (hb.cell (p := ⟨g4, 2, none⟩) hlt4).trans z2, (hb.cell (p := ⟨g4, 3, none⟩) hlt4).trans z3⟩
          have HCS : Hid (∀ w' : World, Below wc.heap.size wc w' → w'.cell? ⟨g3, 0, none⟩ = some (.slice pa A.length pc) ∧ w'.cell? ⟨g3, 1, none⟩ = some (.int .i64 (k1 : Int)) ∧ w'.cell? ⟨g3, 2, none⟩ = some (.int .i64 (eN F1)) ∧ w'.cell? ⟨g3, 3, none⟩ = some (.int .i64 (eP F1 k1)) ∧ w'.cell? ⟨g4, 0, none⟩ = some (.slice qa B.length qc) ∧ w'.cell? ⟨g4, 1, none⟩ = some (.int .i64 (j1 : Int)) ∧ w'.cell? ⟨g4, 2, none⟩ = some (.int .i64 (eN E1)) ∧ w'.cell? ⟨g4, 3, none⟩ = some (.int .i64 (eP E1 j1))) := hcs
          clear hcs
          have hAr := fun (w' : World) (hb : Below wc.heap.size wc w') => at16_any (h5.r.later hb)
          have hAs := fun (w' : World) (hb : Below wc.heap.size wc w') => at16_any (h5.s.later hb)
          have hLr : ∀ w' : World, Below wc.heap.size wc w' → Calls Tryd.prog 10 #[.pointer (some ⟨g1, 0, none⟩)] w' fun e w'' => e = .returned (.int .i64 ((A.length : Int) - (k1 : Int))) ∧ Below wc.heap.size wc w'' := fun w' hb => by
            refine (left16_any (h5.r.later hb)).mono ?_
            rintro e w'' ⟨rfl, dd, rfl⟩
            have := h5.r.le
            exact ⟨ret_int (by omega), below_drewN hb dd⟩
          have hLs : ∀ w' : World, Below wc.heap.size wc w' → Calls Tryd.prog 10 #[.pointer (some ⟨g2, 0, none⟩)] w' fun e w'' => e = .returned (.int .i64 ((B.length : Int) - (j1 : Int))) ∧ Below wc.heap.size wc w'' := fun w' hb => by
            refine (left16_any (h5.s.later hb)).mono ?_
            rintro e w'' ⟨rfl, dd, rfl⟩
            have := h5.s.le
            exact ⟨ret_int (by omega), below_drewN hb dd⟩
          have hEr : ∀ w' : World, Below wc.heap.size wc w' → Calls Tryd.prog 12 #[.pointer (some ⟨g1, 0, none⟩)] w' fun e w'' => ∃ v, e = .returned v ∧ EV w'' k1 F1 v ∧ Below wc.heap.size wc w'' := fun w' hb => by
            refine (err16_any (h5.r.later hb)).mono ?_
            rintro e w'' ⟨v, rfl, hev, hbb⟩
            exact ⟨v, rfl, hev, hb.trans (hbb.mono hb.size)⟩
          have hEs : ∀ w' : World, Below wc.heap.size wc w' → Calls Tryd.prog 12 #[.pointer (some ⟨g2, 0, none⟩)] w' fun e w'' => ∃ v, e = .returned v ∧ EV w'' j1 E1 v ∧ Below wc.heap.size wc w'' := fun w' hb => by
            refine (err16_any (h5.s.later hb)).mono ?_
            rintro e w'' ⟨v, rfl, hev, hbb⟩
            exact ⟨v, rfl, hev, hb.trans (hbb.mono hb.size)⟩
          have hSE : ∀ (w' : World) (k : Nat) (F : Bool) (v : Value), Below wc.heap.size wc w' → EV w' k F v → Calls Tryd.prog 11 #[v, .int .i64 (eN F), .int .i64 (eP F k)] w' fun e w'' => e = .returned (.bool true) ∧ Below wc.heap.size wc w'' := fun w' k F v hb hev => by
            refine (sameErr_ev hev (hE.later (hB5.trans (hb.mono hB5.size)))).mono ?_
            rintro e w'' ⟨rfl, hbb⟩
            exact ⟨rfl, hb.trans (hbb.mono hb.size)⟩
          have hleR := h5.r.le
          have hleS := h5.s.le
          have i1 : (k1 : Int) ≤ (A.length : Int) := by omega
          have i2 : (A.length : Int) ≤ 100000000 := by omega
          have i3 : (j1 : Int) ≤ (B.length : Int) := by omega
          have i4 : (B.length : Int) ≤ 100000000 := by omega
          have t1 : ((k1 : Int) != (k1 : Int)) = false := by simp
          have t2 : ((j1 : Int) != (j1 : Int)) = false := by simp
          have t3 : ((A.length : Int) - (k1 : Int) != (A.length : Int) - (k1 : Int)) = false := by simp
          have t4 : ((B.length : Int) - (j1 : Int) != (B.length : Int) - (j1 : Int)) = false := by simp
          have hn3 : A.length ≤ 100000000 := by omega
          have hn4 : B.length ≤ 100000000 := by omega
          have wr1 : IntKind.i64.wrap ((A.length : Int) - (k1 : Int)) = (A.length : Int) - (k1 : Int) := IntWalk.i64_in _ (by omega)
          have wr2 : IntKind.i64.wrap ((B.length : Int) - (j1 : Int)) = (B.length : Int) - (j1 : Int) := IntWalk.i64_in _ (by omega)
          have HEX : Hid (Four wc g1 g2 g3 g4 A B k1 F1 j1 E1) := h5
          generalize A.length = LA at *
          generalize B.length = LB at *
          clear h5 hleR hleS
          go_upto_region 20 with fail
          simp only [List.append]
          go_region_held3 (fun w' => w'.cell? ⟨g3, 0, none⟩ = some (.slice pa LA pc) ∧ w'.cell? ⟨g3, 1, none⟩ = some (.int .i64 (k1 : Int)) ∧ w'.cell? ⟨g3, 2, none⟩ = some (.int .i64 (eN F1)) ∧ w'.cell? ⟨g3, 3, none⟩ = some (.int .i64 (eP F1 k1)) ∧ w'.cell? ⟨g4, 0, none⟩ = some (.slice qa LB qc) ∧ w'.cell? ⟨g4, 1, none⟩ = some (.int .i64 (j1 : Int)) ∧ w'.cell? ⟨g4, 2, none⟩ = some (.int .i64 (eN E1)) ∧ w'.cell? ⟨g4, 3, none⟩ = some (.int .i64 (eP E1 j1))) (go_keep) (first
            | (go_at_call_of 9 g1; refine (hAr _ (by first | assumption | exact below_drewN (Below.refl _ _) _)).mono ?_; rintro e w' ⟨rfl, hw⟩; rw [hw])
            | (go_at_call_of 9 g2; refine (hAs _ (by first | assumption | exact below_drewN (Below.refl _ _) _)).mono ?_; rintro e w' ⟨rfl, hw⟩; rw [hw])
            | (go_at_call_of 10 g1; refine (hLr _ (by first | assumption | exact below_drewN (Below.refl _ _) _)).mono ?_; rintro e wL ⟨rfl, hbL⟩; obtain ⟨a0, a1, a2, a3, a4, a5, a6, a7⟩ := HCS.out wL hbL)
            | (go_at_call_of 10 g2; refine (hLs _ (by first | assumption | exact below_drewN (Below.refl _ _) _)).mono ?_; rintro e wM ⟨rfl, hbM⟩; obtain ⟨b0, b1, b2, b3, b4, b5, b6, b7⟩ := HCS.out wM hbM)
            | (go_at_call_of 12 g1; refine (hEr _ (by first | assumption | exact below_drewN (Below.refl _ _) _)).mono ?_; rintro e wE ⟨vr, rfl, hevr, hbE⟩; obtain ⟨d0, d1, d2, d3, d4, d5, d6, d7⟩ := HCS.out wE hbE)
            | (go_at_call_of 12 g2; refine (hEs _ (by first | assumption | exact below_drewN (Below.refl _ _) _)).mono ?_; rintro e wG ⟨vs, rfl, hevs, hbG⟩; obtain ⟨f0, f1, f2, f3, f4, f5, f6, f7⟩ := HCS.out wG hbG)
            | (go_at_call_of 11 vr; refine (hSE _ _ _ _ hbE hevr).mono ?_; rintro e wS ⟨rfl, hbS⟩; obtain ⟨m0, m1, m2, m3, m4, m5, m6, m7⟩ := HCS.out wS hbS)
            | (go_at_call_of 11 vs; refine (hSE _ _ _ _ hbG hevs).mono ?_; rintro e wT ⟨rfl, hbT⟩; obtain ⟨n0, n1, n2, n3, n4, n5, n6, n7⟩ := HCS.out wT hbT))
          all_goals
            have H8 := HEX.out.later hbT
            have B8 := hB5.trans (hbT.mono hB5.size)
            clear hAr hAs hLr hLs hEr hEs hSE HEX HCS
            go_wp2
            go_roundw
            case rel => exact ⟨q + 1, k1, j1, F1, E1, by go_num, by omega, H8, B8⟩
            case measure => simp [intOf]; omega
        · have hleI : ¬ (q : Int) ≤ 2 * (sn : Int) := by omega
          go_wp2
          go_ret
          exact ⟨rfl, hBr'⟩
end Go.Proofs.YtchlflmdannhaabDoor

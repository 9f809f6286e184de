/- Layer 17: the parts of a geometry, one by one. -/
import Derived.Test.YtinagjljebbceaaDoorWkF
namespace Go.Proofs.YtinagjljebbceaaDoor
open Go.ChangeShapes Go.WideShapes Go.ChangeAt Go.RowKit
open Ep Oc Tr Wk
set_option linter.unusedVariables false
theorem info_gm7 : (Tryd.prog.info? 26).map (fun i => (i.zero, i.size, i.bytes)) = some (some (.agg #[.int .i64 0, .slice none 0 0, .slice none 0 0, .slice none 0 0]), 4, 80) := by kernel_rfl
theorem zero_gm7 : ∀ x ∈ (Value.agg #[.int .i64 0, .slice none 0 0, .slice none 0 0, .slice none 0 0]).cells.toList, NB8 x := by
  intro x hx z
  simp [Value.cells] at hx
  rcases hx with rfl | rfl <;> simp
set_option maxHeartbeats 6400000 in
set_option maxRecDepth 100000 in
theorem members_gm {w0 w : World} {gw gr : Nat} {D : Int} {l : List UInt8} {k : Nat} {v : Value} {os : List Bool} (h : WkS w0 w gw gr D l k v os) (hos : os.length ≤ k) {b1 b2 b3 N : Nat} {kind lev n : Nat} (ih : ∀ {w : World} {k : Nat} {v : Value} {os : List Bool}, WkS w0 w gw gr D l k v os → os.length ≤ k → Calls Tryd.prog 54 #[.pointer (some ⟨gw, 0, none⟩), .int .i64 (kind : Int), .int .i64 ((lev : Int) + 1)] w (Pge w0 w gw gr D l v os (geomS l n kind k))) (hlev : lev ≤ 1000) (h1 : Bx w b1 164 (.pointer (some ⟨gw, 0, none⟩))) (h2 : Bx w b2 3 (.int .i64 (kind : Int))) (h3 : Bx w b3 3 (.int .i64 (lev : Int))) (x1 : ¬ Ex gw gr v b1) (x2 : ¬ Ex gw gr v b2) (x3 : ¬ Ex gw gr v b3) (hn : N ≤ 100000) :
    Calls Tryd.prog 85 #[.int .i64 (N : Int), .func (.func 86) #[] #[.pointer (some ⟨b1, 0, none⟩), .pointer (some ⟨b2, 0, none⟩), .pointer (some ⟨b3, 0, none⟩)]] w (Pgs w0 w gw gr D l v os (many (geomS l n kind) N k)) := by
  have HB1 : Hid (Bx w b1 164 (.pointer (some ⟨gw, 0, none⟩))) := h1
  have HB2 : Hid (Bx w b2 3 (.int .i64 (kind : Int))) := h2
  have HB3 : Hid (Bx w b3 3 (.int .i64 (lev : Int))) := h3
  have HX : Hid (¬ Ex gw gr v b1 ∧ ¬ Ex gw gr v b2 ∧ ¬ Ex gw gr v b3) := ⟨x1, x2, x3⟩
  have HO : Hid (∀ b, w.heap.size ≤ b → b ≠ gr ∧ b ≠ gw ∧ v.ownBlock ≠ some b ∧ w0.heap.size ≤ b) := fun b hb => h.old hb
  clear h1 h2 h3 x1 x2 x3
  go_enter Tryd.func85, Tryd.ntmps85
  go_wp2
  go_loopw [5, 7] (fun ov i wr => ∃ (j kj : Nat) (ts : List (Tree × List Bool)) (xs : List Value) (vj : Value), i = .int .i64 (j : Int) ∧ j ≤ N ∧ Hid (ts.length = j) ∧ Hid ((os ++ (ts.map (·.2)).flatten).length ≤ kj) ∧ Hid (Rs.pre ts (many (geomS l n kind) (N - j) kj) = many (geomS l n kind) N k) ∧ Hid (WkS w0 wr gw gr D l kj vj (os ++ (ts.map (·.2)).flatten)) ∧ Hid (Ch (Ex gw gr v) w wr) ∧ Hid (vj.ownBlock = v.ownBlock ∨ ∃ g, vj.ownBlock = some g ∧ w.heap.size ≤ g) ∧ Hid (Nw wr w.heap.size 26 4 ov ts.length xs) ∧ Hid (Grow (fun i => w.heap.size ≤ i ∧ i < wr.heap.size ∧ ov.ownBlock ≠ some i ∧ vj.ownBlock ≠ some i) wr xs (ts.map (·.1)))) (fun _ i _ => N - (intOf i).toNat)
  case atStart =>
    exact ⟨0, k, [], [], v, rfl, Nat.zero_le _, rfl, (by show (os ++ []).length ≤ k; rw [List.append_nil]; exact hos), pre_nil _, (by show WkS w0 w gw gr D l k v (os ++ []); rw [List.append_nil]; exact h), Ch.refl _ _, Or.inl rfl, Nw.nil _ _ _ _, trivial⟩
  case round =>
    obtain ⟨j, kj, ts, xs, vj, rfl, hj, HL, HOs, HM, HS, HC, HV, HN, HR⟩ := hrel
    by_cases hlt : j < N
    · have hXj : ∀ b, b < w.heap.size → ¬ Ex gw gr v b → ¬ Ex gw gr vj b := fun b hb hx q => hx (ex_sub HV.out b hb q)
      have hB1 := HB1.out.ch HC.out HX.out.1
      have hB2 := HB2.out.ch HC.out HX.out.2.1
      have hB3 := HB3.out.ch HC.out HX.out.2.2
      have hP := geom2_any HS.out HOs.out ih hlev hB1 hB2 hB3
      obtain ⟨m, hm⟩ : ∃ m, N - j = m + 1 := ⟨N - j - 1, by omega⟩
      have hm2 : N - (j + 1) = m := by omega
      clear hB1 hB2 hB3 h
      cases hp : geomS l n kind kj with
      | bad p c =>
        rw [hp] at hP
        have HA : Hid (many (geomS l n kind) N k = .bad p c) := by show _ = _; rw [← HM.out, hm, many_bad ts hp]
        clear hp hm hm2 HM HN HC HS HR HV ih hXj
        go_wp2_with fail
        refine hP.mono ?_
        rintro e w3 ⟨hf, hb⟩
        rw [flw_of hf]
        clear hP
        go_wp2
        refine ⟨rfl, ?_⟩
        unfold Pgs
        rw [HA.out]
        exact ⟨rfl, hb⟩
      | ok q k1 =>
        rw [hp] at hP
        have hq9 := geom_len l n kind kj q k1 hp
        have HM2 : Hid (Rs.pre (ts ++ [q]) (many (geomS l n kind) (N - (j + 1)) k1) = many (geomS l n kind) N k) := by show _ = _; rw [← HM.out, hm, hm2, many_ok ts hp]
        have HF : Hid (os ++ ((ts ++ [q]).map (·.2)).flatten = (os ++ (ts.map (·.2)).flatten) ++ q.2) := by show _ = _; simp
        have HOs2 : Hid ((os ++ ((ts ++ [q]).map (·.2)).flatten).length ≤ k1) := by
          show _ ≤ _
          have := HOs.out
          rw [HF.out, List.length_append]
          omega
        clear hp hm hm2 HM hq9 ih
        go_wp2_with fail
        refine hP.mono ?_
        rintro e w3 ⟨u, v3, rfl, hS3, hC3, hov3, hT3⟩
        clear hP
        have hnx : ∀ i, w.heap.size ≤ i → vj.ownBlock ≠ some i → ¬ Ex gw gr vj i := fun i hi hv q => by
          have := HO.out i hi
          rcases q with q | q | q
          · exact this.1 q
          · exact this.2.1 q
          · exact hv q
        have hnb : ∀ g, u5.ownBlock = some g → vj.ownBlock ≠ some g := fun g hg => HN.out.ne_bo HS.out.row (by decide) hg
        have hN3 : Nw w3 w.heap.size 26 4 u5 ts.length xs := HN.out.keep (fun g hg => hC3.block g (HN.out.blk hg).2.1 (hnx g (HN.out.blk hg).1 (hnb g hg)))
        have hC : Ch (Ex gw gr v) w w3 := HC.out.trans hC3 (fun i hi => ex_sub HV.out i hi)
        have hs3 : w.heap.size ≤ w3.heap.size := hC.size
        have hsr : wr.heap.size ≤ w3.heap.size := hC3.size
        have hswr : w.heap.size ≤ wr.heap.size := HC.out.size
        have hkp : Kp (fun i => w.heap.size ≤ i ∧ i < wr.heap.size ∧ u5.ownBlock ≠ some i ∧ vj.ownBlock ≠ some i) wr w3 := hC3.kp (fun i hi => ⟨hi.2.1, hnx i hi.1 hi.2.2.2⟩)
        have hold : ∀ i, i < wr.heap.size → vj.ownBlock ≠ some i → v3.ownBlock ≠ some i := fun i hi hv e => by
          rcases hov3 with q | ⟨g, q, hg⟩
          · exact hv (q ▸ e)
          · rw [q] at e; cases e; omega
        have hR3 : Grow (fun i => w.heap.size ≤ i ∧ i < w3.heap.size ∧ u5.ownBlock ≠ some i ∧ v3.ownBlock ≠ some i) w3 xs (ts.map (·.1)) := HR.out.map (fun v t ht => (ht.below hkp).mono (fun i hi => ⟨hi.1, by have := hi.2.1; omega, hi.2.2.1, hold i hi.2.1 hi.2.2.2⟩))
        have HV3 : Hid (v3.ownBlock = v.ownBlock ∨ ∃ g, v3.ownBlock = some g ∧ w.heap.size ≤ g) := by
          rcases hov3 with q | ⟨g, q, hg⟩
          · rw [q]; exact HV.out
          · exact Or.inr ⟨g, q, by omega⟩
        have hT3' : TV (fun i => w.heap.size ≤ i ∧ i < w3.heap.size ∧ u5.ownBlock ≠ some i ∧ v3.ownBlock ≠ some i) w3 u q.1 := hT3.mono (fun i hi => ⟨by have := hi.1; omega, hi.2.1, fun e => by have := (HN.out.blk e).2.1; have := hi.1; omega, hi.2.2⟩)
        obtain ⟨v1, v2, pa, pc, hu, hk9, hP1, hR1, hl9', hf9⟩ := hT3'.parts
        obtain ⟨a1, d1, e1⟩ := hP1.slc
        obtain ⟨a2, d2, e2⟩ := hR1.slc
        rw [e1, e2] at hu
        have hR3' : Grow (fun i => w.heap.size ≤ i ∧ i < w3.heap.size ∧ u5.ownBlock ≠ some i ∧ v3.ownBlock ≠ some i) w3 (xs ++ [.int .i64 q.1.1.kind, .slice a1 q.1.1.line.length d1, .slice a2 q.1.1.rings.length d2, .slice pa q.1.2.len pc]) ((ts ++ [q]).map (·.1)) := by
          rw [List.map_append]
          exact hR3.snoc (by rw [← hu]; exact hT3')
        rw [← HF.out] at hS3
        subst hu
        clear hT3 hT3' hR3 hov3 hkp hnx hnb hold e1 e2 hP1 hR1 hl9' hf9 hk9 HV HR HS
        generalize q.1.1.kind = K0 at *
        generalize q.1.1.line.length = L1 at *
        generalize q.1.1.rings.length = L2 at *
        generalize q.1.2.len = L3 at *
        obtain ⟨W4, hW4⟩ : ∃ W4, W4 = w3.alloc (.cells #[.int .i64 K0, .slice a1 L1 d1, .slice a2 L2 d2, .slice pa L3 pc] 26) := ⟨_, rfl⟩
        have hb4 : Below w3.heap.size w3 W4 := by rw [hW4]; exact alloc_below _
        have hB4 : W4.heap[w3.heap.size]? = some (.cells #[.int .i64 K0, .slice a1 L1 d1, .slice a2 L2 d2, .slice pa L3 pc] 26 (0, 0)) := by rw [hW4]; exact heap_alloc_new _ _
        have hN4 : Nw W4 w.heap.size 26 4 u5 ts.length xs := hN3.keep (fun g hg => hb4.block g (hN3.blk hg).2.1)
        have HR4 : Hid (Grow (fun i => w.heap.size ≤ i ∧ i < w3.heap.size ∧ u5.ownBlock ≠ some i ∧ v3.ownBlock ≠ some i) W4 (xs ++ [.int .i64 K0, .slice a1 L1 d1, .slice a2 L2 d2, .slice pa L3 pc]) ((ts ++ [q]).map (·.1))) := hR3'.map (fun v t ht => ht.below (Kp.of_below hb4 (fun i hi => hi.2.1)))
        have HS4 : Hid (WkS w0 W4 gw gr D l k1 v3 (os ++ ((ts ++ [q]).map (·.2)).flatten)) := hS3.later hb4
        have HC4 : Hid (Ch (Ex gw gr v) w W4) := hC.trans (Ch.of_below (X := Ex gw gr v) hb4) (fun _ _ x => x)
        have hq4 : ∀ j x, [Value.int .i64 K0, .slice a1 L1 d1, .slice a2 L2 d2, .slice pa L3 pc][j]? = some x → W4.cell? ⟨w3.heap.size, j, none⟩ = some x := fun j x hx => by
          rw [cell_of hB4 j]
          simpa using hx
        have hs4 : w.heap.size ≤ W4.heap.size := Nat.le_trans hs3 hb4.size
        have hs34 : w3.heap.size ≤ W4.heap.size := hb4.size
        have hl9 : ts.length ≤ 1000000 := by rw [HL.out]; omega
        have HW4 : Hid (w3.alloc (.cells #[.int .i64 K0, .slice a1 L1 d1, .slice a2 L2 d2, .slice pa L3 pc] 26) = W4) := hW4.symm
        clear hN3 hC hS3 hC3 HC HN hb4 hB4 hW4 hR3'
        go_wp2_with (at_builtin; rw [HW4.out]; refine wpList_appN rfl _ _ 24 26 rfl Tryd.underlying24 info_gm7 rfl (by decide) zero_gm7 rfl hN4 rfl rfl hq4 (by simp [Value.oneCell']) (by simp [NB8]) hl9 (by decide) hs4 ?_)
        intro v' w5 hN5 hg5 ho5
        have HN5 : Hid (Nw w5 w.heap.size 26 4 v' (ts ++ [q]).length (xs ++ [.int .i64 K0, .slice a1 L1 d1, .slice a2 L2 d2, .slice pa L3 pc])) := by
          show Nw _ _ _ _ _ _ _
          rw [List.length_append]
          exact hN5
        have HS5 : Hid (WkS w0 w5 gw gr D l k1 v3 (os ++ ((ts ++ [q]).map (·.2)).flatten)) := HS4.out.grown hg5 (fun b hb => by
          have q := hN4.blk hb
          have := HO.out b q.1
          exact ⟨this.2.2.2, this.1, this.2.1, hN4.ne_bo HS4.out.row (by decide) hb, q.2.2⟩)
        have HC5 : Hid (Ch (Ex gw gr v) w w5) := HC4.out.trans (Ch.of_grown (X := fun i => w.heap.size ≤ i) hg5 (fun b hb => (hN4.blk hb).1)) (fun i hi q => by omega)
        have hs5 := hg5.size
        have HR5 : Hid (Grow (fun i => w.heap.size ≤ i ∧ i < w5.heap.size ∧ v'.ownBlock ≠ some i ∧ v3.ownBlock ≠ some i) w5 (xs ++ [.int .i64 K0, .slice a1 L1 d1, .slice a2 L2 d2, .slice pa L3 pc]) ((ts ++ [q]).map (·.1))) := by
          have hkp : Kp (fun i => w.heap.size ≤ i ∧ i < w3.heap.size ∧ u5.ownBlock ≠ some i ∧ v3.ownBlock ≠ some i) W4 w5 := ⟨hs5, fun i hi => hg5.block i (by have := hi.2.1; omega) (fun e => hi.2.2.1 e.symm)⟩
          refine HR4.out.map (fun v t ht => (ht.below hkp).mono (fun i hi => ⟨hi.1, by have := hi.2.1; omega, fun e => ?_, hi.2.2.2⟩))
          rcases ho5 with q | q
          · exact hi.2.2.1 (q ▸ e)
          · rw [q] at e
            cases e
            have := hi.2.1
            omega
        clear hN5 hg5 ho5 hN4 hq4 HS4 HC4 HR4
        go_wp2
        go_roundw
        case rel => exact ⟨j + 1, k1, ts ++ [q], _, v3, by go_num, by omega, by show _ = _; rw [List.length_append, HL.out]; rfl, HOs2, HM2, HS5, HC5, HV3, HN5, HR5⟩
        case measure => simp [intOf]; omega
    · have hjn : j = N := by omega
      subst hjn
      have HA : Hid (many (geomS l n kind) j k = .ok ts kj) := by
        show _ = _
        rw [← HM.out, Nat.sub_self]
        show Rs.ok (ts ++ []) kj = _
        rw [List.append_nil]
      have hfo := fo_of (ts := ts.map (·.1)) (by rw [List.length_map]; exact HN.out.own) HR.out
      obtain ⟨pa, pc, hu, hpc, hF⟩ := hfo
      rw [List.length_map] at hu hpc
      subst hu
      go_wp2
      go_ret
      unfold Pgs
      rw [HA.out]
      refine ⟨vj, pa, pc, rfl, hpc, HS.out, HC.out, HV.out, hF.mono (fun i hi => ?_)⟩
      rcases hi with hi | hi
      · exact ⟨hi.1, hi.2.1, hi.2.2.2⟩
      · exact ⟨(HN.out.blk hi).1, (HN.out.blk hi).2.1, HN.out.ne_bo HS.out.row (by decide) hi⟩
end Go.Proofs.YtinagjljebbceaaDoor

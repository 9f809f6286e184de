/- Layer 18: TokenFresh. -/
import Derived.Test.YtfgpjplfplbcdaaGreatDoorTkFc
namespace Go.Proofs.YtfgpjplfplbcdaaGreatDoor
open Go.ChangeShapes Go.WideShapes Go.ChangeAt Go.RowKit
open Lx Tk Go.Shelf
set_option linter.unusedVariables false
theorem Tk.rep_set {c : Ct} {L : List Ct} {i : Nat} (h : i < L.length) : (List.replicate i c ++ L.drop i).set i c = List.replicate (i + 1) c ++ L.drop (i + 1) := by
  rw [List.set_append_right _ _ (by simp), List.length_replicate, Nat.sub_self, List.drop_eq_getElem_cons h, List.set_cons_zero, List.replicate_succ', List.append_assoc]
  rfl
set_option maxHeartbeats 6400000 in
set_option maxRecDepth 100000 in
theorem fresh_walk {s t : ByteArray} (hs : s.size ≤ 1048576) (ht : t.size ≤ 1048576) {w : World} (hE : ErrVar w) (hT : PowTab w) :
    Calls Tryz.prog 3 #[.string s, .string t] w fun e w' => e = .returned (.bool true) ∧ Below w.heap.size w w' := by
  obtain ⟨ls, es, hls⟩ := toks_any s.data.toList
  obtain ⟨lt, et, hlt⟩ := toks_any t.data.toList
  have TL : Hid (∀ w', Below w.heap.size w w' → PowTab w') := fun w' hb => pow_later18 hT hb
  have VL : Hid (∀ w', Below w.heap.size w w' → ErrVar w') := fun w' hb => hE.later hb
  have hL : (alL ls es).length ≤ 1048576 := by
    have := hls.len
    rw [← Lib.size_eq] at this
    cases es with
    | none => exact Nat.le_trans this hs
    | some p => exact Nat.zero_le _
  have cS : Hid (∀ w, _) := fun w => all18_own s (by omega) hls w
  have cT : Hid (∀ w, _) := fun w => all18_own t (by omega) hlt w
  have hC0 : Hid (alC es = 0 → alP es = -1) := al_zero
  generalize alL ls es = L at *
  generalize alC es = C at *
  generalize alP es = P at *
  clear hT hE hls
  have c1 := new18_any s (by omega) w
  go_enter Tryz.func3, Tryz.ntmps3
  go_wp2_with fail
  refine c1.mono ?_
  rintro e w1 ⟨rfl, hX1, hb1⟩
  clear c1
  have c2 := new18_any t (by omega) w1
  go_wp2_with fail
  refine c2.mono ?_
  rintro e w2 ⟨rfl, hY1, hb2⟩
  clear c2
  have B2 := hb1.trans (hb2.mono hb1.size)
  have hlx := hX1.lt
  obtain ⟨gx, hgx⟩ : ∃ gx, gx = w.heap.size := ⟨_, rfl⟩
  obtain ⟨gy, hgy⟩ : ∃ gy, gy = w1.heap.size := ⟨_, rfl⟩
  rw [← hgx] at hX1
  rw [← hgy] at hY1
  rw [← hgx, ← hgy]
  have F2 : Hid (FrS w w2 gx gy s t 0 [] []) := ⟨B2, ⟨by omega, by have := hb1.size; omega, by omega⟩, hX1.later hb2, ⟨0, hY1⟩, fun q hq => by simp at hq, fun q hq => by simp at hq⟩
  clear hX1 hY1 hlx hgx hgy
  have c3 := cS.out w2
  go_wp2_with fail
  refine c3.mono ?_
  rintro e w3 ⟨va, er, rfl, hRa, hEa, hoA, hb3⟩
  clear c3
  have hW2 : w.heap.size ≤ w2.heap.size := B2.size
  have HoA : Hid _ := hoA
  have F3 : Hid (FrS w w3 gx gy s t 0 [(va, L)] [(er, C, P)]) := by
    have h := F2.out.later hb3
    exact ⟨h.bel, h.ord, h.x, h.y, fun q hq => by simp at hq; subst hq; exact hRa.base hW2, fun q hq => by simp at hq; subst hq; exact hEa⟩
  have HlA : Hid (∀ g, va.ownBlock = some g → w2.heap.size ≤ g ∧ g < w3.heap.size) := fun g hg => World.ownsRow.lt hRa g hg
  have hs3 := hb3.size
  clear hb1 hb2 B2 F2 hEa hoA hb3
  have hbA : Below w3.heap.size w3 (w3.alloc (.cells #[] 32)) := (Below.refl _ _).alloc (Nat.le_refl _) _
  have hrow0 : TkR (w3.alloc (.cells #[] 32)) w3.heap.size (.slice (some ⟨w3.heap.size, 0, none⟩) 0 0) [] :=
    ⟨rfl, Or.inr ⟨w3.heap.size, 0, #[], rfl, Nat.le_refl _, Bk.new w3 32 #[], Nat.le_refl _, by unfold maxLen; omega, rfl, rfl⟩⟩
  have hsrc0 := hRa.later hbA
  have hlen0 : ([] : List Ct).length + L.length ≤ 1000000000 := by simp; omega
  have hbs0 : w3.heap.size ≤ (w3.alloc (.cells #[] 32)).heap.size := hbA.size
  clear hRa
  go_wp2_with (at_builtin; refine wpList_appR rfl _ _ rfl rfl hrow0 rfl hsrc0 hlen0 hbs0 ?_)
  intro vw w4 hRw hg4
  have hb4 : Below w3.heap.size w3 w4 := hrow0.grown hg4 hbA (Nat.le_refl _) (Nat.le_refl _)
  have hW3 : w.heap.size ≤ w3.heap.size := Nat.le_trans hW2 hs3
  have F4 : Hid (FrS w w4 gx gy s t 0 [(va, L), (vw, L)] [(er, C, P)]) := by
    have h := F3.out.later hb4
    refine ⟨h.bel, h.ord, h.x, h.y, fun q hq => ?_, h.errs⟩
    rcases List.mem_cons.mp hq with rfl | hq
    · exact h.rows _ (List.mem_cons_self ..)
    · simp at hq; subst hq; exact hRw.base hW3
  have HlW : Hid (∀ g, vw.ownBlock = some g → w3.heap.size ≤ g ∧ g < w4.heap.size) := fun g hg => World.ownsRow.lt hRw g hg
  have hs4 := hb4.size
  clear hbA hrow0 hsrc0 hlen0 hbs0 hg4 hRw hb4 F3
  have c5 := cS.out w4
  go_wp2_with fail
  refine c5.mono ?_
  rintro e w5 ⟨vt, er2, rfl, hRt, _, HoT, hb5⟩
  clear c5
  have hW4 : w.heap.size ≤ w4.heap.size := Nat.le_trans hW3 hs4
  have F5 : Hid (FrS w w5 gx gy s t 0 [(va, L), (vw, L), (vt, L)] [(er, C, P)]) := by
    have h := F4.out.later hb5
    refine ⟨h.bel, h.ord, h.x, h.y, fun q hq => ?_, h.errs⟩
    rcases List.mem_cons.mp hq with rfl | hq
    · exact h.rows _ (List.mem_cons_self ..)
    · rcases List.mem_cons.mp hq with rfl | hq
      · exact h.rows _ (List.mem_cons_of_mem _ (List.mem_cons_self ..))
      · simp at hq; subst hq; exact hRt.base hW4
  have HlT : Hid (∀ g, vt.ownBlock = some g → w4.heap.size ≤ g ∧ g < w5.heap.size) := fun g hg => World.ownsRow.lt hRt g hg
  have hs5 := hb5.size
  have HOT : Hid _ := HoT
  clear hRt hb5 F4 HoT
  have hRa9 : TkR w5 w.heap.size va L := F5.out.rows (va, L) (List.mem_cons_self ..)
  obtain ⟨aa, ka, hva, hka⟩ := hRa9.slice
  clear hRa9
  subst hva
  go_wp2
  go_loopw [12] (fun iv wr => ∃ (i : Nat), iv = .int .i64 (i : Int) ∧ i ≤ L.length ∧ Hid (TkR wr w.heap.size (.slice aa L.length ka) (List.replicate i (ctK 70) ++ L.drop i)) ∧ Hid (FrS w wr gx gy s t 0 [(vw, L), (vt, L)] [(er, C, P)]) ∧ Hid (w5.heap.size ≤ wr.heap.size)) (fun i _ => L.length - (intOf i).toNat)
  case atStart => exact ⟨0, rfl, Nat.zero_le _, F5.out.rows (.slice aa L.length ka, L) (List.mem_cons_self ..), ⟨F5.out.bel, F5.out.ord, F5.out.x, F5.out.y, fun q hq => F5.out.rows q (List.mem_cons_of_mem _ hq), F5.out.errs⟩, Nat.le_refl _⟩
  case round =>
    obtain ⟨i, rfl, hi, HR, HF, HZ⟩ := hrel
    by_cases hlt : i < L.length
    · have hii : (i : Int) < (L.length : Int) := by omega
      obtain ⟨c0, hc0⟩ : ∃ c0, (List.replicate i (ctK 70) ++ L.drop i)[i]? = some c0 := ⟨_, List.getElem?_eq_getElem (by simp; omega)⟩
      obtain ⟨ga, cap, e1, e2, e3⟩ := HR.out.cell (j := 0) hc0 rfl
      simp only [Value.slice.injEq] at e1
      obtain ⟨rfl, -, -⟩ := e1
      clear e3
      have hth := HR.out.there (i := i) (by simp; omega)
      have p0 : wr.cell? ⟨ga, i * 9, none⟩ = some (.int .i64 c0.kind) := by
        obtain ⟨g', _, q1, q2, q3⟩ := HR.out.cell (j := 0) hc0 rfl
        rw [e2] at q2
        cases q2
        exact q3
      have f0 : wr.frozen? ⟨ga, i * 9, none⟩ = false := (hth 0 (by omega)).2
      have p1 : wr.cell? ⟨ga, i * 9 + 1, none⟩ = some (.int .i64 (c0.fr : Int)) := by
        obtain ⟨g', _, q1, q2, q3⟩ := HR.out.cell (j := 1) hc0 rfl
        rw [e2] at q2
        cases q2
        exact q3
      have f1 : wr.frozen? ⟨ga, i * 9 + 1, none⟩ = false := (hth 1 (by omega)).2
      have p2 : wr.cell? ⟨ga, i * 9 + 2, none⟩ = some (.int .i64 (c0.to : Int)) := by
        obtain ⟨g', _, q1, q2, q3⟩ := HR.out.cell (j := 2) hc0 rfl
        rw [e2] at q2
        cases q2
        exact q3
      have f2 : wr.frozen? ⟨ga, i * 9 + 2, none⟩ = false := (hth 2 (by omega)).2
      have p3 : wr.cell? ⟨ga, i * 9 + 3, none⟩ = some (.string (str c0.word)) := by
        obtain ⟨g', _, q1, q2, q3⟩ := HR.out.cell (j := 3) hc0 rfl
        rw [e2] at q2
        cases q2
        exact q3
      have f3 : wr.frozen? ⟨ga, i * 9 + 3, none⟩ = false := (hth 3 (by omega)).2
      have p4 : wr.cell? ⟨ga, i * 9 + 4, none⟩ = some (.int .i64 c0.num.kind) := by
        obtain ⟨g', _, q1, q2, q3⟩ := HR.out.cell (j := 4) hc0 rfl
        rw [e2] at q2
        cases q2
        exact q3
      have f4 : wr.frozen? ⟨ga, i * 9 + 4, none⟩ = false := (hth 4 (by omega)).2
      have p5 : wr.cell? ⟨ga, i * 9 + 5, none⟩ = some (.bool c0.num.neg) := by
        obtain ⟨g', _, q1, q2, q3⟩ := HR.out.cell (j := 5) hc0 rfl
        rw [e2] at q2
        cases q2
        exact q3
      have f5 : wr.frozen? ⟨ga, i * 9 + 5, none⟩ = false := (hth 5 (by omega)).2
      have p6 : wr.cell? ⟨ga, i * 9 + 6, none⟩ = some (.string (str c0.num.num)) := by
        obtain ⟨g', _, q1, q2, q3⟩ := HR.out.cell (j := 6) hc0 rfl
        rw [e2] at q2
        cases q2
        exact q3
      have f6 : wr.frozen? ⟨ga, i * 9 + 6, none⟩ = false := (hth 6 (by omega)).2
      have p7 : wr.cell? ⟨ga, i * 9 + 7, none⟩ = some (.int .i64 c0.num.exp) := by
        obtain ⟨g', _, q1, q2, q3⟩ := HR.out.cell (j := 7) hc0 rfl
        rw [e2] at q2
        cases q2
        exact q3
      have f7 : wr.frozen? ⟨ga, i * 9 + 7, none⟩ = false := (hth 7 (by omega)).2
      have p8 : wr.cell? ⟨ga, i * 9 + 8, none⟩ = some (.string (str c0.num.den)) := by
        obtain ⟨g', _, q1, q2, q3⟩ := HR.out.cell (j := 8) hc0 rfl
        rw [e2] at q2
        cases q2
        exact q3
      have f8 : wr.frozen? ⟨ga, i * 9 + 8, none⟩ = false := (hth 8 (by omega)).2
      clear hth hc0
      have HS : Hid (TkR (wr.setCells ga (i * 9) (tkc (ctK 70))) w.heap.size (.slice (some ⟨ga, 0, none⟩) L.length ka) (List.replicate (i + 1) (ctK 70) ++ L.drop (i + 1))) := by
        have h := HR.out.setM (i := i) (by simp; omega) (ctK 70)
        rw [rep_set hlt] at h
        exact h
      have HT9 : Tn ga wr (wr.setCells ga (i * 9) (tkc (ctK 70))) := tn_setCells ga _ _ (Tn.refl _ _)
      have HZ2 : Hid (w5.heap.size ≤ (wr.setCells ga (i * 9) (tkc (ctK 70))).heap.size) := Nat.le_trans HZ.out HT9.size
      have HF2 : Hid (FrS w (wr.setCells ga (i * 9) (tkc (ctK 70))) gx gy s t 0 [(vw, L), (vt, L)] [(er, C, P)]) := by
        have hb := HlA.out ga e2
        refine HF.out.row HR.out (by rw [e2]; exact tn_grown HT9) ?_ ?_
        · rcases HoA.out with h | h
          · exact Or.inl h
          · exact Or.inr (fun q hq => by simp at hq; subst hq; exact h)
        · intro q hq
          refine Or.inl ⟨hq, fun b hb2 => ?_⟩
          rw [e2] at hb2
          cases hb2
          intro h9
          simp only [List.mem_cons, List.not_mem_nil, or_false] at hq
          rcases hq with rfl | rfl
          · have := HlW.out _ h9; omega
          · have := HlT.out _ h9; omega
      clear e2 HT9
      generalize str c0.word = W1 at *
      generalize str c0.num.num = W2 at *
      generalize str c0.num.den = W3 at *
      go_wp2
      go_roundw
      case rel => exact ⟨i + 1, by go_num, by omega, HS, HF2, HZ2⟩
      case measure => simp [intOf]; omega
    · have hii : ¬ (i : Int) < (L.length : Int) := by omega
      have hie : i = L.length := by omega
      subst hie
      rw [List.drop_length, List.append_nil] at HR
      have hb6 : Below wr.heap.size wr (wr.alloc (.cells (tkcs [ctK 70, ctK 70]).toArray 32)) := (Below.refl _ _).alloc (Nat.le_refl _) _
      have hsrc : TkR (wr.alloc (.cells (tkcs [ctK 70, ctK 70]).toArray 32)) 0 (.slice (some ⟨wr.heap.size, 0, none⟩) 2 2) [ctK 70, ctK 70] :=
        ⟨rfl, Or.inr ⟨wr.heap.size, 2, _, rfl, Nat.zero_le _, Bk.new wr 32 _, Nat.le_refl _, by unfold maxLen; omega, rfl, rfl⟩⟩
      have hrow := HR.out.later hb6
      have hlenG : (List.replicate L.length (ctK 70)).length + [ctK 70, ctK 70].length ≤ 1000000000 := by simp; omega
      have HFa := HF.out.later hb6
      have hbase : w.heap.size ≤ (wr.alloc (.cells (tkcs [ctK 70, ctK 70]).toArray 32)).heap.size := HFa.bel.size
      have hsz6 := hb6.size
      have hZ := HZ.out
      have HFA : Hid _ := HFa
      have HROW : Hid _ := hrow
      clear HF HR HFa hb6
      go_wp2_with (at_builtin; refine wpList_appK rfl _ _ rfl rfl hrow rfl hsrc (by simp) hlenG hbase ?_)
      intro vg w6 hRg hg6 hRa6 hgb
      have F6 : Hid (FrS w w6 gx gy s t 0 [(vw, L), (vt, L), (.slice aa L.length ka, List.replicate L.length (ctK 70)), (vg, List.replicate L.length (ctK 70) ++ [ctK 70, ctK 70])] [(er, C, P)]) := by
        refine HFA.out.row HROW.out hg6 ?_ ?_
        · rcases HoA.out with h | h
          · exact Or.inl h
          · exact Or.inr (fun q hq => by simp at hq; subst hq; exact h)
        · intro q hq
          simp only [List.mem_cons, List.not_mem_nil, or_false] at hq
          rcases hq with rfl | rfl | rfl | rfl
          · exact Or.inl ⟨by simp, fun b hb h9 => by have := HlW.out _ h9; have := HlA.out _ hb; omega⟩
          · exact Or.inl ⟨by simp, fun b hb h9 => by have := HlT.out _ h9; have := HlA.out _ hb; omega⟩
          · exact Or.inr hRa6
          · exact Or.inr hRg
      have HlG : Hid (∀ g, vg.ownBlock = some g → g < w3.heap.size ∨ w5.heap.size ≤ g) := fun g hg => by
        rcases hgb with h | ⟨g', h1, h2⟩
        · rw [h] at hg; exact Or.inl (HlA.out g hg).2
        · rw [h1] at hg
          cases hg
          exact Or.inr (by omega)
      have hs6 : w5.heap.size ≤ w6.heap.size := by 
        have h6 := hg6.size
        have e6 : ∀ (o : Obj), (wr.alloc o).heap.size = wr.heap.size + 1 := fun o => by simp
        rw [e6] at h6
        omega
      clear hRg hg6 hRa6 hgb hsrc hrow hbase HFA HROW hlenG hsz6 hZ HZ
      have r1 : TkR w6 w.heap.size vt L := F6.out.rows (vt, L) (by simp)
      have r2 : TkR w6 w.heap.size vw L := F6.out.rows (vw, L) (by simp)
      have r3 : TkR w6 w.heap.size vg (List.replicate L.length (ctK 70) ++ [ctK 70, ctK 70]) := F6.out.rows (vg, _) (by simp)
      have cE := eq18_same r1.rt r2.rt (by simp; omega)
      obtain ⟨at_, kt, ht9, _⟩ := r1.slice
      obtain ⟨aw, kw, hw9, _⟩ := r2.slice
      obtain ⟨ag, kg, hg9, _⟩ := r3.slice
      subst ht9 hw9 hg9
      clear r1 r2 r3
      go_wp2_with fail
      refine cE.mono ?_
      rintro e w7 ⟨rfl, hb7⟩
      clear cE
      have F7 : Hid _ := F6.out.later hb7
      have hs7 : w5.heap.size ≤ w7.heap.size := by have := hb7.size; omega
      clear F6 hb7
      go_wp2
      go_loopw [14] (fun iv wr => ∃ (i : Nat), iv = .int .i64 (i : Int) ∧ i ≤ L.length ∧ Hid (TkR wr w.heap.size (.slice at_ L.length kt) (List.replicate i (ctK 71) ++ L.drop i)) ∧ Hid (FrS w wr gx gy s t 0 [(.slice aw L.length kw, L), (.slice aa L.length ka, List.replicate L.length (ctK 70)), (.slice ag (List.replicate L.length (ctK 70) ++ [ctK 70, ctK 70]).length kg, List.replicate L.length (ctK 70) ++ [ctK 70, ctK 70])] [(er, C, P)]) ∧ Hid (w5.heap.size ≤ wr.heap.size)) (fun i _ => L.length - (intOf i).toNat)
      case atStart =>
        refine ⟨0, rfl, Nat.zero_le _, F7.out.rows (.slice at_ L.length kt, L) (by simp), ⟨F7.out.bel, F7.out.ord, F7.out.x, F7.out.y, fun q hq => ?_, F7.out.errs⟩, hs7⟩
        simp only [List.mem_cons, List.not_mem_nil, or_false] at hq
        rcases hq with rfl | rfl | rfl
        · exact F7.out.rows _ (by simp)
        · exact F7.out.rows _ (by simp)
        · exact F7.out.rows _ (by simp)
      case round =>
        obtain ⟨i, rfl, hi, HR, HF, HZ⟩ := hrel
        by_cases hlt : i < L.length
        · have hii : (i : Int) < (L.length : Int) := by omega
          obtain ⟨c0, hc0⟩ : ∃ c0, (List.replicate i (ctK 71) ++ L.drop i)[i]? = some c0 := ⟨_, List.getElem?_eq_getElem (by simp; omega)⟩
          obtain ⟨ga, cap, e1, e2, e3⟩ := HR.out.cell (j := 0) hc0 rfl
          simp only [Value.slice.injEq] at e1
          obtain ⟨rfl, -, -⟩ := e1
          clear e3
          have hth := HR.out.there (i := i) (by simp; omega)
          have p0 : wr.cell? ⟨ga, i * 9, none⟩ = some (.int .i64 c0.kind) := by
            obtain ⟨g', _, q1, q2, q3⟩ := HR.out.cell (j := 0) hc0 rfl
            rw [e2] at q2
            cases q2
            exact q3
          have f0 : wr.frozen? ⟨ga, i * 9, none⟩ = false := (hth 0 (by omega)).2
          have p1 : wr.cell? ⟨ga, i * 9 + 1, none⟩ = some (.int .i64 (c0.fr : Int)) := by
            obtain ⟨g', _, q1, q2, q3⟩ := HR.out.cell (j := 1) hc0 rfl
            rw [e2] at q2
            cases q2
            exact q3
          have f1 : wr.frozen? ⟨ga, i * 9 + 1, none⟩ = false := (hth 1 (by omega)).2
          have p2 : wr.cell? ⟨ga, i * 9 + 2, none⟩ = some (.int .i64 (c0.to : Int)) := by
            obtain ⟨g', _, q1, q2, q3⟩ := HR.out.cell (j := 2) hc0 rfl
            rw [e2] at q2
            cases q2
            exact q3
          have f2 : wr.frozen? ⟨ga, i * 9 + 2, none⟩ = false := (hth 2 (by omega)).2
          have p3 : wr.cell? ⟨ga, i * 9 + 3, none⟩ = some (.string (str c0.word)) := by
            obtain ⟨g', _, q1, q2, q3⟩ := HR.out.cell (j := 3) hc0 rfl
            rw [e2] at q2
            cases q2
            exact q3
          have f3 : wr.frozen? ⟨ga, i * 9 + 3, none⟩ = false := (hth 3 (by omega)).2
          have p4 : wr.cell? ⟨ga, i * 9 + 4, none⟩ = some (.int .i64 c0.num.kind) := by
            obtain ⟨g', _, q1, q2, q3⟩ := HR.out.cell (j := 4) hc0 rfl
            rw [e2] at q2
            cases q2
            exact q3
          have f4 : wr.frozen? ⟨ga, i * 9 + 4, none⟩ = false := (hth 4 (by omega)).2
          have p5 : wr.cell? ⟨ga, i * 9 + 5, none⟩ = some (.bool c0.num.neg) := by
            obtain ⟨g', _, q1, q2, q3⟩ := HR.out.cell (j := 5) hc0 rfl
            rw [e2] at q2
            cases q2
            exact q3
          have f5 : wr.frozen? ⟨ga, i * 9 + 5, none⟩ = false := (hth 5 (by omega)).2
          have p6 : wr.cell? ⟨ga, i * 9 + 6, none⟩ = some (.string (str c0.num.num)) := by
            obtain ⟨g', _, q1, q2, q3⟩ := HR.out.cell (j := 6) hc0 rfl
            rw [e2] at q2
            cases q2
            exact q3
          have f6 : wr.frozen? ⟨ga, i * 9 + 6, none⟩ = false := (hth 6 (by omega)).2
          have p7 : wr.cell? ⟨ga, i * 9 + 7, none⟩ = some (.int .i64 c0.num.exp) := by
            obtain ⟨g', _, q1, q2, q3⟩ := HR.out.cell (j := 7) hc0 rfl
            rw [e2] at q2
            cases q2
            exact q3
          have f7 : wr.frozen? ⟨ga, i * 9 + 7, none⟩ = false := (hth 7 (by omega)).2
          have p8 : wr.cell? ⟨ga, i * 9 + 8, none⟩ = some (.string (str c0.num.den)) := by
            obtain ⟨g', _, q1, q2, q3⟩ := HR.out.cell (j := 8) hc0 rfl
            rw [e2] at q2
            cases q2
            exact q3
          have f8 : wr.frozen? ⟨ga, i * 9 + 8, none⟩ = false := (hth 8 (by omega)).2
          clear hth hc0
          have HS : Hid (TkR (wr.setCells ga (i * 9) (tkc (ctK 71))) w.heap.size (.slice (some ⟨ga, 0, none⟩) L.length kt) (List.replicate (i + 1) (ctK 71) ++ L.drop (i + 1))) := by
            have h := HR.out.setM (i := i) (by simp; omega) (ctK 71)
            rw [rep_set hlt] at h
            exact h
          have HT9 : Tn ga wr (wr.setCells ga (i * 9) (tkc (ctK 71))) := tn_setCells ga _ _ (Tn.refl _ _)
          have HZ2 : Hid (w5.heap.size ≤ (wr.setCells ga (i * 9) (tkc (ctK 71))).heap.size) := Nat.le_trans HZ.out HT9.size
          have HF2 : Hid (FrS w (wr.setCells ga (i * 9) (tkc (ctK 71))) gx gy s t 0 [(.slice aw L.length kw, L), (.slice aa L.length ka, List.replicate L.length (ctK 70)), (.slice ag (List.replicate L.length (ctK 70) ++ [ctK 70, ctK 70]).length kg, List.replicate L.length (ctK 70) ++ [ctK 70, ctK 70])] [(er, C, P)]) := by
            have hb := HlT.out ga e2
            refine HF.out.row HR.out (by rw [e2]; exact tn_grown HT9) ?_ ?_
            · rcases HOT.out with h | h
              · exact Or.inl h
              · exact Or.inr (fun q hq => by simp at hq; subst hq; exact h)
            · intro q hq
              refine Or.inl ⟨hq, fun b hb2 => ?_⟩
              rw [e2] at hb2
              cases hb2
              intro h9
              simp only [List.mem_cons, List.not_mem_nil, or_false] at hq
              rcases hq with rfl | rfl | rfl
              · have := HlW.out _ h9; omega
              · have := HlA.out _ h9; omega
              · have := HlG.out _ h9; omega
          clear e2 HT9
          generalize str c0.word = W1 at *
          generalize str c0.num.num = W2 at *
          generalize str c0.num.den = W3 at *
          go_wp2
          go_roundw
          case rel => exact ⟨i + 1, by go_num, by omega, HS, HF2, HZ2⟩
          case measure => simp [intOf]; omega
        · have hii : ¬ (i : Int) < (L.length : Int) := by omega
          have hie : i = L.length := by omega
          subst hie
          rw [List.drop_length, List.append_nil] at HR
          clear HR
          have cP := peek18_any HF.out.x
          unfold PeekR at cP
          obtain ⟨b1, b2, b3, b5, b8, b6, b4, b7, b9, eA⟩ := ctA_form 0 (cutR (s.data.toList.drop 0))
          rw [eA] at cP
          have hq0 : ctC (cutR (s.data.toList.drop 0)) = 0 → ctW 0 (cutR (s.data.toList.drop 0)) = -1 := by
            unfold ctC
            intro h
            split at h
            · exact absurd h (by decide)
            · rename_i h2; exact ctW_none h2
          have HQ0 : Hid _ := hq0
          have cN : Hid (∀ w9, RdS w9 gx s 0 → _) := fun w9 h9 => next18_any (w := w9) (g := gx) (k := 0) (s := s) (by omega) h9
          unfold NextR at cN
          rw [eA] at cN
          generalize ctC (cutR (s.data.toList.drop 0)) = C5 at *
          generalize ctW 0 (cutR (s.data.toList.drop 0)) = P5 at *
          clear eA hq0
          go_wp2_with fail
          refine cP.mono ?_
          rintro e w8 ⟨e5, rfl, hE5, hb8⟩
          clear cP
          have F8 : Hid (FrS w w8 gx gy s t 0 [(.slice aw L.length kw, L), (.slice aa L.length ka, List.replicate L.length (ctK 70)), (.slice ag (List.replicate L.length (ctK 70) ++ [ctK 70, ctK 70]).length kg, List.replicate L.length (ctK 70) ++ [ctK 70, ctK 70])] [(er, C, P), (e5, C5, P5)]) := by
            have h := HF.out.later hb8
            refine ⟨h.bel, h.ord, h.x, h.y, h.rows, fun q hq => ?_⟩
            simp only [List.mem_cons, List.not_mem_nil, or_false] at hq
            rcases hq with rfl | rfl
            · exact h.errs _ (by simp)
            · exact hE5
          clear HF hE5 hb8 HZ
          have hbB : Below w8.heap.size w8 (w8.alloc (.cells #[.int .i64 b1, .int .i64 b2, .int .i64 b3, .string b4, .int .i64 b5, .bool b6, .string b7, .int .i64 b8, .string b9] 32)) := (Below.refl _ _).alloc (Nat.le_refl _) _
          have F9 : Hid _ := F8.out.later hbB
          have B15 : Hid (Bk (w8.alloc (.cells #[.int .i64 b1, .int .i64 b2, .int .i64 b3, .string b4, .int .i64 b5, .bool b6, .string b7, .int .i64 b8, .string b9] 32)) w8.heap.size 32 #[.int .i64 b1, .int .i64 b2, .int .i64 b3, .string b4, .int .i64 b5, .bool b6, .string b7, .int .i64 b8, .string b9]) := Bk.new _ _ _
          clear F8 hbB
          go_wp2
          generalize w8.alloc (.cells #[.int .i64 b1, .int .i64 b2, .int .i64 b3, .string b4, .int .i64 b5, .bool b6, .string b7, .int .i64 b8, .string b9] 32) = w9 at *
          generalize w8.heap.size = B1 at *
          go_loopw [17] (fun iv wr => ∃ (i : Nat), iv = .int .i64 (i : Int) ∧ i ≤ 3 ∧ Hid (FrS w wr gx gy s t 0 [(.slice aw L.length kw, L), (.slice aa L.length ka, List.replicate L.length (ctK 70)), (.slice ag (List.replicate L.length (ctK 70) ++ [ctK 70, ctK 70]).length kg, List.replicate L.length (ctK 70) ++ [ctK 70, ctK 70])] [(er, C, P), (e5, C5, P5)]) ∧ Hid (Bk wr B1 32 #[.int .i64 b1, .int .i64 b2, .int .i64 b3, .string b4, .int .i64 b5, .bool b6, .string b7, .int .i64 b8, .string b9])) (fun i _ => 3 - (intOf i).toNat)
          case atStart => exact ⟨0, rfl, by omega, F9, B15⟩
          case round =>
            obtain ⟨i, rfl, hi, HF, HB⟩ := hrel
            by_cases hlt : i < 3
            · have hii : (i : Int) < 3 := by omega
              obtain ⟨k2, hy⟩ := HF.out.y
              obtain ⟨vs, hvs⟩ := hy.type
              have cY := next18_any (by omega) hy
              unfold NextR at cY
              clear hy
              go_wp2_with fail
              refine cY.mono ?_
              rintro e wy ⟨ey, rfl, _, hy2, hTy⟩
              have HF2 : Hid _ := HF.out.tnY ⟨_, hy2⟩ hTy
              have HB2 : Hid (Bk wy B1 32 #[.int .i64 b1, .int .i64 b2, .int .i64 b3, .string b4, .int .i64 b5, .bool b6, .string b7, .int .i64 b8, .string b9]) := Bk.tn9 HB.out hTy (fun e => by
                have h := HB.out
                unfold Bk at h
                rw [e, hvs] at h
                cases h)
              clear cY hy2 hTy HF HB hvs
              go_wp2
              go_roundw
              case rel => exact ⟨i + 1, by go_num, by omega, HF2, HB2⟩
              case measure => simp [intOf]; omega
            · have hii : ¬ (i : Int) < 3 := by omega
              clear F9 B15
              have c10 := cT.out wr
              go_wp2_with fail
              refine c10.mono ?_
              rintro e w10 ⟨v10, er10, rfl, _, _, _, hb10⟩
              clear c10
              have F10 : Hid _ := HF.out.later hb10
              have B10 : Hid (Bk w10 B1 32 #[.int .i64 b1, .int .i64 b2, .int .i64 b3, .string b4, .int .i64 b5, .bool b6, .string b7, .int .i64 b8, .string b9]) := HB.out.later hb10
              clear HF HB hb10
              have c11 := cS.out w10
              go_wp2_with fail
              refine c11.mono ?_
              rintro e w11 ⟨v18, er18, rfl, hR18, hE18, _, hb11⟩
              clear c11
              have hW10 : w.heap.size ≤ w10.heap.size := F10.out.bel.size
              have F11 : Hid (FrS w w11 gx gy s t 0 [(v18, L), (.slice aw L.length kw, L), (.slice aa L.length ka, List.replicate L.length (ctK 70)), (.slice ag (List.replicate L.length (ctK 70) ++ [ctK 70, ctK 70]).length kg, List.replicate L.length (ctK 70) ++ [ctK 70, ctK 70])] [(er, C, P), (e5, C5, P5), (er18, C, P)]) := by
                have h := F10.out.later hb11
                refine ⟨h.bel, h.ord, h.x, h.y, fun q hq => ?_, fun q hq => ?_⟩
                · rcases List.mem_cons.mp hq with rfl | hq
                  · exact hR18.base hW10
                  · exact h.rows q hq
                · simp only [List.mem_cons, List.not_mem_nil, or_false] at hq
                  rcases hq with rfl | rfl | rfl
                  · exact h.errs _ (by simp)
                  · exact h.errs _ (by simp)
                  · exact hE18
              have B11 : Hid (Bk w11 B1 32 #[.int .i64 b1, .int .i64 b2, .int .i64 b3, .string b4, .int .i64 b5, .bool b6, .string b7, .int .i64 b8, .string b9]) := B10.out.later hb11
              clear F10 B10 hR18 hE18 hb11 hW10
              have cX := cN.out w11 F11.out.x
              obtain ⟨vs, hvs⟩ := F11.out.x.type
              go_wp2_with fail
              refine cX.mono ?_
              rintro e w12 ⟨e21, rfl, hE21, hx12, hT12⟩
              clear cX cN
              have F12 : Hid (FrS w w12 gx gy s t (nxK 0 (cutR (s.data.toList.drop 0))) [(v18, L), (.slice aw L.length kw, L), (.slice aa L.length ka, List.replicate L.length (ctK 70)), (.slice ag (List.replicate L.length (ctK 70) ++ [ctK 70, ctK 70]).length kg, List.replicate L.length (ctK 70) ++ [ctK 70, ctK 70])] [(er, C, P), (e5, C5, P5), (er18, C, P), (e21, C5, P5)]) := by
                have h := F11.out.tnX hx12 hT12
                refine ⟨h.bel, h.ord, h.x, h.y, h.rows, fun q hq => ?_⟩
                simp only [List.mem_cons, List.not_mem_nil, or_false] at hq
                rcases hq with rfl | rfl | rfl | rfl
                · exact h.errs _ (by simp)
                · exact h.errs _ (by simp)
                · exact h.errs _ (by simp)
                · exact hE21
              have B12 : Hid (Bk w12 B1 32 #[.int .i64 b1, .int .i64 b2, .int .i64 b3, .string b4, .int .i64 b5, .bool b6, .string b7, .int .i64 b8, .string b9]) := Bk.tn9 B11.out hT12 (fun e => by
                have h := B11.out
                unfold Bk at h
                rw [e, hvs] at h
                cases h)
              clear F11 B11 hE21 hx12 hT12 hvs
              have hbC : Below w12.heap.size w12 (w12.alloc (.cells #[.int .i64 b1, .int .i64 b2, .int .i64 b3, .string b4, .int .i64 b5, .bool b6, .string b7, .int .i64 b8, .string b9] 32)) := (Below.refl _ _).alloc (Nat.le_refl _) _
              have F13 : Hid _ := F12.out.later hbC
              have B13 : Hid (Bk (w12.alloc (.cells #[.int .i64 b1, .int .i64 b2, .int .i64 b3, .string b4, .int .i64 b5, .bool b6, .string b7, .int .i64 b8, .string b9] 32)) B1 32 #[.int .i64 b1, .int .i64 b2, .int .i64 b3, .string b4, .int .i64 b5, .bool b6, .string b7, .int .i64 b8, .string b9]) := B12.out.later hbC
              have D13 : Hid (Bk (w12.alloc (.cells #[.int .i64 b1, .int .i64 b2, .int .i64 b3, .string b4, .int .i64 b5, .bool b6, .string b7, .int .i64 b8, .string b9] 32)) w12.heap.size 32 #[.int .i64 b1, .int .i64 b2, .int .i64 b3, .string b4, .int .i64 b5, .bool b6, .string b7, .int .i64 b8, .string b9]) := Bk.new _ _ _
              have hl13 := B12.out.lt
              clear F12 B12 hbC
              go_wp2
              generalize w12.alloc (.cells #[.int .i64 b1, .int .i64 b2, .int .i64 b3, .string b4, .int .i64 b5, .bool b6, .string b7, .int .i64 b8, .string b9] 32) = w13 at *
              generalize w12.heap.size = B2 at *
              have hne : B1 ≠ B2 := by omega
              clear hl13
              have hrep : List.replicate L.length (ctK 70) ++ [ctK 70, ctK 70] = List.replicate (L.length + 2) (ctK 70) := by
                exact List.replicate_append_replicate (n := L.length) (m := 2) (a := ctK 70)
              have HRG : Hid (Rt w13 (.slice ag (L.length + 2) kg) ((List.replicate (L.length + 2) (ctK 70)).map Ct.tg)) := by
                have h := (F13.out.rows (.slice ag (List.replicate L.length (ctK 70) ++ [ctK 70, ctK 70]).length kg, List.replicate L.length (ctK 70) ++ [ctK 70, ctK 70]) (by simp)).rt
                rw [hrep] at h
                have e : (List.replicate (L.length + 2) (ctK 70)).length = L.length + 2 := by simp
                rw [e] at h
                exact h
              have HRA : Hid (Rt w13 (.slice aa L.length ka) ((List.replicate L.length (ctK 70)).map Ct.tg)) := (F13.out.rows (.slice aa L.length ka, List.replicate L.length (ctK 70)) (by simp)).rt
              clear hrep
              go_loopw [22] (fun iv wr => ∃ (i : Nat), iv = .int .i64 (i : Int) ∧ i ≤ L.length + 2 ∧ wr = w13) (fun i _ => L.length + 2 - (intOf i).toNat)
              case atStart => exact ⟨0, rfl, by omega, rfl⟩
              case round =>
                obtain ⟨i, rfl, hi, rfl⟩ := hrel
                by_cases hlt : i < L.length + 2
                · have hii : (i : Int) < (L.length : Int) + 2 := by omega
                  obtain ⟨gg, og, rfl, hcg⟩ := HRG.out.at (i := i) (t := (ctK 70).tg) (by rw [List.getElem?_map, List.getElem?_replicate, if_pos hlt]; rfl)
                  have p0 : wr.cell? ⟨gg, og + i * 9, none⟩ = some (.int .i64 70) := hcg 0 _ rfl
                  clear hcg
                  by_cases hla : i < L.length
                  · have hib : (i : Int) < (L.length : Int) := by omega
                    obtain ⟨ga, oa, rfl, hca⟩ := HRA.out.at (i := i) (t := (ctK 70).tg) (by rw [List.getElem?_map, List.getElem?_replicate, if_pos hla]; rfl)
                    have p1 : wr.cell? ⟨ga, oa + i * 9, none⟩ = some (.int .i64 70) := hca 0 _ rfl
                    clear hca
                    go_wp2
                    go_roundw
                    case rel => exact ⟨i + 1, by go_num, by omega, trivial⟩
                    case measure => simp [intOf]; omega
                  · have hib : ¬ (i : Int) < (L.length : Int) := by omega
                    go_wp2
                    go_roundw
                    case rel => exact ⟨i + 1, by go_num, by omega, trivial⟩
                    case measure => simp [intOf]; omega
                · have hii : ¬ (i : Int) < (L.length : Int) + 2 := by omega
                  have BL : ∀ w', Below wr.heap.size wr w' → Below w.heap.size w w' := fun w' hb => F13.out.bel.trans (hb.mono F13.out.bel.size)
                  have cA := alive18_any (w := wr) (fun w' hb => TL.out w' (BL w' hb))
                  clear BL
                  clear HRG HRA
                  go_wp2_with fail
                  refine cA.mono ?_
                  rintro e w14 ⟨rfl, hb⟩
                  clear cA
                  have F14 : Hid _ := F13.out.later hb
                  have B14 : Hid (Bk w14 B1 32 #[.int .i64 b1, .int .i64 b2, .int .i64 b3, .string b4, .int .i64 b5, .bool b6, .string b7, .int .i64 b8, .string b9]) := B13.out.later hb
                  have D14 : Hid (Bk w14 B2 32 #[.int .i64 b1, .int .i64 b2, .int .i64 b3, .string b4, .int .i64 b5, .bool b6, .string b7, .int .i64 b8, .string b9]) := D13.out.later hb
                  clear F13 B13 D13 hb
                  have r1 : TkR w14 w.heap.size v18 L := F14.out.rows (v18, L) (by simp)
                  have r2 : TkR w14 w.heap.size (.slice aw L.length kw) L := F14.out.rows (.slice aw L.length kw, L) (by simp)
                  have cE := eq18_same r1.rt r2.rt (by simp; omega)
                  clear r1 r2
                  go_wp2_with fail
                  refine cE.mono ?_
                  rintro e w15 ⟨rfl, hb⟩
                  clear cE
                  have F15 : Hid _ := F14.out.later hb
                  have B15 : Hid (Bk w15 B1 32 #[.int .i64 b1, .int .i64 b2, .int .i64 b3, .string b4, .int .i64 b5, .bool b6, .string b7, .int .i64 b8, .string b9]) := B14.out.later hb
                  have D15 : Hid (Bk w15 B2 32 #[.int .i64 b1, .int .i64 b2, .int .i64 b3, .string b4, .int .i64 b5, .bool b6, .string b7, .int .i64 b8, .string b9]) := D14.out.later hb
                  clear F14 B14 D14 hb
                  have c0 := code18_any (F15.out.errs (er, C, P) (by simp)) (VL.out _ F15.out.bel)
                  go_wp2_with fail
                  refine c0.mono ?_
                  rintro e w16 ⟨rfl, hb⟩
                  clear c0
                  have F16 : Hid _ := F15.out.later hb
                  have B16 : Hid (Bk w16 B1 32 #[.int .i64 b1, .int .i64 b2, .int .i64 b3, .string b4, .int .i64 b5, .bool b6, .string b7, .int .i64 b8, .string b9]) := B15.out.later hb
                  have D16 : Hid (Bk w16 B2 32 #[.int .i64 b1, .int .i64 b2, .int .i64 b3, .string b4, .int .i64 b5, .bool b6, .string b7, .int .i64 b8, .string b9]) := D15.out.later hb
                  clear F15 B15 D15 hb
                  have c0 := code18_any (F16.out.errs (er18, C, P) (by simp)) (VL.out _ F16.out.bel)
                  go_wp2_with fail
                  refine c0.mono ?_
                  rintro e w17 ⟨rfl, hb⟩
                  clear c0
                  have F17 : Hid _ := F16.out.later hb
                  have B17 : Hid (Bk w17 B1 32 #[.int .i64 b1, .int .i64 b2, .int .i64 b3, .string b4, .int .i64 b5, .bool b6, .string b7, .int .i64 b8, .string b9]) := B16.out.later hb
                  have D17 : Hid (Bk w17 B2 32 #[.int .i64 b1, .int .i64 b2, .int .i64 b3, .string b4, .int .i64 b5, .bool b6, .string b7, .int .i64 b8, .string b9]) := D16.out.later hb
                  clear F16 B16 D16 hb
                  have c0 := place18_any (F17.out.errs (er, C, P) (by simp)) hC0.out (VL.out _ F17.out.bel)
                  go_wp2_with fail
                  refine c0.mono ?_
                  rintro e w18 ⟨rfl, hb⟩
                  clear c0
                  have F18 : Hid _ := F17.out.later hb
                  have B18 : Hid (Bk w18 B1 32 #[.int .i64 b1, .int .i64 b2, .int .i64 b3, .string b4, .int .i64 b5, .bool b6, .string b7, .int .i64 b8, .string b9]) := B17.out.later hb
                  have D18 : Hid (Bk w18 B2 32 #[.int .i64 b1, .int .i64 b2, .int .i64 b3, .string b4, .int .i64 b5, .bool b6, .string b7, .int .i64 b8, .string b9]) := D17.out.later hb
                  clear F17 B17 D17 hb
                  have c0 := place18_any (F18.out.errs (er18, C, P) (by simp)) hC0.out (VL.out _ F18.out.bel)
                  go_wp2_with fail
                  refine c0.mono ?_
                  rintro e w19 ⟨rfl, hb⟩
                  clear c0
                  have F19 : Hid _ := F18.out.later hb
                  have B19 : Hid (Bk w19 B1 32 #[.int .i64 b1, .int .i64 b2, .int .i64 b3, .string b4, .int .i64 b5, .bool b6, .string b7, .int .i64 b8, .string b9]) := B18.out.later hb
                  have D19 : Hid (Bk w19 B2 32 #[.int .i64 b1, .int .i64 b2, .int .i64 b3, .string b4, .int .i64 b5, .bool b6, .string b7, .int .i64 b8, .string b9]) := D18.out.later hb
                  clear F18 B18 D18 hb
                  have y0 : w19.cell? ⟨B1, 0, none⟩ = some (.int .i64 b1) := B19.out.cell 0 rfl
                  have z0 : w19.cell? ⟨B2, 0, none⟩ = some (.int .i64 b1) := D19.out.cell 0 rfl
                  have y1 : w19.cell? ⟨B1, 1, none⟩ = some (.int .i64 b2) := B19.out.cell 1 rfl
                  have z1 : w19.cell? ⟨B2, 1, none⟩ = some (.int .i64 b2) := D19.out.cell 1 rfl
                  have y2 : w19.cell? ⟨B1, 2, none⟩ = some (.int .i64 b3) := B19.out.cell 2 rfl
                  have z2 : w19.cell? ⟨B2, 2, none⟩ = some (.int .i64 b3) := D19.out.cell 2 rfl
                  have y3 : w19.cell? ⟨B1, 3, none⟩ = some (.string b4) := B19.out.cell 3 rfl
                  have z3 : w19.cell? ⟨B2, 3, none⟩ = some (.string b4) := D19.out.cell 3 rfl
                  have y4 : w19.cell? ⟨B1, 4, none⟩ = some (.int .i64 b5) := B19.out.cell 4 rfl
                  have z4 : w19.cell? ⟨B2, 4, none⟩ = some (.int .i64 b5) := D19.out.cell 4 rfl
                  have y5 : w19.cell? ⟨B1, 5, none⟩ = some (.bool b6) := B19.out.cell 5 rfl
                  have z5 : w19.cell? ⟨B2, 5, none⟩ = some (.bool b6) := D19.out.cell 5 rfl
                  have y6 : w19.cell? ⟨B1, 6, none⟩ = some (.string b7) := B19.out.cell 6 rfl
                  have z6 : w19.cell? ⟨B2, 6, none⟩ = some (.string b7) := D19.out.cell 6 rfl
                  have y7 : w19.cell? ⟨B1, 7, none⟩ = some (.int .i64 b8) := B19.out.cell 7 rfl
                  have z7 : w19.cell? ⟨B2, 7, none⟩ = some (.int .i64 b8) := D19.out.cell 7 rfl
                  have y8 : w19.cell? ⟨B1, 8, none⟩ = some (.string b9) := B19.out.cell 8 rfl
                  have z8 : w19.cell? ⟨B2, 8, none⟩ = some (.string b9) := D19.out.cell 8 rfl
                  have c0 := code18_any (F19.out.errs (e5, C5, P5) (by simp)) (VL.out _ F19.out.bel)
                  go_wp2_with fail
                  refine c0.mono ?_
                  rintro e w20 ⟨rfl, hb⟩
                  clear c0
                  have F20 : Hid _ := F19.out.later hb
                  have B20 : Hid (Bk w20 B1 32 #[.int .i64 b1, .int .i64 b2, .int .i64 b3, .string b4, .int .i64 b5, .bool b6, .string b7, .int .i64 b8, .string b9]) := B19.out.later hb
                  have D20 : Hid (Bk w20 B2 32 #[.int .i64 b1, .int .i64 b2, .int .i64 b3, .string b4, .int .i64 b5, .bool b6, .string b7, .int .i64 b8, .string b9]) := D19.out.later hb
                  clear F19 B19 D19 hb
                  have c0 := code18_any (F20.out.errs (e21, C5, P5) (by simp)) (VL.out _ F20.out.bel)
                  go_wp2_with fail
                  refine c0.mono ?_
                  rintro e w21 ⟨rfl, hb⟩
                  clear c0
                  have F21 : Hid _ := F20.out.later hb
                  have B21 : Hid (Bk w21 B1 32 #[.int .i64 b1, .int .i64 b2, .int .i64 b3, .string b4, .int .i64 b5, .bool b6, .string b7, .int .i64 b8, .string b9]) := B20.out.later hb
                  have D21 : Hid (Bk w21 B2 32 #[.int .i64 b1, .int .i64 b2, .int .i64 b3, .string b4, .int .i64 b5, .bool b6, .string b7, .int .i64 b8, .string b9]) := D20.out.later hb
                  clear F20 B20 D20 hb
                  have c0 := place18_any (F21.out.errs (e5, C5, P5) (by simp)) HQ0.out (VL.out _ F21.out.bel)
                  go_wp2_with fail
                  refine c0.mono ?_
                  rintro e w22 ⟨rfl, hb⟩
                  clear c0
                  have F22 : Hid _ := F21.out.later hb
                  have B22 : Hid (Bk w22 B1 32 #[.int .i64 b1, .int .i64 b2, .int .i64 b3, .string b4, .int .i64 b5, .bool b6, .string b7, .int .i64 b8, .string b9]) := B21.out.later hb
                  have D22 : Hid (Bk w22 B2 32 #[.int .i64 b1, .int .i64 b2, .int .i64 b3, .string b4, .int .i64 b5, .bool b6, .string b7, .int .i64 b8, .string b9]) := D21.out.later hb
                  clear F21 B21 D21 hb
                  have c0 := place18_any (F22.out.errs (e21, C5, P5) (by simp)) HQ0.out (VL.out _ F22.out.bel)
                  go_wp2_with fail
                  refine c0.mono ?_
                  rintro e w23 ⟨rfl, hb⟩
                  clear c0
                  have F23 : Hid _ := F22.out.later hb
                  have B23 : Hid (Bk w23 B1 32 #[.int .i64 b1, .int .i64 b2, .int .i64 b3, .string b4, .int .i64 b5, .bool b6, .string b7, .int .i64 b8, .string b9]) := B22.out.later hb
                  have D23 : Hid (Bk w23 B2 32 #[.int .i64 b1, .int .i64 b2, .int .i64 b3, .string b4, .int .i64 b5, .bool b6, .string b7, .int .i64 b8, .string b9]) := D22.out.later hb
                  clear F22 B22 D22 hb
                  go_wp2
                  go_ret
                  exact ⟨rfl, F23.out.bel⟩

end Go.Proofs.YtfgpjplfplbcdaaGreatDoor

/- Layer 18: TokenJoins, both right. -/
import Derived.Test.YtnnpakllehldhaaGreatDoorTkPa
namespace Go.Proofs.YtnnpakllehldhaaGreatDoor
open Go.ChangeShapes Go.WideShapes Go.ChangeAt Go.RowKit
open Lx Tk Go.Shelf
set_option linter.unusedVariables false
set_option maxHeartbeats 6400000 in
set_option maxRecDepth 100000 in
theorem joins_ok {s t : ByteArray} {h : Int} (hs : s.size ≤ 100000000) (ht : t.size ≤ 100000000) {w : World} (hE : ErrVar w) (hT : PowTab w) {l1 l2 : List Ct} (h1 : Toks 0 s.data.toList l1 none) (h2 : Toks 0 t.data.toList l2 none) :
    Calls Tryz.prog 3 #[.string s, .string t, .int .i64 h] w fun e w' => e = .returned (.bool true) ∧ Below w.heap.size w w' := by
  obtain ⟨J, hJ, hb⟩ := and3 h
  have hJ1 : (J : Int) + 1 ≤ 4 := by omega
  have hx := sep_ext hJ
  have hsp := sep_sp J
  generalize sepB J = c at *
  have TL : ∀ w', Below w.heap.size w w' → PowTab w' := fun w' hb => pow_later18 hT hb
  have hcat : (s ++ str [c] ++ t).data.toList = s.data.toList ++ c :: t.data.toList := by simp [str]
  have hsz : (s ++ str [c] ++ t).size = s.size + 1 + t.size := by rw [Lib.size_eq, hcat, List.length_append, List.length_cons, ← Lib.size_eq, ← Lib.size_eq]; omega
  obtain ⟨i_t, hi_t, hz0, hz1, hz2⟩ := info_parts18 info_tk18
  have h3 : Toks 0 (s ++ str [c] ++ t).data.toList (l1 ++ (sepT c s.size ++ l2.map (Ct.move (s.size + 1)))) none := by
    rw [hcat]
    have := Toks.join hsp h1 rfl (by have h4 := h2.shift (s.size + 1); rw [← Lib.size_eq]; simpa using h4)
    rw [← Lib.size_eq] at this
    simpa using this
  have hm := sep_toks hsp
  have c1 := all18_any s (by omega) h1 w
  have c2 := fun w => all18_any t (by omega) h2 w
  have c3 := fun w => all18_any (s ++ str [c] ++ t) (by omega) h3 w
  have c4 := fun w => all18_any (str [c]) (by rw [str_size]; simp) (by rw [str_list]; exact hm) w
  unfold AllR at c1 c2 c3 c4
  simp only at c1 c2 c3 c4
  have hl1 := h1.len
  have hl2 := h2.len
  rw [← Lib.size_eq] at hl1 hl2
  have HLm : Hid (∀ x ∈ sepT c 0, x.fr ≤ 1 ∧ x.to ≤ 1) := fun x hx => by have := hm.le x hx; simp at this; omega
  have HL2 : Hid (∀ x ∈ l2, x.fr ≤ t.size ∧ x.to ≤ t.size) := fun x hx => by have := h2.le x hx; rw [← Lib.size_eq] at this; simp at this; omega
  have hlm : (sepT c 0).length ≤ 1 := by have := hm.len; simpa using this
  have hmv := sep_move c s.size
  rw [← hmv] at c3
  clear h1 h2 h3 hJ hT hcat hm hmv
  generalize sepT c 0 = lm at *
  generalize str [c] = X at *
  have hq : s.size + X.size + t.size ≤ 1000000000 := by have := hsz; simp at this; omega
  clear hsp hsz
  go_enter Tryz.func3, Tryz.ntmps3
  go_wp2_with fail
  refine c1.mono ?_
  rintro e w1 ⟨v1, rfl, hR1, hb1⟩
  clear c1
  go_wp2_with fail
  refine (c2 _).mono ?_
  rintro e w2 ⟨v2, rfl, hR2, hb2⟩
  clear c2
  go_wp2_with fail
  refine (c3 _).mono ?_
  rintro e w3 ⟨v3, rfl, hR3, hb3⟩
  clear c3
  have B2 := hb1.trans (hb2.mono hb1.size)
  have B3 := B2.trans (hb3.mono B2.size)
  have cA := alive18_any (w := w3) (fun w' hb => TL w' (B3.trans (hb.mono B3.size)))
  go_wp2_with fail
  refine cA.mono ?_
  rintro e w4 ⟨rfl, hb4⟩
  clear cA
  have B4 := B3.trans (hb4.mono B3.size)
  go_wp2_with fail
  refine (c4 _).mono ?_
  rintro e w5 ⟨vm, rfl, hRm, hb5⟩
  clear c4
  have B5 := B4.trans (hb5.mono B4.size)
  have HR1 : Hid (TkR w5 w.heap.size v1 l1) := (((hR1.later hb2).later hb3).later hb4).later hb5
  have HR2 : Hid (TkR w5 w1.heap.size v2 l2) := ((hR2.later hb3).later hb4).later hb5
  have HR3 : Hid (TkR w5 w2.heap.size v3 _) := (hR3.later hb4).later hb5
  have HRm : Hid (TkR w5 w4.heap.size vm lm) := hRm
  have HB5 : Hid (Below w.heap.size w w5) := B5
  clear hR1 hR2 hR3 hRm hb1 hb2 hb3 hb4 hb5 B2 B3 B4 B5 TL
  obtain ⟨am, km, rfl, hkm⟩ := HRm.out.slice
  obtain ⟨a2, k2, rfl, hk2⟩ := HR2.out.slice
  have hrowN := TkR.nil w5 w5.heap.size
  have hlenA : ([] : List Ct).length + l1.length ≤ 1000000000 := by simp; omega
  have hR1 := HR1.out
  go_wp2_with (at_builtin; refine wpList_appR rfl _ _ rfl rfl hrowN rfl hR1 hlenA (Nat.le_refl _) ?_)
  intro vw w6 hR6 hg6
  have HB6 : Hid (Below w5.heap.size w5 w6) := hrowN.grown hg6 (Below.refl _ _) (Nat.le_refl _) (Nat.le_refl _)
  have HR6 : Hid (TkR w6 w5.heap.size vw l1) := hR6
  clear hR6 hg6 hrowN hR1 HR1
  go_wp2
  go_loopw [16, 17] (fun ov iv wr => ∃ (i : Nat) (acc : List Ct), iv = .int .i64 (i : Int) ∧ i ≤ lm.length ∧ Hid (acc = l1 ++ (lm.take i).map (Ct.move (s.size))) ∧ Hid (TkR wr w5.heap.size ov acc) ∧ Hid (Below w5.heap.size w5 wr)) (fun _ i _ => lm.length - (intOf i).toNat)
  case atStart => exact ⟨0, l1, rfl, Nat.zero_le _, by show _ = _; rw [List.take_zero, List.map_nil, List.append_nil], HR6, HB6⟩
  case round =>
    obtain ⟨i, acc, rfl, hi, HE, HR, HB⟩ := hrel
    by_cases hlt : i < lm.length
    · obtain ⟨t9, ht9⟩ : ∃ t9, lm[i]? = some t9 := ⟨_, List.getElem?_eq_getElem hlt⟩
      obtain ⟨gx, ox, rfl, hcell⟩ := HRm.out.rt.at (i := i) (t := t9.tg) (by rw [List.getElem?_map, ht9]; rfl)
      have hii : (i : Int) < (lm.length : Int) := by omega
      have hle9 := HLm.out t9 (List.mem_of_getElem? ht9)
      have hsnoc : lm.take (i + 1) = lm.take i ++ [t9] := by rw [List.take_add_one, ht9]; rfl
      have p0 : wr.cell? ⟨gx, ox + i * 9, none⟩ = some (.int .i64 t9.kind) := by
        have h := hcell 0 _ rfl
        exact (HB.out.cell (p := ⟨gx, ox + i * 9 + 0, none⟩) (cell_lt h)).trans h
      have p1 : wr.cell? ⟨gx, ox + i * 9 + 1, none⟩ = some (.int .i64 ((t9.fr : Int))) := by
        have h := hcell 1 _ rfl
        exact (HB.out.cell (p := ⟨gx, ox + i * 9 + 1, none⟩) (cell_lt h)).trans h
      have p2 : wr.cell? ⟨gx, ox + i * 9 + 2, none⟩ = some (.int .i64 ((t9.to : Int))) := by
        have h := hcell 2 _ rfl
        exact (HB.out.cell (p := ⟨gx, ox + i * 9 + 2, none⟩) (cell_lt h)).trans h
      have p3 : wr.cell? ⟨gx, ox + i * 9 + 3, none⟩ = some (.string (str t9.word)) := by
        have h := hcell 3 _ rfl
        exact (HB.out.cell (p := ⟨gx, ox + i * 9 + 3, none⟩) (cell_lt h)).trans h
      have p4 : wr.cell? ⟨gx, ox + i * 9 + 4, none⟩ = some (.int .i64 t9.num.kind) := by
        have h := hcell 4 _ rfl
        exact (HB.out.cell (p := ⟨gx, ox + i * 9 + 4, none⟩) (cell_lt h)).trans h
      have p5 : wr.cell? ⟨gx, ox + i * 9 + 5, none⟩ = some (.bool t9.num.neg) := by
        have h := hcell 5 _ rfl
        exact (HB.out.cell (p := ⟨gx, ox + i * 9 + 5, none⟩) (cell_lt h)).trans h
      have p6 : wr.cell? ⟨gx, ox + i * 9 + 6, none⟩ = some (.string (str t9.num.num)) := by
        have h := hcell 6 _ rfl
        exact (HB.out.cell (p := ⟨gx, ox + i * 9 + 6, none⟩) (cell_lt h)).trans h
      have p7 : wr.cell? ⟨gx, ox + i * 9 + 7, none⟩ = some (.int .i64 t9.num.exp) := by
        have h := hcell 7 _ rfl
        exact (HB.out.cell (p := ⟨gx, ox + i * 9 + 7, none⟩) (cell_lt h)).trans h
      have p8 : wr.cell? ⟨gx, ox + i * 9 + 8, none⟩ = some (.string (str t9.num.den)) := by
        have h := hcell 8 _ rfl
        exact (HB.out.cell (p := ⟨gx, ox + i * 9 + 8, none⟩) (cell_lt h)).trans h
      clear hcell ht9
      obtain ⟨va, vk, rfl, hvk⟩ := HR.out.slice
      obtain ⟨W, hW⟩ : ∃ W, W = (wr.alloc (.cells #[.int .i64 t9.kind, .int .i64 ((t9.fr : Int) + (s.size : Int)), .int .i64 ((t9.to : Int) + (s.size : Int)), .string (str t9.word), .int .i64 t9.num.kind, .bool t9.num.neg, .string (str t9.num.num), .int .i64 t9.num.exp, .string (str t9.num.den)] 32)).alloc (.cells #[.int .i64 t9.kind, .int .i64 ((t9.fr : Int) + (s.size : Int)), .int .i64 ((t9.to : Int) + (s.size : Int)), .string (str t9.word), .int .i64 t9.num.kind, .bool t9.num.neg, .string (str t9.num.num), .int .i64 t9.num.exp, .string (str t9.num.den)] 32) := ⟨_, rfl⟩
      have hb1 : Below wr.heap.size wr (wr.alloc (.cells #[.int .i64 t9.kind, .int .i64 ((t9.fr : Int) + (s.size : Int)), .int .i64 ((t9.to : Int) + (s.size : Int)), .string (str t9.word), .int .i64 t9.num.kind, .bool t9.num.neg, .string (str t9.num.num), .int .i64 t9.num.exp, .string (str t9.num.den)] 32)) := (Below.refl _ _).alloc (Nat.le_refl _) _
      have hb2 : Below (wr.alloc (.cells #[.int .i64 t9.kind, .int .i64 ((t9.fr : Int) + (s.size : Int)), .int .i64 ((t9.to : Int) + (s.size : Int)), .string (str t9.word), .int .i64 t9.num.kind, .bool t9.num.neg, .string (str t9.num.num), .int .i64 t9.num.exp, .string (str t9.num.den)] 32)).heap.size (wr.alloc (.cells #[.int .i64 t9.kind, .int .i64 ((t9.fr : Int) + (s.size : Int)), .int .i64 ((t9.to : Int) + (s.size : Int)), .string (str t9.word), .int .i64 t9.num.kind, .bool t9.num.neg, .string (str t9.num.num), .int .i64 t9.num.exp, .string (str t9.num.den)] 32)) W := by rw [hW]; exact (Below.refl _ _).alloc (Nat.le_refl _) _
      have N1 : Bk W (wr.heap.size + 1) 32 #[.int .i64 t9.kind, .int .i64 ((t9.fr : Int) + (s.size : Int)), .int .i64 ((t9.to : Int) + (s.size : Int)), .string (str t9.word), .int .i64 t9.num.kind, .bool t9.num.neg, .string (str t9.num.num), .int .i64 t9.num.exp, .string (str t9.num.den)] := by
        have := Bk.new (wr.alloc (.cells #[.int .i64 t9.kind, .int .i64 ((t9.fr : Int) + (s.size : Int)), .int .i64 ((t9.to : Int) + (s.size : Int)), .string (str t9.word), .int .i64 t9.num.kind, .bool t9.num.neg, .string (str t9.num.num), .int .i64 t9.num.exp, .string (str t9.num.den)] 32)) 32 #[.int .i64 t9.kind, .int .i64 ((t9.fr : Int) + (s.size : Int)), .int .i64 ((t9.to : Int) + (s.size : Int)), .string (str t9.word), .int .i64 t9.num.kind, .bool t9.num.neg, .string (str t9.num.num), .int .i64 t9.num.exp, .string (str t9.num.den)]
        rw [← hW] at this
        simpa using this
      have hb12 := hb1.trans (hb2.mono hb1.size)
      have hrow := HR.out.later hb12
      have hB2 := HB.out.trans (hb12.mono HB.out.size)
      have hsrc : TkR W 0 (.slice (some ⟨wr.heap.size + 1, 0, none⟩) 1 1) [t9.move (s.size)] := by
        refine ⟨rfl, Or.inr ⟨wr.heap.size + 1, 1, _, rfl, Nat.zero_le _, N1, Nat.le_refl _, by unfold maxLen; omega, rfl, ?_⟩⟩
        show _ = tkc (t9.move (s.size)) ++ []
        rw [List.append_nil]
        show [_, _, _, _, _, _, _, _, _] = [_, _, _, _, _, _, _, _, _]
        have e1 : ((t9.move (s.size)).fr : Int) = (t9.fr : Int) + (s.size : Int) := by show (((s.size) + t9.fr : Nat) : Int) = _; omega
        have e2 : ((t9.move (s.size)).to : Int) = (t9.to : Int) + (s.size : Int) := by show (((s.size) + t9.to : Nat) : Int) = _; omega
        rw [e1, e2]
        rfl
      have hlenP : acc.length + 1 ≤ 1000000000 := by rw [HE.out]; simp; omega
      have hW5 : w5.heap.size ≤ W.heap.size := hB2.size
      have HW : Hid ((wr.alloc (.cells #[.int .i64 t9.kind, .int .i64 ((t9.fr : Int) + (s.size : Int)), .int .i64 ((t9.to : Int) + (s.size : Int)), .string (str t9.word), .int .i64 t9.num.kind, .bool t9.num.neg, .string (str t9.num.num), .int .i64 t9.num.exp, .string (str t9.num.den)] 32)).alloc (.cells #[.int .i64 t9.kind, .int .i64 ((t9.fr : Int) + (s.size : Int)), .int .i64 ((t9.to : Int) + (s.size : Int)), .string (str t9.word), .int .i64 t9.num.kind, .bool t9.num.neg, .string (str t9.num.num), .int .i64 t9.num.exp, .string (str t9.num.den)] 32) = W) := hW.symm
      have HB2 : Hid _ := hB2
      clear hb1 hb2 hW N1 hb12 hB2 HR
      go_wp2_with (at_builtin; rw [HW.out]; refine wpList_appR rfl _ _ rfl rfl hrow rfl hsrc hlenP hW5 ?_)
      intro v' w6 hR6 hg6
      have HB6 : Hid (Below w5.heap.size w5 w6) := hrow.grown hg6 HB2.out (Nat.le_refl _) (Nat.le_refl _)
      have HE6 : Hid (acc ++ [t9.move (s.size)] = l1 ++ (lm.take (i + 1)).map (Ct.move (s.size))) := by
        show _ = _
        rw [hsnoc, List.map_append, ← List.append_assoc, HE.out]
        rfl
      have HR6 : Hid (TkR w6 w5.heap.size v' _) := hR6
      clear hR6 hg6 hrow hsrc HB2 HB hsnoc HE
      go_wp2
      go_roundw
      case rel => exact ⟨i + 1, _, by go_num, by omega, HE6, HR6, HB6⟩
      case measure => simp [intOf]; omega
    · have hii : ¬ (i : Int) < (lm.length : Int) := by omega
      have hie : i = lm.length := by omega
      subst hie
      have HR7 : Hid (TkR wr w5.heap.size u16 (l1 ++ lm.map (Ct.move s.size))) := by have := HR.out; rwa [HE.out, List.take_length] at this
      have HB7 := HB
      clear HR HB HR6 HB6 HE
      go_wp2
      go_loopw [16, 19] (fun ov iv wr => ∃ (i : Nat) (acc : List Ct), iv = .int .i64 (i : Int) ∧ i ≤ l2.length ∧ Hid (acc = (l1 ++ lm.map (Ct.move s.size)) ++ (l2.take i).map (Ct.move (s.size + 1))) ∧ Hid (TkR wr w5.heap.size ov acc) ∧ Hid (Below w5.heap.size w5 wr)) (fun _ i _ => l2.length - (intOf i).toNat)
      case atStart => exact ⟨0, _, rfl, Nat.zero_le _, by show _ = _; rw [List.take_zero, List.map_nil, List.append_nil], HR7, HB7⟩
      case round =>
        obtain ⟨i, acc, rfl, hi, HE, HR, HB⟩ := hrel
        by_cases hlt : i < l2.length
        · obtain ⟨t9, ht9⟩ : ∃ t9, l2[i]? = some t9 := ⟨_, List.getElem?_eq_getElem hlt⟩
          obtain ⟨gx, ox, rfl, hcell⟩ := HR2.out.rt.at (i := i) (t := t9.tg) (by rw [List.getElem?_map, ht9]; rfl)
          have hii : (i : Int) < (l2.length : Int) := by omega
          have hle9 := HL2.out t9 (List.mem_of_getElem? ht9)
          have hsnoc : l2.take (i + 1) = l2.take i ++ [t9] := by rw [List.take_add_one, ht9]; rfl
          have p0 : wr.cell? ⟨gx, ox + i * 9, none⟩ = some (.int .i64 t9.kind) := by
            have h := hcell 0 _ rfl
            exact (HB.out.cell (p := ⟨gx, ox + i * 9 + 0, none⟩) (cell_lt h)).trans h
          have p1 : wr.cell? ⟨gx, ox + i * 9 + 1, none⟩ = some (.int .i64 ((t9.fr : Int))) := by
            have h := hcell 1 _ rfl
            exact (HB.out.cell (p := ⟨gx, ox + i * 9 + 1, none⟩) (cell_lt h)).trans h
          have p2 : wr.cell? ⟨gx, ox + i * 9 + 2, none⟩ = some (.int .i64 ((t9.to : Int))) := by
            have h := hcell 2 _ rfl
            exact (HB.out.cell (p := ⟨gx, ox + i * 9 + 2, none⟩) (cell_lt h)).trans h
          have p3 : wr.cell? ⟨gx, ox + i * 9 + 3, none⟩ = some (.string (str t9.word)) := by
            have h := hcell 3 _ rfl
            exact (HB.out.cell (p := ⟨gx, ox + i * 9 + 3, none⟩) (cell_lt h)).trans h
          have p4 : wr.cell? ⟨gx, ox + i * 9 + 4, none⟩ = some (.int .i64 t9.num.kind) := by
            have h := hcell 4 _ rfl
            exact (HB.out.cell (p := ⟨gx, ox + i * 9 + 4, none⟩) (cell_lt h)).trans h
          have p5 : wr.cell? ⟨gx, ox + i * 9 + 5, none⟩ = some (.bool t9.num.neg) := by
            have h := hcell 5 _ rfl
            exact (HB.out.cell (p := ⟨gx, ox + i * 9 + 5, none⟩) (cell_lt h)).trans h
          have p6 : wr.cell? ⟨gx, ox + i * 9 + 6, none⟩ = some (.string (str t9.num.num)) := by
            have h := hcell 6 _ rfl
            exact (HB.out.cell (p := ⟨gx, ox + i * 9 + 6, none⟩) (cell_lt h)).trans h
          have p7 : wr.cell? ⟨gx, ox + i * 9 + 7, none⟩ = some (.int .i64 t9.num.exp) := by
            have h := hcell 7 _ rfl
            exact (HB.out.cell (p := ⟨gx, ox + i * 9 + 7, none⟩) (cell_lt h)).trans h
          have p8 : wr.cell? ⟨gx, ox + i * 9 + 8, none⟩ = some (.string (str t9.num.den)) := by
            have h := hcell 8 _ rfl
            exact (HB.out.cell (p := ⟨gx, ox + i * 9 + 8, none⟩) (cell_lt h)).trans h
          clear hcell ht9
          obtain ⟨va, vk, rfl, hvk⟩ := HR.out.slice
          obtain ⟨W, hW⟩ : ∃ W, W = (wr.alloc (.cells #[.int .i64 t9.kind, .int .i64 ((t9.fr : Int) + (s.size : Int) + 1), .int .i64 ((t9.to : Int) + (s.size : Int) + 1), .string (str t9.word), .int .i64 t9.num.kind, .bool t9.num.neg, .string (str t9.num.num), .int .i64 t9.num.exp, .string (str t9.num.den)] 32)).alloc (.cells #[.int .i64 t9.kind, .int .i64 ((t9.fr : Int) + (s.size : Int) + 1), .int .i64 ((t9.to : Int) + (s.size : Int) + 1), .string (str t9.word), .int .i64 t9.num.kind, .bool t9.num.neg, .string (str t9.num.num), .int .i64 t9.num.exp, .string (str t9.num.den)] 32) := ⟨_, rfl⟩
          have hb1 : Below wr.heap.size wr (wr.alloc (.cells #[.int .i64 t9.kind, .int .i64 ((t9.fr : Int) + (s.size : Int) + 1), .int .i64 ((t9.to : Int) + (s.size : Int) + 1), .string (str t9.word), .int .i64 t9.num.kind, .bool t9.num.neg, .string (str t9.num.num), .int .i64 t9.num.exp, .string (str t9.num.den)] 32)) := (Below.refl _ _).alloc (Nat.le_refl _) _
          have hb2 : Below (wr.alloc (.cells #[.int .i64 t9.kind, .int .i64 ((t9.fr : Int) + (s.size : Int) + 1), .int .i64 ((t9.to : Int) + (s.size : Int) + 1), .string (str t9.word), .int .i64 t9.num.kind, .bool t9.num.neg, .string (str t9.num.num), .int .i64 t9.num.exp, .string (str t9.num.den)] 32)).heap.size (wr.alloc (.cells #[.int .i64 t9.kind, .int .i64 ((t9.fr : Int) + (s.size : Int) + 1), .int .i64 ((t9.to : Int) + (s.size : Int) + 1), .string (str t9.word), .int .i64 t9.num.kind, .bool t9.num.neg, .string (str t9.num.num), .int .i64 t9.num.exp, .string (str t9.num.den)] 32)) W := by rw [hW]; exact (Below.refl _ _).alloc (Nat.le_refl _) _
          have N1 : Bk W (wr.heap.size + 1) 32 #[.int .i64 t9.kind, .int .i64 ((t9.fr : Int) + (s.size : Int) + 1), .int .i64 ((t9.to : Int) + (s.size : Int) + 1), .string (str t9.word), .int .i64 t9.num.kind, .bool t9.num.neg, .string (str t9.num.num), .int .i64 t9.num.exp, .string (str t9.num.den)] := by
            have := Bk.new (wr.alloc (.cells #[.int .i64 t9.kind, .int .i64 ((t9.fr : Int) + (s.size : Int) + 1), .int .i64 ((t9.to : Int) + (s.size : Int) + 1), .string (str t9.word), .int .i64 t9.num.kind, .bool t9.num.neg, .string (str t9.num.num), .int .i64 t9.num.exp, .string (str t9.num.den)] 32)) 32 #[.int .i64 t9.kind, .int .i64 ((t9.fr : Int) + (s.size : Int) + 1), .int .i64 ((t9.to : Int) + (s.size : Int) + 1), .string (str t9.word), .int .i64 t9.num.kind, .bool t9.num.neg, .string (str t9.num.num), .int .i64 t9.num.exp, .string (str t9.num.den)]
            rw [← hW] at this
            simpa using this
          have hb12 := hb1.trans (hb2.mono hb1.size)
          have hrow := HR.out.later hb12
          have hB2 := HB.out.trans (hb12.mono HB.out.size)
          have hsrc : TkR W 0 (.slice (some ⟨wr.heap.size + 1, 0, none⟩) 1 1) [t9.move (s.size + 1)] := by
            refine ⟨rfl, Or.inr ⟨wr.heap.size + 1, 1, _, rfl, Nat.zero_le _, N1, Nat.le_refl _, by unfold maxLen; omega, rfl, ?_⟩⟩
            show _ = tkc (t9.move (s.size + 1)) ++ []
            rw [List.append_nil]
            show [_, _, _, _, _, _, _, _, _] = [_, _, _, _, _, _, _, _, _]
            have e1 : ((t9.move (s.size + 1)).fr : Int) = (t9.fr : Int) + (s.size : Int) + 1 := by show (((s.size + 1) + t9.fr : Nat) : Int) = _; omega
            have e2 : ((t9.move (s.size + 1)).to : Int) = (t9.to : Int) + (s.size : Int) + 1 := by show (((s.size + 1) + t9.to : Nat) : Int) = _; omega
            rw [e1, e2]
            rfl
          have hlenP : acc.length + 1 ≤ 1000000000 := by rw [HE.out]; simp; omega
          have hW5 : w5.heap.size ≤ W.heap.size := hB2.size
          have HW : Hid ((wr.alloc (.cells #[.int .i64 t9.kind, .int .i64 ((t9.fr : Int) + (s.size : Int) + 1), .int .i64 ((t9.to : Int) + (s.size : Int) + 1), .string (str t9.word), .int .i64 t9.num.kind, .bool t9.num.neg, .string (str t9.num.num), .int .i64 t9.num.exp, .string (str t9.num.den)] 32)).alloc (.cells #[.int .i64 t9.kind, .int .i64 ((t9.fr : Int) + (s.size : Int) + 1), .int .i64 ((t9.to : Int) + (s.size : Int) + 1), .string (str t9.word), .int .i64 t9.num.kind, .bool t9.num.neg, .string (str t9.num.num), .int .i64 t9.num.exp, .string (str t9.num.den)] 32) = W) := hW.symm
          have HB2 : Hid _ := hB2
          clear hb1 hb2 hW N1 hb12 hB2 HR
          go_wp2_with (at_builtin; rw [HW.out]; refine wpList_appR rfl _ _ rfl rfl hrow rfl hsrc hlenP hW5 ?_)
          intro v' w6 hR6 hg6
          have HB6 : Hid (Below w5.heap.size w5 w6) := hrow.grown hg6 HB2.out (Nat.le_refl _) (Nat.le_refl _)
          have HE6 : Hid (acc ++ [t9.move (s.size + 1)] = (l1 ++ lm.map (Ct.move s.size)) ++ (l2.take (i + 1)).map (Ct.move (s.size + 1))) := by
            show _ = _
            rw [hsnoc, List.map_append, ← List.append_assoc, HE.out]
            rfl
          have HR6 : Hid (TkR w6 w5.heap.size v' _) := hR6
          clear hR6 hg6 hrow hsrc HB2 HB hsnoc HE
          go_wp2
          go_roundw
          case rel => exact ⟨i + 1, _, by go_num, by omega, HE6, HR6, HB6⟩
          case measure => simp [intOf]; omega
        · have hii : ¬ (i : Int) < (l2.length : Int) := by omega
          have hie : i = l2.length := by omega
          subst hie
          have hRw : TkR wr w5.heap.size u16 (l1 ++ lm.map (Ct.move s.size) ++ l2.map (Ct.move (s.size + 1))) := by have := HR.out; rwa [HE.out, List.take_length] at this
          rw [List.append_assoc] at hRw
          have hRc := HR3.out.later HB.out
          have cE := eq18_same hRc.rt hRw.rt (by simp; omega)
          obtain ⟨a3, k3, rfl, _⟩ := hRc.slice
          obtain ⟨aw, kw, rfl, _⟩ := hRw.slice
          have HBF : Hid (Below w.heap.size w wr) := HB5.out.trans (HB.out.mono HB5.out.size)
          generalize (l1 ++ (lm.map (Ct.move s.size) ++ l2.map (Ct.move (s.size + 1)))).length = n3 at *
          clear hRc hRw HR HE HR7 HB7 HB
          go_wp2_with fail
          refine cE.mono ?_
          rintro e w9 ⟨rfl, hb9⟩
          clear cE
          go_wp2
          go_ret
          exact ⟨rfl, HBF.out.trans (hb9.mono HBF.out.size)⟩
theorem joins_walk {s t : ByteArray} {h : Int} (hs : s.size ≤ 1048576) (ht : t.size ≤ 1048576) (i0 : -9223372036854775808 ≤ h) (i1 : h ≤ 9223372036854775807) {w : World} (hE : ErrVar w) (hT : PowTab w) :
    Calls Tryz.prog 3 #[.string s, .string t, .int .i64 h] w fun e w' => e = .returned (.bool true) ∧ Below w.heap.size w w' := by
  obtain ⟨l1, e1, h1⟩ := toks_any s.data.toList
  obtain ⟨l2, e2, h2⟩ := toks_any t.data.toList
  cases e1 with
  | some p => exact joins_bad1 (by omega) (by omega) hE hT h1 h2
  | none =>
    cases e2 with
    | some p => exact joins_bad2 (by omega) (by omega) hE hT h1 h2 (by have := h2.wle p rfl; rw [← Lib.size_eq] at this; omega)
    | none => exact joins_ok (by omega) (by omega) hE hT h1 h2
end Go.Proofs.YtnnpakllehldhaaGreatDoor

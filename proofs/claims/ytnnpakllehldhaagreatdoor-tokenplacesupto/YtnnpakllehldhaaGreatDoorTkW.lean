/- Layer 18: TokenPlaces. -/
import Derived.Test.YtnnpakllehldhaaGreatDoorTkV
import Derived.Test.YtnnpakllehldhaaGreatDoorTkP
namespace Go.Proofs.YtnnpakllehldhaaGreatDoor
open Go.ChangeShapes Go.WideShapes Go.ChangeAt Go.RowKit
open Lx Tk
set_option linter.unusedVariables false
namespace Tk
theorem Toks.wrongAt {k : Nat} {r : B} {l : List Ct} {e : Option Nat} (h : Toks k r l e) : ∀ p, e = some p → k ≤ p ∧ ∃ x q, r.drop (p - k) = x :: q ∧ isBl x = false ∧ x ≠ 40 ∧ x ≠ 41 ∧ x ≠ 44 := by
  induction h with
  | nil _ => intro p hp; cases hp
  | @bad k r hk =>
    intro p hp
    cases hp
    obtain ⟨x, q, h1, h2⟩ := cut_bad hk
    exact ⟨by omega, x, q, by rw [Nat.add_sub_cancel_left]; exact h1, h2⟩
  | @cons k r l e hk _ ih =>
    intro p hp
    obtain ⟨h0, x, q, h1, h2⟩ := ih p hp
    refine ⟨by omega, x, q, ?_, h2⟩
    rw [List.drop_drop] at h1
    rw [← h1]
    congr 1
    omega
end Tk
set_option maxHeartbeats 3200000 in
set_option maxRecDepth 100000 in
theorem places_bad {s : ByteArray} (hs : s.size ≤ 100000000) {w : World} (hE : ErrVar w) (hT : PowTab w) {l : List Ct} {p : Nat} (h1 : Toks 0 s.data.toList l (some p)) :
    Calls Tryz.prog 5 #[.string s] w fun e w' => e = .returned (.bool true) ∧ Below w.heap.size w w' := by
  have TL : ∀ w', Below w.heap.size w w' → PowTab w' := fun w' hb => pow_later18 hT hb
  obtain ⟨_, x, q, hx, x1, x2, x3, x4⟩ := h1.wrongAt p rfl
  rw [Nat.sub_zero] at hx
  have hp : p < s.size := by
    apply Decidable.byContradiction
    intro hc
    rw [drop_nil_of (by omega)] at hx
    cases hx
  have hxe : (s[p]'hp) = x := by
    have := drop_cons_of hp
    rw [hx] at this
    exact (List.cons.inj this).1.symm
  have c1 := all18_any s (by omega) h1 w
  unfold AllR at c1
  simp only at c1
  have cB := lblank18_any (s[p]'hp)
  rw [hxe, x1] at cB
  have e2 : ((x.toNat : Int) != 40) = true := by have := u8_ne x2; simpa using this
  have e3 : ((x.toNat : Int) != 41) = true := by have := u8_ne x3; simpa using this
  have e4 : ((x.toNat : Int) != 44) = true := by have := u8_ne x4; simpa using this
  have hpi : (p : Int) < (s.size : Int) := by omega
  have hp0 : ¬ (p : Int) < 0 := by omega
  have hpn : ¬ (s.size : Int) ≤ (p : Int) := by omega
  have hxe2 : s[p] = x := hxe
  clear h1 hT hx x1 x2 x3 x4 hxe
  go_enter Tryz.func5, Tryz.ntmps5
  go_wp2_with fail
  refine c1.mono ?_
  rintro e w1 ⟨er1, rfl, ⟨h0, _⟩ | ⟨_, g1, rfl, hF1⟩, hb1⟩
  · omega
  clear c1
  have c4 := alive18_any (w := w1) (fun w' hb => TL w' (hb1.trans (hb.mono hb1.size)))
  go_wp2_with fail
  refine c4.mono ?_
  rintro e w4 ⟨rfl, hb4⟩
  clear c4
  have B4 := hb1.trans (hb4.mono hb1.size)
  have c5 := placeFault_any (hF1.later hb4) (hE.later B4)
  go_wp2_with fail
  refine c5.mono ?_
  rintro e w5 ⟨rfl, hb5⟩
  clear c5
  have B5 := B4.trans (hb5.mono B4.size)
  have c6 := codeFault_any ((hF1.later hb4).later hb5) (hE.later B5)
  go_wp2_with fail
  refine c6.mono ?_
  rintro e w6 ⟨rfl, hb6⟩
  clear c6
  have HB6 : Hid _ := B5.trans (hb6.mono B5.size)
  clear B5 B4 hb1 hb4 hb5 hb6 hF1 TL
  go_wp2_with (go_at_call 17; refine (cB _).mono ?_; rintro e w' ⟨rfl, rfl⟩)
  go_ret
  exact ⟨by first | rfl | simp, HB6.out⟩
set_option maxHeartbeats 6400000 in
set_option maxRecDepth 100000 in
theorem places_ok {s : ByteArray} (hs : s.size ≤ 100000000) {w : World} (hE : ErrVar w) (hT : PowTab w) {l : List Ct} (h1 : Toks 0 s.data.toList l none) :
    Calls Tryz.prog 5 #[.string s] w fun e w' => e = .returned (.bool true) ∧ Below w.heap.size w w' := by
  have TL : ∀ w', Below w.heap.size w w' → PowTab w' := fun w' hb => pow_later18 hT hb
  have hll := h1.len
  rw [← Lib.size_eq] at hll
  have c1 := all18_any s (by omega) h1 w
  unfold AllR at c1
  simp only at c1
  have HL : Hid (Toks 0 s.data.toList l none) := h1
  clear h1 hT
  go_enter Tryz.func5, Tryz.ntmps5
  go_wp2_with fail
  refine c1.mono ?_
  rintro e w1 ⟨v1, rfl, hR1, hb1⟩
  clear c1
  have c4 := alive18_any (w := w1) (fun w' hb => TL w' (hb1.trans (hb.mono hb1.size)))
  go_wp2_with fail
  refine c4.mono ?_
  rintro e w4 ⟨rfl, hb4⟩
  clear c4
  have HB4 : Hid (Below w.heap.size w w4) := hb1.trans (hb4.mono hb1.size)
  have HR4 : Hid (TkR w4 w.heap.size v1 l) := hR1.later hb4
  obtain ⟨a1, k1, rfl, hk1⟩ := HR4.out.slice
  clear hb1 hb4 hR1 TL
  go_wp2
  go_loopw [6, 7] (fun av iv wr => ∃ (k i : Nat) (rest : List Ct), av = .int .i64 (k : Int) ∧ iv = .int .i64 (i : Int) ∧ k ≤ s.size ∧ i ≤ l.length ∧ Hid (l.drop i = rest) ∧ Hid (Toks k (s.data.toList.drop k) rest none) ∧ Hid (Below w4.heap.size w4 wr)) (fun _ i _ => l.length - (RowKit.intOf i).toNat)
  case atStart => exact ⟨0, 0, l, rfl, rfl, Nat.zero_le _, Nat.zero_le _, rfl, HL, Below.refl _ _⟩
  case round =>
    obtain ⟨k, i, rest, rfl, rfl, hk, hi, HD, HK, HB⟩ := hrel
    by_cases hlt : i < l.length
    · obtain ⟨t9, ht9⟩ : ∃ t9, l[i]? = some t9 := ⟨_, List.getElem?_eq_getElem hlt⟩
      have hcons : rest = t9 :: l.drop (i + 1) := by
        rw [← HD.out, List.drop_eq_getElem_cons hlt]
        rw [List.getElem?_eq_getElem hlt] at ht9
        rw [Option.some.inj ht9]
      obtain ⟨gx, ox, rfl, hcell⟩ := HR4.out.rt.at (i := i) (t := t9.tg) (by rw [List.getElem?_map, ht9]; rfl)
      have hii : (i : Int) < (l.length : Int) := by omega
      have p0 : wr.cell? ⟨gx, ox + i * 9, none⟩ = some (.int .i64 t9.kind) := by
        have h := hcell 0 _ rfl
        exact (HB.out.cell (p := ⟨gx, ox + i * 9 + 0, none⟩) (cell_lt h)).trans h
      have p1 : wr.cell? ⟨gx, ox + i * 9 + 1, none⟩ = some (.int .i64 (t9.fr : Int)) := by
        have h := hcell 1 _ rfl
        exact (HB.out.cell (p := ⟨gx, ox + i * 9 + 1, none⟩) (cell_lt h)).trans h
      have p2 : wr.cell? ⟨gx, ox + i * 9 + 2, none⟩ = some (.int .i64 (t9.to : Int)) := by
        have h := hcell 2 _ rfl
        exact (HB.out.cell (p := ⟨gx, ox + i * 9 + 2, none⟩) (cell_lt h)).trans h
      have p3 : wr.cell? ⟨gx, ox + i * 9 + 3, none⟩ = some (.string (str t9.word)) := by
        have h := hcell 3 _ rfl
        exact (HB.out.cell (p := ⟨gx, ox + i * 9 + 3, none⟩) (cell_lt h)).trans h
      have p4 : wr.cell? ⟨gx, ox + i * 9 + 4, none⟩ = some (.int .i64 t9.num.kind) := by
        have h := hcell 4 _ rfl
        exact (HB.out.cell (p := ⟨gx, ox + i * 9 + 4, none⟩) (cell_lt h)).trans h
      have p5 : wr.cell? ⟨gx, ox + i * 9 + 5, none⟩ = some (.bool t9.num.neg) := by
        have h := hcell 5 _ rfl
        exact (HB.out.cell (p := ⟨gx, ox + i * 9 + 5, none⟩) (cell_lt h)).trans h
      have p6 : wr.cell? ⟨gx, ox + i * 9 + 6, none⟩ = some (.string (str t9.num.num)) := by
        have h := hcell 6 _ rfl
        exact (HB.out.cell (p := ⟨gx, ox + i * 9 + 6, none⟩) (cell_lt h)).trans h
      have p7 : wr.cell? ⟨gx, ox + i * 9 + 7, none⟩ = some (.int .i64 t9.num.exp) := by
        have h := hcell 7 _ rfl
        exact (HB.out.cell (p := ⟨gx, ox + i * 9 + 7, none⟩) (cell_lt h)).trans h
      have p8 : wr.cell? ⟨gx, ox + i * 9 + 8, none⟩ = some (.string (str t9.num.den)) := by
        have h := hcell 8 _ rfl
        exact (HB.out.cell (p := ⟨gx, ox + i * 9 + 8, none⟩) (cell_lt h)).trans h
      have hinv : t9 = (cutR (s.data.toList.drop k)).move k ∧ 0 < (cutR (s.data.toList.drop k)).kind ∧ Toks (k + (cutR (s.data.toList.drop k)).to) ((s.data.toList.drop k).drop (cutR (s.data.toList.drop k)).to) (l.drop (i + 1)) none := by
        have h := HK.out
        rw [hcons] at h
        cases h with
        | cons h h2 => exact ⟨rfl, h, h2⟩
      obtain ⟨ht, hp, hK2⟩ := hinv
      have f := cut_k hp
      have f1 := f.up
      have f2 := f.le
      rw [List.length_drop, ← Lib.size_eq] at f2
      have cT := fun w => told18_all s k (by omega) hk hp w
      have cBs := lblanks18_any s k (k + (cutR (s.data.toList.drop k)).fr) (by omega) (by omega) (by omega) (fun j hj h1 h2 => by
        have hb := f.bl
        have hm := List.all_eq_true.mp hb (s[j]'hj) (by
          rw [List.mem_iff_getElem?]
          refine ⟨j - k, ?_⟩
          rw [List.getElem?_take, if_pos (by omega), List.getElem?_drop, show k + (j - k) = j from by omega]
          exact Lib.data_getElem? s j hj)
        exact hm)
      have hK3 : Toks (k + (cutR (s.data.toList.drop k)).to) (s.data.toList.drop (k + (cutR (s.data.toList.drop k)).to)) (l.drop (i + 1)) none := by rw [← List.drop_drop]; exact hK2
      have hsh : (cutR (s.data.toList.drop k)).kind = 2 ∨ (cutR (s.data.toList.drop k)).kind = 3 ∨ (cutR (s.data.toList.drop k)).kind = 4 ∨ (((cutR (s.data.toList.drop k)).kind = 1 ∨ (cutR (s.data.toList.drop k)).kind = 5) ∧ shutB (s.data.toList.drop (k + (cutR (s.data.toList.drop k)).to)) = true) := by
        rcases f.kinds with q | q | q | q | q
        · refine Or.inr (Or.inr (Or.inr ⟨Or.inl q.1, ?_⟩)); rw [← List.drop_drop]; exact q.2.2.2.2
        · exact Or.inl q.1
        · exact Or.inr (Or.inl q.1)
        · exact Or.inr (Or.inr (Or.inl q.1))
        · refine Or.inr (Or.inr (Or.inr ⟨Or.inr q.1, ?_⟩)); rw [← List.drop_drop]; exact q.2.2.2.2.2.2
      have ek : t9.kind = (cutR (s.data.toList.drop k)).kind := by rw [ht]; rfl
      have ef : t9.fr = k + (cutR (s.data.toList.drop k)).fr := by rw [ht]; rfl
      have et : t9.to = k + (cutR (s.data.toList.drop k)).to := by rw [ht]; rfl
      have ew : t9.word = (cutR (s.data.toList.drop k)).word := by rw [ht]; rfl
      have en : t9.num = (cutR (s.data.toList.drop k)).num := by rw [ht]; rfl
      rw [← ek, ← ef, ← et, ← ew, ← en] at cT
      rw [← ef] at cBs
      rw [← et] at hK3
      rw [← ek, ← et] at hsh
      have g1 : k ≤ t9.fr := by omega
      have g2 : t9.fr < t9.to := by omega
      have g3 : t9.to ≤ s.size := by omega
      unfold tkA at cT
      have HK3 : Hid _ := hK3
      clear ht hp hK2 f f1 f2 ek ef et ew en hcons HD HK hcell ht9 hK3
      have i1 : ¬ (t9.fr : Int) < (k : Int) := by omega
      have i2 : ¬ (t9.to : Int) ≤ (t9.fr : Int) := by omega
      have i3 : ¬ (s.size : Int) < (t9.to : Int) := by omega
      have hb1 : Below wr.heap.size wr (wr.alloc (.cells #[.int .i64 t9.kind, .int .i64 (t9.fr : Int), .int .i64 (t9.to : Int), .string (str t9.word), .int .i64 t9.num.kind, .bool t9.num.neg, .string (str t9.num.num), .int .i64 t9.num.exp, .string (str t9.num.den)] 32)) := (Below.refl _ _).alloc (Nat.le_refl _) _
      have HC1 : Hid (Bk (wr.alloc (.cells #[.int .i64 t9.kind, .int .i64 (t9.fr : Int), .int .i64 (t9.to : Int), .string (str t9.word), .int .i64 t9.num.kind, .bool t9.num.neg, .string (str t9.num.num), .int .i64 t9.num.exp, .string (str t9.num.den)] 32)) wr.heap.size 32 #[.int .i64 t9.kind, .int .i64 (t9.fr : Int), .int .i64 (t9.to : Int), .string (str t9.word), .int .i64 t9.num.kind, .bool t9.num.neg, .string (str t9.num.num), .int .i64 t9.num.exp, .string (str t9.num.den)]) := Bk.new _ _ _
      have HB1 : Hid (Below w4.heap.size w4 (wr.alloc (.cells #[.int .i64 t9.kind, .int .i64 (t9.fr : Int), .int .i64 (t9.to : Int), .string (str t9.word), .int .i64 t9.num.kind, .bool t9.num.neg, .string (str t9.num.num), .int .i64 t9.num.exp, .string (str t9.num.den)] 32))) := HB.out.trans (hb1.mono HB.out.size)
      clear hb1 HB
      go_wp2_with (go_at_call 18; refine (cBs _).mono ?_; rintro e w' ⟨rfl, rfl⟩)
      refine (cT _).mono ?_
      rintro e w5 ⟨rfl, hb5⟩
      have C5 : Bk w5 wr.heap.size 32 #[.int .i64 t9.kind, .int .i64 (t9.fr : Int), .int .i64 (t9.to : Int), .string (str t9.word), .int .i64 t9.num.kind, .bool t9.num.neg, .string (str t9.num.num), .int .i64 t9.num.exp, .string (str t9.num.den)] := Bk.later HC1.out hb5
      have HB5 : Hid (Below w4.heap.size w4 w5) := HB1.out.trans (hb5.mono HB1.out.size)
      have y0 : w5.cell? ⟨wr.heap.size, 0, none⟩ = some (.int .i64 t9.kind) := C5.cell 0 rfl
      have y2 : w5.cell? ⟨wr.heap.size, 2, none⟩ = some (.int .i64 (t9.to : Int)) := C5.cell 2 rfl
      clear hb5 HC1 HB1 C5 cT cBs p0 p1 p2 p3 p4 p5 p6 p7 p8
      rcases hsh with q | q | q | ⟨q, hshut⟩
      · have d1 : (t9.kind == 1) = false := by rw [q]; rfl
        have d5 : (t9.kind == 5) = false := by rw [q]; rfl
        clear q
        go_wp2
        go_roundw
        case rel => exact ⟨t9.to, i + 1, _, rfl, by go_num, g3, by omega, rfl, HK3, HB5⟩
        case measure => simp [RowKit.intOf]; omega
      · have d1 : (t9.kind == 1) = false := by rw [q]; rfl
        have d5 : (t9.kind == 5) = false := by rw [q]; rfl
        clear q
        go_wp2
        go_roundw
        case rel => exact ⟨t9.to, i + 1, _, rfl, by go_num, g3, by omega, rfl, HK3, HB5⟩
        case measure => simp [RowKit.intOf]; omega
      · have d1 : (t9.kind == 1) = false := by rw [q]; rfl
        have d5 : (t9.kind == 5) = false := by rw [q]; rfl
        clear q
        go_wp2
        go_roundw
        case rel => exact ⟨t9.to, i + 1, _, rfl, by go_num, g3, by omega, rfl, HK3, HB5⟩
        case measure => simp [RowKit.intOf]; omega
      · by_cases hte : t9.to < s.size
        · have hti : (t9.to : Int) < (s.size : Int) := by omega
          have cB := lblank18_any (s[t9.to]'hte)
          rw [drop_cons_of hte] at hshut
          have hs4 : (isBl (s[t9.to]'hte) || (s[t9.to]'hte) == 44 || (s[t9.to]'hte) == 40 || (s[t9.to]'hte) == 41) = true := hshut
          have e1 := beq_u8 (s[t9.to]'hte) 44
          have e2 := beq_u8 (s[t9.to]'hte) 40
          have e3 := beq_u8 (s[t9.to]'hte) 41
          change (((s[t9.to]'hte).toNat : Int) == 44) = _ at e1
          change (((s[t9.to]'hte).toNat : Int) == 40) = _ at e2
          change (((s[t9.to]'hte).toNat : Int) == 41) = _ at e3
          generalize isBl (s[t9.to]'hte) = bb at *
          generalize ((s[t9.to]'hte) == 44) = b1 at *
          generalize ((s[t9.to]'hte) == 40) = b2 at *
          generalize ((s[t9.to]'hte) == 41) = b3 at *
          have n1 : (((s[t9.to]'hte).toNat : Int) != 44) = !b1 := by rw [← e1]; rfl
          have n2 : (((s[t9.to]'hte).toNat : Int) != 40) = !b2 := by rw [← e2]; rfl
          have n3 : (((s[t9.to]'hte).toNat : Int) != 41) = !b3 := by rw [← e3]; rfl
          clear hshut e1 e2 e3
          cases bb <;> cases b1 <;> cases b2 <;> cases b3
          all_goals first
          | (cases hs4; done)
          | (simp only [Bool.not_true, Bool.not_false] at n1 n2 n3
             clear hs4
             rcases q with q | q
             · have d1 : (t9.kind == 1) = true := by simpa using q
               clear q
               go_wp2_with (go_at_call 17; refine (cB _).mono ?_; rintro e w' ⟨rfl, rfl⟩)
               go_roundw
               case rel => exact ⟨t9.to, i + 1, _, rfl, by go_num, g3, by omega, rfl, HK3, HB5⟩
               case measure => simp [RowKit.intOf]; omega
             · have d1 : (t9.kind == 1) = false := by rw [q]; rfl
               have d5 : (t9.kind == 5) = true := by simpa using q
               clear q
               go_wp2_with (go_at_call 17; refine (cB _).mono ?_; rintro e w' ⟨rfl, rfl⟩)
               go_roundw
               case rel => exact ⟨t9.to, i + 1, _, rfl, by go_num, g3, by omega, rfl, HK3, HB5⟩
               case measure => simp [RowKit.intOf]; omega)
        · have hti : ¬ (t9.to : Int) < (s.size : Int) := by omega
          clear hshut
          rcases q with q | q
          · have d1 : (t9.kind == 1) = true := by simpa using q
            clear q
            go_wp2
            go_roundw
            case rel => exact ⟨t9.to, i + 1, _, rfl, by go_num, g3, by omega, rfl, HK3, HB5⟩
            case measure => simp [RowKit.intOf]; omega
          · have d1 : (t9.kind == 1) = false := by rw [q]; rfl
            have d5 : (t9.kind == 5) = true := by simpa using q
            clear q
            go_wp2
            go_roundw
            case rel => exact ⟨t9.to, i + 1, _, rfl, by go_num, g3, by omega, rfl, HK3, HB5⟩
            case measure => simp [RowKit.intOf]; omega
    · have hii : ¬ (i : Int) < (l.length : Int) := by omega
      have hr : rest = [] := by rw [← HD.out, List.drop_eq_nil_of_le (by omega)]
      have hz : (cutR (s.data.toList.drop k)).kind = 0 := by
        have h := HK.out
        rw [hr] at h
        cases h with
        | nil h => exact h
      have hall := cut_nil_all hz
      have cBs := lblanks18_any s k s.size (by omega) hk (Nat.le_refl _) (fun j hj h1 h2 => by
        exact List.all_eq_true.mp hall (s[j]'hj) (by
          rw [List.mem_iff_getElem?]
          refine ⟨j - k, ?_⟩
          rw [List.getElem?_drop, show k + (j - k) = j from by omega]
          exact Lib.data_getElem? s j hj))
      clear hr hz hall HD HK
      go_wp2_with (go_at_call 18; refine (cBs _).mono ?_; rintro e w' ⟨rfl, rfl⟩)
      go_ret
      exact ⟨rfl, HB4.out.trans (HB.out.mono HB4.out.size)⟩
theorem places_walk {s : ByteArray} (hs : s.size ≤ 1048576) {w : World} (hE : ErrVar w) (hT : PowTab w) :
    Calls Tryz.prog 5 #[.string s] w fun e w' => e = .returned (.bool true) ∧ Below w.heap.size w w' := by
  obtain ⟨l, e, h⟩ := toks_any s.data.toList
  cases e with
  | none => exact places_ok (by omega) hE hT h
  | some p => exact places_bad (by omega) hE hT h
end Go.Proofs.YtnnpakllehldhaaGreatDoor

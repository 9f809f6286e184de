/- Layer 14: the document's plain form, place by place. -/
import Derived.Test.YtjnmgjcmagnkeaaDoorFtoP
import Derived.Test.YtjnmgjcmagnkeaaDoorBaseA
import Derived.Lib.BufferRead
namespace Go.Proofs.YtjnmgjcmagnkeaaDoor
open Go.ChangeShapes Go.WideShapes Go.ChangeAt Go.RowKit
open Lx Go.Shelf Ft
set_option linter.unusedVariables false
namespace Ft
def ib (l : B) : List Int := l.map fun b => (b.toNat : Int)
theorem ib_len (l : B) : (ib l).length = l.length := by unfold ib; rw [List.length_map]
/-- the digit at a place -/
def atD (d : B) (e p : Int) : UInt8 := if 0 ≤ (d.length : Int) - 1 + e - p ∧ (d.length : Int) - 1 + e - p < d.length then d.getD ((d.length : Int) - 1 + e - p).toNat 0 else 48
/-- the greatest place -/
def topD (d : B) (e : Int) : Int := if (d.length : Int) - 1 + e < 0 then 0 else (d.length : Int) - 1 + e
/-- the digits of so many places, from the greatest on -/
def seqD (d : B) (e : Int) (n : Nat) : B := (List.range n).map fun i : Nat => atD d e (topD d e - (i : Int))
/-- what has been written when so many places are done -/
def outD (d : B) (e : Int) (n : Nat) : B := if (n : Int) ≤ topD d e + 1 then seqD d e n else (seqD d e n).take (topD d e + 1).toNat ++ (46 :: (seqD d e n).drop (topD d e + 1).toNat)
theorem seq_len (d : B) (e : Int) (n : Nat) : (seqD d e n).length = n := by unfold seqD; rw [List.length_map, List.length_range]
theorem seq_next (d : B) (e : Int) (n : Nat) : seqD d e (n + 1) = seqD d e n ++ [atD d e (topD d e - n)] := by
  unfold seqD
  rw [List.range_succ, List.map_append]
  rfl
theorem top_nonneg (d : B) (e : Int) : 0 ≤ topD d e := by unfold topD; split <;> omega
theorem out_next (d : B) (e : Int) (n : Nat) : outD d e (n + 1) = (if topD d e - n = -1 then outD d e n ++ [46] else outD d e n) ++ [atD d e (topD d e - n)] := by
  have h := top_nonneg d e
  have hl := seq_len d e n
  unfold outD
  rw [seq_next]
  by_cases q : ((n + 1 : Nat) : Int) ≤ topD d e + 1
  · rw [if_pos q, if_neg (by omega), if_pos (by omega)]
  · rw [if_neg q]
    by_cases q2 : topD d e - n = -1
    · rw [if_pos q2, if_pos (by omega)]
      have e1 : (topD d e + 1).toNat = n := by omega
      rw [e1, List.take_append_of_le_length (by omega), List.take_of_length_le (by omega), List.drop_append_of_le_length (by omega), List.drop_of_length_le (by omega)]
      simp
    · rw [if_neg q2, if_neg (by omega), List.take_append_of_le_length (by omega), List.drop_append_of_le_length (by omega)]
      simp
theorem out_len (d : B) (e : Int) (n : Nat) : (outD d e n).length ≤ n + 1 := by
  have := seq_len d e n
  unfold outD
  split
  · omega
  · rw [List.length_append, List.length_cons, List.length_take, List.length_drop]; omega
/-- how many places -/
def manyD (d : B) (e : Int) : Nat := (topD d e + 1 - (if e < 0 then e else 0)).toNat
theorem row_is (d : B) (e : Int) (hd : d ≠ []) : seqD d e (manyD d e) = List.replicate (1 - ((d.length : Int) + e)).toNat 48 ++ (d ++ List.replicate e.toNat 48) := by
  have hpos : 0 < d.length := by cases d; exact absurd rfl hd; simp
  have hM : manyD d e = (1 - ((d.length : Int) + e)).toNat + (d.length + e.toNat) := by
    unfold manyD topD
    split <;> split <;> omega
  apply List.ext_getElem
  · rw [seq_len, hM, List.length_append, List.length_append, List.length_replicate, List.length_replicate]
  · intro i h1 h2
    rw [seq_len] at h1
    have ev : (seqD d e (manyD d e))[i]'(by rw [seq_len]; exact h1) = atD d e (topD d e - i) := by
      unfold seqD
      rw [List.getElem_map, List.getElem_range]
    rw [ev]
    unfold atD
    have ht : topD d e = if (d.length : Int) - 1 + e < 0 then 0 else (d.length : Int) - 1 + e := rfl
    by_cases c1 : i < (1 - ((d.length : Int) + e)).toNat
    · rw [List.getElem_append_left (by rw [List.length_replicate]; exact c1), List.getElem_replicate, if_neg (by rw [ht]; split <;> omega)]
    · rw [List.getElem_append_right (by rw [List.length_replicate]; omega)]
      simp only [List.length_replicate]
      by_cases c2 : i - (1 - ((d.length : Int) + e)).toNat < d.length
      · rw [List.getElem_append_left c2, if_pos (by rw [ht]; split <;> omega)]
        have ei : ((d.length : Int) - 1 + e - (topD d e - i)).toNat = i - (1 - ((d.length : Int) + e)).toNat := by rw [ht]; split <;> omega
        rw [ei, List.getD_eq_getElem?_getD, List.getElem?_eq_getElem c2]
        rfl
      · rw [List.getElem_append_right (by omega), List.getElem_replicate, if_neg (by rw [ht]; split <;> omega)]
theorem out_is (d : B) (e : Int) (hd : d ≠ []) : outD d e (manyD d e) = plT d (d.length + e) := by
  have hpos : 0 < d.length := by cases d; exact absurd rfl hd; simp
  have hr := row_is d e hd
  have hl := seq_len d e (manyD d e)
  unfold outD plT
  have hM : manyD d e = (topD d e + 1 - (if e < 0 then e else 0)).toNat := rfl
  have ht : topD d e = if (d.length : Int) - 1 + e < 0 then 0 else (d.length : Int) - 1 + e := rfl
  by_cases c0 : 0 ≤ e
  · rw [if_pos (by rw [hM, if_neg (by omega), ht]; split <;> omega), if_neg (by omega), if_neg (by omega), hr]
    have e1 : (1 - ((d.length : Int) + e)).toNat = 0 := by omega
    have e2 : ((d.length : Int) + e - d.length).toNat = e.toNat := by omega
    rw [e1, e2]
    rfl
  · rw [if_neg (by rw [hM, if_pos (by omega), ht]; split <;> omega), hr]
    have e0 : e.toNat = 0 := by omega
    rw [e0, List.replicate_zero, List.append_nil]
    by_cases c1 : (d.length : Int) + e ≤ 0
    · rw [if_pos c1]
      have e3 : (topD d e + 1).toNat = 1 := by rw [ht, if_pos (by omega)]; rfl
      have e4 : (1 - ((d.length : Int) + e)).toNat = (-((d.length : Int) + e)).toNat + 1 := by omega
      rw [e3, e4, List.replicate_succ]
      rfl
    · rw [if_neg c1, if_pos (by omega)]
      have e3 : (topD d e + 1).toNat = ((d.length : Int) + e).toNat := by rw [ht, if_neg (by omega)]; omega
      have e4 : (1 - ((d.length : Int) + e)).toNat = 0 := by omega
      rw [e3, e4, List.replicate_zero, List.nil_append]
theorem many_ge (d : B) (e : Int) (i : Nat) : i < manyD d e ↔ (0 ≤ topD d e - i ∨ e ≤ topD d e - i) := by
  have h := top_nonneg d e
  have hM : manyD d e = (topD d e + 1 - (if e < 0 then e else 0)).toNat := rfl
  rw [hM]
  split <;> omega
end Ft
theorem info14_u8 : (Tryd.prog.info? 5).map (fun i => (i.zero, i.size, i.bytes)) = some (some (.int .u8 0), 1, 1) := by kernel_rfl
theorem conv14 {w : World} {base : Nat} {v : Value} {l : B} (h : Own .u8 w base 5 v (ib l)) :
    ∃ (a : Option Addr) (n c : Nat), v = .slice a n c ∧ (convert 43 9 (.slice a n c)).run Tryd.prog w = .ok (.string (str l)) w := by
  obtain ⟨oa, oc, rfl, hr⟩ := h.reads
  refine ⟨_, _, _, rfl, ?_⟩
  obtain ⟨_, _, hl, hr⟩ := hr
  rw [ib_len] at *
  by_cases hz : l = []
  · subst hz
    cases oa with
    | none =>
      have := Lib.run_convert_nil_bytes (P := Tryd.prog) w 43 9 5 oc Tryd.underlying43 Tryd.underlying5 Tryd.underlying9
      exact this
    | some a => exact run_convert_bytes_back (P := Tryd.prog) w 43 9 5 a oc [] Tryd.underlying43 Tryd.underlying5 Tryd.underlying9 (fun j hj => absurd hj (Nat.not_lt_zero _))
  · rcases hr with h0 | ⟨g, off, rfl, hg, hc⟩
    · exact absurd (List.length_eq_zero_iff.mp h0) hz
    · refine run_convert_bytes_back (P := Tryd.prog) w 43 9 5 ⟨g, off, none⟩ oc l Tryd.underlying43 Tryd.underlying5 Tryd.underlying9 (fun j hj => ?_)
      rw [Lib.add_plain, hc j hj]
      congr 2
      unfold ib
      rw [List.getD_eq_getElem?_getD, List.getElem?_map, List.getElem?_eq_getElem hj]
      rfl
theorem at14_any {d : B} {e p : Int} (hl : d.length ≤ 1000000) (e0 : -1000000 ≤ e) (e1 : e ≤ 1000000) (p0 : -3000000 ≤ p) (p1 : p ≤ 3000000) (w : World) :
    Calls Tryd.prog 20 #[.string (str d), .int .i64 e, .int .i64 p] w fun r w' => r = .returned (.int .u8 ((atD d e p).toNat : Int)) ∧ w' = w := by
  have sd : (str d).size = d.length := str_size d
  unfold atD
  by_cases q : 0 ≤ (d.length : Int) - 1 + e - p ∧ (d.length : Int) - 1 + e - p < d.length
  · rw [if_pos q]
    obtain ⟨i, hi⟩ : ∃ i : Nat, (d.length : Int) - 1 + e - p = (i : Int) := ⟨((d.length : Int) - 1 + e - p).toNat, by omega⟩
    have hx : ∀ h, (str d)[i]'h = d.getD i 0 := fun h => by
      have := Lib.data_getElem? (str d) i h
      rw [str_list] at this
      rw [List.getD_eq_getElem?_getD, this]
      rfl
    have hi2 : i < d.length := by omega
    have ht : ((i : Int)).toNat = i := by omega
    rw [hi, ht]
    generalize d.getD i 0 = C at *
    obtain ⟨q1, q2⟩ := q
    have d1 : decide ((i : Int) < 0) = false := by simp
    have d2 : decide ((i : Int) ≥ (d.length : Int)) = false := by simp; omega
    have d3 : decide ((d.length : Int) ≤ (i : Int)) = false := by simp; omega
    clear q1 q2
    go_enter Tryd.func20, Tryd.ntmps20
    go_wp2
    go_ret
    exact ⟨rfl, rfl⟩
  · rw [if_neg q]
    by_cases q1 : (d.length : Int) - 1 + e - p < 0
    · clear q
      go_enter Tryd.func20, Tryd.ntmps20
      go_wp2
      go_ret
      exact ⟨rfl, rfl⟩
    · have q2 : (d.length : Int) ≤ (d.length : Int) - 1 + e - p := by omega
      have q3 : 0 ≤ (d.length : Int) - 1 + e - p := by omega
      clear q q1
      obtain ⟨i, hi⟩ : ∃ i : Int, (d.length : Int) - 1 + e - p = i := ⟨_, rfl⟩
      rw [hi] at q2 q3
      go_enter Tryd.func20, Tryd.ntmps20
      go_wp2
      go_ret
      exact ⟨rfl, rfl⟩
set_option maxHeartbeats 3200000 in
set_option maxRecDepth 100000 in
theorem rplain14_any {d : B} {e : Int} (hd : d ≠ []) (hl : d.length ≤ 100000) (e0 : -100000 ≤ e) (e1 : e ≤ 100000) (w : World) :
    Calls Tryd.prog 11 #[.string (str d), .int .i64 e] w fun r w' => r = .returned (.string (str (plT d (d.length + e)))) ∧ Below w.heap.size w w' := by
  have sd : (str d).size = d.length := str_size d
  have hE : (str d).toList.isEmpty = false := by rw [Lib.toList_data, str_list]; exact isEmpty_ne hd
  obtain ⟨i_u8, hi_u8, hz0_u8, hz1_u8, hz2_u8⟩ := info_parts info14_u8
  have HO := Lib.hid (out_is d e hd)
  have t0 := top_nonneg d e
  have tt : topD d e = if (d.length : Int) - 1 + e < 0 then 0 else (d.length : Int) - 1 + e := rfl
  have t1 : topD d e ≤ 200000 := by rw [tt]; split <;> omega
  have HT := Lib.hid tt
  have hAt : ∀ i : Nat, i < manyD d e → ∀ w, Calls Tryd.prog 20 #[.string (str d), .int .i64 e, .int .i64 (topD d e - (i : Int))] w fun r w' => r = .returned (.int .u8 ((atD d e (topD d e - (i : Int))).toNat : Int)) ∧ w' = w := fun i hi w => at14_any (by omega) (by omega) (by omega) (by have := (many_ge d e i).mp hi; omega) (by omega) w
  have hM := many_ge d e
  have hN := out_next d e
  have HMb : Hid (manyD d e ≤ 400000) := by
    show manyD d e ≤ 400000
    have : manyD d e = (topD d e + 1 - (if e < 0 then e else 0)).toNat := rfl
    rw [this]; split <;> omega
  have HM := Lib.hid hM
  have HN := Lib.hid hN
  have HA := Lib.hid hAt
  clear hM hN hAt tt
  have o0 : Own .u8 w w.heap.size 5 (.slice none 0 0) (ib (outD d e 0)) := by
    have : outD d e 0 = [] := by unfold outD; rw [if_pos (by omega)]; rfl
    rw [this]; exact own_nil _ _ _ _
  by_cases c : (d.length : Int) - 1 + e < 0
  · have HS : Hid ((0 : Int) = topD d e - ((0 : Nat) : Int)) := by show _ = _; rw [HT.out, if_pos c]; rfl
    clear HT t0
    go_enter Tryd.func11, Tryd.ntmps11
    go_wp2
    go_loopg [6, 7] (manyD d e) (fun k s6 s7 wr => ∃ (i : Nat) (P : Int), s7 = .int .i64 P ∧ P = topD d e - (i : Int) ∧ i ≤ manyD d e ∧ manyD d e ≤ i + k ∧ Own .u8 wr w.heap.size 5 s6 (ib (outD d e i)) ∧ Below w.heap.size w wr)
    case atStart => exact ⟨0, _, rfl, HS.out, Nat.zero_le _, by omega, o0, Below.refl _ _⟩
    case round =>
      obtain ⟨i, P, rfl, hP, hi, hk, hov, hbl⟩ := hrel
      have hmg := HM.out i
      rw [← hP] at hmg
      have hMb := HMb.out
      have hol : (ib (outD d e i)).length ≤ 400002 := by rw [ib_len]; have := out_len d e i; omega
      have pb0 : -400000 ≤ P := by have := top_nonneg d e; omega
      have pb1 : P ≤ 200000 := by omega
      have hsz : w.heap.size ≤ wr.heap.size := hbl.size
      by_cases qi : i < manyD d e
      · have hA := HA.out i qi
        rw [← hP] at hA
        have hor := hmg.mp qi
        clear hmg
        by_cases cp : 0 ≤ P
        · have n1 : ¬ P = -1 := by omega
          have n2 : (P == -1) = false := beq_eq_false_iff_ne.mpr n1
          clear hor
          have HE : Hid (ib (outD d e (i + 1)) = ib (outD d e i) ++ [((atD d e P).toNat : Int)]) := by
            show _ = _
            rw [HN.out i, ← hP, if_neg n1]
            unfold ib
            rw [List.map_append]; rfl
          have HI : Hid (i + 1 ≤ manyD d e ∧ P - 1 = topD d e - ((i + 1 : Nat) : Int)) := ⟨qi, by omega⟩
          generalize atD d e P = C at *
          generalize ib (outD d e i) = us at *
          clear hP
          go_wp2_with fail
          refine (hA _).mono ?_
          rintro r w3 ⟨rfl, hw⟩
          rw [hw]
          clear hA hw
          go_wp2_with (at_builtin; refine wpList_append_own _ rfl _ _ 43 rfl w.heap.size 5 i_u8 (.int .u8 0) 1 1 Tryd.underlying43 hi_u8 hz0_u8 hz1_u8 hz2_u8 rfl (by decide) _ _ _ rfl (hov.row.alloc _) ⟨wr.heap.size, 0, none⟩ 1 1 [.int .u8 C.toNat] rfl rfl one_new one_cell (by unfold maxLen; omega) (by omega) (by simp; omega) ?_)
          intro v' w5 hown' hgrow _
          have hb' := grow_below hsz hov.row hbl hgrow
          have ho' := own_next hown' rfl
          rw [← HE.out] at ho'
          clear hown' hgrow hov hbl HE
          go_wp2
          go_roundg (gk - 1)
          case measure => omega
          case rel => exact ⟨i + 1, P - 1, rfl, HI.out.2, HI.out.1, by omega, ho', hb'⟩
        · have cp2 : e ≤ P := by omega
          have cp1 : P < 0 := by omega
          clear hor cp
          by_cases n1 : P = -1
          · have HE : Hid (ib (outD d e (i + 1)) = (ib (outD d e i) ++ [46]) ++ [((atD d e P).toNat : Int)]) := by
              show _ = _
              rw [HN.out i, ← hP, if_pos n1]
              unfold ib
              rw [List.map_append, List.map_append]; rfl
            have HI : Hid (i + 1 ≤ manyD d e ∧ P - 1 = topD d e - ((i + 1 : Nat) : Int)) := ⟨qi, by omega⟩
            generalize atD d e P = C at *
            generalize ib (outD d e i) = us at *
            clear hP
            subst n1
            go_wp2_with (at_builtin; refine wpList_append_own _ rfl _ _ 43 rfl w.heap.size 5 i_u8 (.int .u8 0) 1 1 Tryd.underlying43 hi_u8 hz0_u8 hz1_u8 hz2_u8 rfl (by decide) _ _ _ rfl (hov.row.alloc _) ⟨wr.heap.size, 0, none⟩ 1 1 [.int .u8 46] rfl rfl one_new one_cell (by unfold maxLen; omega) (by omega) (by simp; omega) ?_)
            intro v' w5 hown' hgrow _
            have hb' := grow_below hsz hov.row hbl hgrow
            have ho' := own_next hown' rfl
            clear hown' hgrow hov hbl
            have hsz' : w.heap.size ≤ w5.heap.size := hb'.size
            have hl5 : (us ++ [46]).length ≤ 400003 := by rw [List.length_append]; simp; omega
            generalize us ++ [46] = us2 at *
            go_wp2_with fail
            refine (hA _).mono ?_
            rintro r w6 ⟨rfl, hw⟩
            rw [hw]
            clear hA hw
            go_wp2_with (at_builtin; refine wpList_append_own _ rfl _ _ 43 rfl w.heap.size 5 i_u8 (.int .u8 0) 1 1 Tryd.underlying43 hi_u8 hz0_u8 hz1_u8 hz2_u8 rfl (by decide) _ _ _ rfl (ho'.row.alloc _) ⟨w5.heap.size, 0, none⟩ 1 1 [.int .u8 C.toNat] rfl rfl one_new one_cell (by unfold maxLen; omega) (by omega) (by simp; omega) ?_)
            intro v' w7 hown' hgrow _
            have hb7 := grow_below hsz' ho'.row hb' hgrow
            have ho7 := own_next hown' rfl
            rw [← HE.out] at ho7
            clear hown' hgrow ho' hb' HE
            go_wp2
            go_roundg (gk - 1)
            case measure => omega
            case rel => exact ⟨i + 1, -1 - 1, rfl, HI.out.2, HI.out.1, by omega, ho7, hb7⟩
          · have n2 : (P == -1) = false := beq_eq_false_iff_ne.mpr n1
            have HE : Hid (ib (outD d e (i + 1)) = ib (outD d e i) ++ [((atD d e P).toNat : Int)]) := by
              show _ = _
              rw [HN.out i, ← hP, if_neg n1]
              unfold ib
              rw [List.map_append]; rfl
            have HI : Hid (i + 1 ≤ manyD d e ∧ P - 1 = topD d e - ((i + 1 : Nat) : Int)) := ⟨qi, by omega⟩
            generalize atD d e P = C at *
            generalize ib (outD d e i) = us at *
            clear hP
            go_wp2_with fail
            refine (hA _).mono ?_
            rintro r w3 ⟨rfl, hw⟩
            rw [hw]
            clear hA hw
            go_wp2_with (at_builtin; refine wpList_append_own _ rfl _ _ 43 rfl w.heap.size 5 i_u8 (.int .u8 0) 1 1 Tryd.underlying43 hi_u8 hz0_u8 hz1_u8 hz2_u8 rfl (by decide) _ _ _ rfl (hov.row.alloc _) ⟨wr.heap.size, 0, none⟩ 1 1 [.int .u8 C.toNat] rfl rfl one_new one_cell (by unfold maxLen; omega) (by omega) (by simp; omega) ?_)
            intro v' w5 hown' hgrow _
            have hb' := grow_below hsz hov.row hbl hgrow
            have ho' := own_next hown' rfl
            rw [← HE.out] at ho'
            clear hown' hgrow hov hbl HE
            go_wp2
            go_roundg (gk - 1)
            case measure => omega
            case rel => exact ⟨i + 1, P - 1, rfl, HI.out.2, HI.out.1, by omega, ho', hb'⟩
      · have c1 : P < 0 := by have := mt hmg.mpr qi; omega
        have c2 : P < e := by have := mt hmg.mpr qi; omega
        have ei : i = manyD d e := by omega
        have HR : Hid (outD d e i = plT d (d.length + e)) := by show _ = _; rw [ei]; exact HO.out
        obtain ⟨a2, n2, c2', rfl, hcv⟩ := conv14 hov
        clear hov hmg ei hP qi
        go_wp2
        go_ret
        exact ⟨by rw [HR.out]; rfl, hbl⟩
  · have c' : 0 ≤ (d.length : Int) - 1 + e := by omega
    have HS : Hid ((d.length : Int) - 1 + e = topD d e - ((0 : Nat) : Int)) := by show _ = _; rw [HT.out, if_neg c]; simp
    clear HT t0 c
    go_enter Tryd.func11, Tryd.ntmps11
    go_wp2
    go_loopg [6, 7] (manyD d e) (fun k s6 s7 wr => ∃ (i : Nat) (P : Int), s7 = .int .i64 P ∧ P = topD d e - (i : Int) ∧ i ≤ manyD d e ∧ manyD d e ≤ i + k ∧ Own .u8 wr w.heap.size 5 s6 (ib (outD d e i)) ∧ Below w.heap.size w wr)
    case atStart => exact ⟨0, _, rfl, HS.out, Nat.zero_le _, by omega, o0, Below.refl _ _⟩
    case round =>
      obtain ⟨i, P, rfl, hP, hi, hk, hov, hbl⟩ := hrel
      have hmg := HM.out i
      rw [← hP] at hmg
      have hMb := HMb.out
      have hol : (ib (outD d e i)).length ≤ 400002 := by rw [ib_len]; have := out_len d e i; omega
      have pb0 : -400000 ≤ P := by have := top_nonneg d e; omega
      have pb1 : P ≤ 200000 := by omega
      have hsz : w.heap.size ≤ wr.heap.size := hbl.size
      by_cases qi : i < manyD d e
      · have hA := HA.out i qi
        rw [← hP] at hA
        have hor := hmg.mp qi
        clear hmg
        by_cases cp : 0 ≤ P
        · have n1 : ¬ P = -1 := by omega
          have n2 : (P == -1) = false := beq_eq_false_iff_ne.mpr n1
          clear hor
          have HE : Hid (ib (outD d e (i + 1)) = ib (outD d e i) ++ [((atD d e P).toNat : Int)]) := by
            show _ = _
            rw [HN.out i, ← hP, if_neg n1]
            unfold ib
            rw [List.map_append]; rfl
          have HI : Hid (i + 1 ≤ manyD d e ∧ P - 1 = topD d e - ((i + 1 : Nat) : Int)) := ⟨qi, by omega⟩
          generalize atD d e P = C at *
          generalize ib (outD d e i) = us at *
          clear hP
          go_wp2_with fail
          refine (hA _).mono ?_
          rintro r w3 ⟨rfl, hw⟩
          rw [hw]
          clear hA hw
          go_wp2_with (at_builtin; refine wpList_append_own _ rfl _ _ 43 rfl w.heap.size 5 i_u8 (.int .u8 0) 1 1 Tryd.underlying43 hi_u8 hz0_u8 hz1_u8 hz2_u8 rfl (by decide) _ _ _ rfl (hov.row.alloc _) ⟨wr.heap.size, 0, none⟩ 1 1 [.int .u8 C.toNat] rfl rfl one_new one_cell (by unfold maxLen; omega) (by omega) (by simp; omega) ?_)
          intro v' w5 hown' hgrow _
          have hb' := grow_below hsz hov.row hbl hgrow
          have ho' := own_next hown' rfl
          rw [← HE.out] at ho'
          clear hown' hgrow hov hbl HE
          go_wp2
          go_roundg (gk - 1)
          case measure => omega
          case rel => exact ⟨i + 1, P - 1, rfl, HI.out.2, HI.out.1, by omega, ho', hb'⟩
        · have cp2 : e ≤ P := by omega
          have cp1 : P < 0 := by omega
          clear hor cp
          by_cases n1 : P = -1
          · have HE : Hid (ib (outD d e (i + 1)) = (ib (outD d e i) ++ [46]) ++ [((atD d e P).toNat : Int)]) := by
              show _ = _
              rw [HN.out i, ← hP, if_pos n1]
              unfold ib
              rw [List.map_append, List.map_append]; rfl
            have HI : Hid (i + 1 ≤ manyD d e ∧ P - 1 = topD d e - ((i + 1 : Nat) : Int)) := ⟨qi, by omega⟩
            generalize atD d e P = C at *
            generalize ib (outD d e i) = us at *
            clear hP
            subst n1
            go_wp2_with (at_builtin; refine wpList_append_own _ rfl _ _ 43 rfl w.heap.size 5 i_u8 (.int .u8 0) 1 1 Tryd.underlying43 hi_u8 hz0_u8 hz1_u8 hz2_u8 rfl (by decide) _ _ _ rfl (hov.row.alloc _) ⟨wr.heap.size, 0, none⟩ 1 1 [.int .u8 46] rfl rfl one_new one_cell (by unfold maxLen; omega) (by omega) (by simp; omega) ?_)
            intro v' w5 hown' hgrow _
            have hb' := grow_below hsz hov.row hbl hgrow
            have ho' := own_next hown' rfl
            clear hown' hgrow hov hbl
            have hsz' : w.heap.size ≤ w5.heap.size := hb'.size
            have hl5 : (us ++ [46]).length ≤ 400003 := by rw [List.length_append]; simp; omega
            generalize us ++ [46] = us2 at *
            go_wp2_with fail
            refine (hA _).mono ?_
            rintro r w6 ⟨rfl, hw⟩
            rw [hw]
            clear hA hw
            go_wp2_with (at_builtin; refine wpList_append_own _ rfl _ _ 43 rfl w.heap.size 5 i_u8 (.int .u8 0) 1 1 Tryd.underlying43 hi_u8 hz0_u8 hz1_u8 hz2_u8 rfl (by decide) _ _ _ rfl (ho'.row.alloc _) ⟨w5.heap.size, 0, none⟩ 1 1 [.int .u8 C.toNat] rfl rfl one_new one_cell (by unfold maxLen; omega) (by omega) (by simp; omega) ?_)
            intro v' w7 hown' hgrow _
            have hb7 := grow_below hsz' ho'.row hb' hgrow
            have ho7 := own_next hown' rfl
            rw [← HE.out] at ho7
            clear hown' hgrow ho' hb' HE
            go_wp2
            go_roundg (gk - 1)
            case measure => omega
            case rel => exact ⟨i + 1, -1 - 1, rfl, HI.out.2, HI.out.1, by omega, ho7, hb7⟩
          · have n2 : (P == -1) = false := beq_eq_false_iff_ne.mpr n1
            have HE : Hid (ib (outD d e (i + 1)) = ib (outD d e i) ++ [((atD d e P).toNat : Int)]) := by
              show _ = _
              rw [HN.out i, ← hP, if_neg n1]
              unfold ib
              rw [List.map_append]; rfl
            have HI : Hid (i + 1 ≤ manyD d e ∧ P - 1 = topD d e - ((i + 1 : Nat) : Int)) := ⟨qi, by omega⟩
            generalize atD d e P = C at *
            generalize ib (outD d e i) = us at *
            clear hP
            go_wp2_with fail
            refine (hA _).mono ?_
            rintro r w3 ⟨rfl, hw⟩
            rw [hw]
            clear hA hw
            go_wp2_with (at_builtin; refine wpList_append_own _ rfl _ _ 43 rfl w.heap.size 5 i_u8 (.int .u8 0) 1 1 Tryd.underlying43 hi_u8 hz0_u8 hz1_u8 hz2_u8 rfl (by decide) _ _ _ rfl (hov.row.alloc _) ⟨wr.heap.size, 0, none⟩ 1 1 [.int .u8 C.toNat] rfl rfl one_new one_cell (by unfold maxLen; omega) (by omega) (by simp; omega) ?_)
            intro v' w5 hown' hgrow _
            have hb' := grow_below hsz hov.row hbl hgrow
            have ho' := own_next hown' rfl
            rw [← HE.out] at ho'
            clear hown' hgrow hov hbl HE
            go_wp2
            go_roundg (gk - 1)
            case measure => omega
            case rel => exact ⟨i + 1, P - 1, rfl, HI.out.2, HI.out.1, by omega, ho', hb'⟩
      · have c1 : P < 0 := by have := mt hmg.mpr qi; omega
        have c2 : P < e := by have := mt hmg.mpr qi; omega
        have ei : i = manyD d e := by omega
        have HR : Hid (outD d e i = plT d (d.length + e)) := by show _ = _; rw [ei]; exact HO.out
        obtain ⟨a2, n2, c2', rfl, hcv⟩ := conv14 hov
        clear hov hmg ei hP qi
        go_wp2
        go_ret
        exact ⟨by rw [HR.out]; rfl, hbl⟩
end Go.Proofs.YtjnmgjcmagnkeaaDoor

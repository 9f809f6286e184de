/- Layer 14: ftoa: Line. -/
import Derived.Test.YtjnmgjcmagnkeaaGreatDoorFtoE
namespace Go.Proofs.YtjnmgjcmagnkeaaGreatDoor
open Go.ChangeShapes Go.WideShapes Go.ChangeAt Go.RowKit
open Na Ar Ry Ft Lx Go.Shelf
set_option linter.unusedVariables false
namespace Ft
def lineT (zs : List Int) (m : Int) : B := Lib.join (zs.map (textT · m)) [32]
theorem join_len (l : List B) (h : ∀ x ∈ l, x.length ≤ 20001) : (Lib.join l [32]).length ≤ l.length * 20002 := by
  unfold Lib.join
  induction l with
  | nil => simp
  | cons x r ih =>
    have h1 := h x (List.mem_cons_self ..)
    have h2 := ih (fun y hy => h y (List.mem_cons_of_mem _ hy))
    cases r with
    | nil => simp [List.intercalate]; omega
    | cons y q =>
      rw [List.intercalate_cons_cons, List.length_append, List.length_append]
      rw [List.length_cons (a := x)]
      have e1 : [(32 : UInt8)].length = 1 := rfl
      omega
end Ft
theorem info14_str : (Tryz.prog.info? 9).map (fun i => (i.zero, i.size, i.bytes)) = some (some (.string ⟨#[]⟩), 1, 16) := by kernel_rfl
theorem run_partS {P : Program} (w : World) (t e : TypeId) (i : TypeInfo) (h1 : P.underlying t = some (.slice e)) (h2 : P.info? e = some i) (h3 : i.zero = some (.string ⟨#[]⟩)) (h4 : i.size = 1) (C : Nat) (b2 : i.bytes * C ≤ 281474976710656) (b3 : C ≤ maxLen) :
    ∃ w', (Instr.makeSlice t (.int .i64 0) (.int .i64 (C : Int))).run P w = .ok (.slice (some ⟨w.heap.size, 0, none⟩) 0 C) w' ∧ w'.ownsRow w.heap.size e 1 (.slice (some ⟨w.heap.size, 0, none⟩) 0 C) 0 [] ∧ Below w.heap.size w w' := by
  have h63' : (C : Int) ≤ 9223372036854775807 := by
    have h := b3
    unfold maxLen at h
    omega
  have hb' : (i.bytes : Int) * (C : Int) ≤ 281474976710656 := by
    have h : ((i.bytes * C : Nat) : Int) ≤ 281474976710656 := by omega
    rwa [Int.natCast_mul] at h
  have hr := run_make (P := P) w t e i (.string ⟨#[]⟩) h1 h2 h3 .i64 .i64 0 (C : Int) (by omega) (by omega) hb' h63'
  simp only [Int.toNat_natCast, h4, Nat.mul_one] at hr
  refine ⟨_, hr, ?_, alloc_below _⟩
  exact ⟨by simp, Or.inr ⟨w.heap.size, C, _, rfl, Nat.le_refl _, heap_alloc_new _ _, Nat.zero_le _, b3, by rw [size_madeCells, Nat.mul_one], by simp⟩⟩
theorem ownsRow_later14 {w w' : World} {base n : Nat} {e : TypeId} {v : Value} {xs : List Value} (h : w.ownsRow base e 1 v n xs) (hb : Below w.heap.size w w') : w'.ownsRow base e 1 v n xs := by
  obtain ⟨h1, h2⟩ := h
  refine ⟨h1, ?_⟩
  rcases h2 with h2 | ⟨g, c, cur, hv, hg, hc, r⟩
  · exact Or.inl h2
  · refine Or.inr ⟨g, c, cur, hv, hg, ?_, r⟩
    have hlt : g < w.heap.size := by
      rcases Nat.lt_or_ge g w.heap.size with q | q
      · exact q
      · rw [Array.getElem?_eq_none q] at hc; cases hc
    rw [hb.block g hlt]; exact hc
theorem one_str {s : ByteArray} : ∀ u ∈ [Value.string s], u.oneCell' = true := by
  intro u hu; simp at hu; subst hu; rfl
theorem join14 {wr : World} {base n : Nat} {v : Value} {l : List B} (ho : wr.ownsRow base 9 1 v n (l.map fun x => .string (str x))) (hn : n ≤ 100000) (hl : ∀ x ∈ l, x.length ≤ 20001) :
    Calls Tryz.prog 28 #[v, .string ⟨#[32]⟩] wr fun r w' => r = .returned (.string (str (Lib.join l [32]))) ∧ Below wr.heap.size wr w' := by
  obtain ⟨h1, h2⟩ := ho
  rw [List.length_map, Nat.mul_one] at h1
  rcases h2 with ⟨rfl, h0⟩ | ⟨g, cap, cur, rfl, hg, hc, hcap, hmx, hsz, htk⟩
  · have : l = [] := List.eq_nil_of_length_eq_zero (by omega)
    subst this
    subst h0
    exact (Any.strings_Join_none lays3_156 layBuilderExtra3 none 0 ⟨#[32]⟩ wr).mono fun e w' ⟨he, hw⟩ => ⟨by rw [he]; rfl, hw ▸ Below.refl _ _⟩
  · have hlt : g < wr.heap.size := by
      rcases Nat.lt_or_ge g wr.heap.size with q | q
      · exact q
      · rw [Array.getElem?_eq_none q] at hc; cases hc
    have hcl : ∀ (j : Nat) x, (l.map str)[j]? = some x → wr.cell? ⟨g, 0 + j, none⟩ = some (.string x) := fun j x hx => by
      rw [List.getElem?_map] at hx
      obtain ⟨y, hy, rfl⟩ := Option.map_eq_some_iff.1 hx
      have hj : j < n := by rw [← h1]; exact (List.getElem?_eq_some_iff.1 hy).1
      have e : (cur.toList.take (n * 1))[j]? = some (.string (str y)) := by rw [htk, List.getElem?_map, hy]; rfl
      rw [List.getElem?_take_of_lt (by omega)] at e
      rw [Nat.zero_add]
      simp only [World.cell?, hc]
      simpa using e
    have e1 : (l.map str).map (·.data.toList) = l := by
      rw [List.map_map]
      exact (List.map_congr_left (fun x _ => str_list x)).trans (List.map_id l)
    have jl := join_len l hl
    have := Any.strings_Join lays3_156 layBuilderExtra3 g 0 cap (l.map str) ⟨#[32]⟩ wr hcl hlt (by rw [List.length_map]; omega) (by rw [List.length_map]; omega) (by rw [e1]; show (Lib.join l [32]).length ≤ _; rw [h1] at jl; omega)
    rw [e1, List.length_map, h1] at this
    exact this
set_option maxRecDepth 100000 in
theorem line14_none {v : Value} {m : Int} (h1 : m ≠ 1) (h2 : m ≠ 2) (h3 : m ≠ 3) (w : World) :
    Calls Tryz.prog 14 #[v, .int .i64 m] w fun r w' => r = .returned (.tuple #[.string ⟨#[]⟩, .int .i64 140]) ∧ w' = w := by
  have hW := fun w => wayOf_none h1 h2 h3 w
  have f1 := fnEqY
  go_enter Tryz.func14, Tryz.ntmps14
  go_wp2_with fail
  refine (hW _).mono ?_
  rintro e w1 ⟨rfl, hw⟩
  rw [hw]
  clear hW hw
  go_wp2
  go_ret2
  exact ⟨rfl, rfl⟩
/-- what a line answers -/
def LineIs (zs : List Int) (m : Int) (S : B) (E : Int) : Prop :=
  ((∀ z ∈ zs, ef z ≠ 2047) ∧ S = lineT zs m ∧ E = 0) ∨ ((∃ z ∈ zs, ef z = 2047) ∧ S = [] ∧ E = 60)
set_option maxHeartbeats 3200000 in
set_option maxRecDepth 100000 in
theorem line14_any {w : World} {a : Option Addr} {n c : Nat} {zs : List Int} (hr : RowAt .u64 w a n zs) (hn : n ≤ 100000) (hU : ∀ z ∈ zs, U z) {m : Int} (hm : m = 1 ∨ m = 2 ∨ m = 3) (hz : ZeroVar w) (hT : PowTb w) :
    Calls Tryz.prog 14 #[.slice a n c, .int .i64 m] w fun r w' => ∃ S E, r = .returned (.tuple #[.string (str S), .int .i64 E]) ∧ LineIs zs m S E ∧ Below w.heap.size w w' := by
  have hW : ∀ w, ∃ f, Calls Tryz.prog 26 #[.int .i64 m] w fun r w' => r = .returned (.func f #[] #[]) ∧ w' = w := fun w => by
    rcases hm with rfl | rfl | rfl
    · exact ⟨_, way1 w⟩
    · exact ⟨_, way2 w⟩
    · exact ⟨_, way3 w⟩
  have f1 := fnEqN
  obtain ⟨f, hw1⟩ := hW w
  clear hW
  have hlz : zs.length = n := hr.1
  obtain ⟨i_s, hi_s, hz0_s, hz1_s, hz2_s⟩ := info_parts info14_str
  obtain ⟨w1, hmk, O1, B1⟩ := run_partS (P := Tryz.prog) w 67 9 i_s Tryz.underlying67 hi_s hz0_s hz1_s n (by rw [hz2_s]; omega) (by unfold maxLen; omega)
  have HU : Hid (∀ z ∈ zs, U z) := hU
  have HR : Hid (RowAt .u64 w a n zs) := hr
  have HZ : Hid (ZeroVar w ∧ PowTb w) := ⟨hz, hT⟩
  have HM : Hid (m = 1 ∨ m = 2 ∨ m = 3) := hm
  clear hr hU hz hT hm
  go_enter Tryz.func14, Tryz.ntmps14
  go_wp2_with fail
  refine hw1.mono ?_
  rintro e w2 ⟨rfl, hw⟩
  rw [hw]
  clear hw1 hw
  go_wp2
  go_loopw [6, 19] (fun v i wr => ∃ j : Nat, i = .int .i64 (j : Int) ∧ j ≤ n ∧ wr.ownsRow w.heap.size 9 1 v j (((zs.take j).map (textT · m)).map fun x => .string (str x)) ∧ Hid (∀ z ∈ zs.take j, ef z ≠ 2047) ∧ Below w.heap.size w wr) (fun _ i _ => n - (RowKit.intOf i).toNat)
  case atStart => exact ⟨0, rfl, Nat.zero_le _, O1, (by intro z hz; rw [List.take_zero] at hz; cases hz), B1⟩
  case round =>
    obtain ⟨j, rfl, hj, hov, HF, hbl⟩ := hrel
    clear O1 B1 hmk
    obtain ⟨hz, hT⟩ := HZ.out
    have zr := hz.later hbl
    have pr := powTb_later hT hbl
    clear hz hT
    by_cases q : j < n
    · have d0 : decide ((j : Int) < (n : Int)) = true := by simp; omega
      obtain ⟨bb, off, ha, hbb, hcc⟩ : ∃ b off, a = some ⟨b, off, none⟩ ∧ b < w.heap.size ∧ ∀ i, i < n → w.cell? ⟨b, off + i, none⟩ = some (.int .u64 (zs.getD i 0)) := by
        rcases HR.out.2 with h | h
        · omega
        · exact h
      have hcl := (hbl.cell (p := ⟨bb, off + j, none⟩) hbb).trans (hcc j q)
      have hget : zs[j]? = some (zs.getD j 0) := by rw [List.getD_eq_getElem?_getD, List.getElem?_eq_getElem (by omega)]; rfl
      have hmem : zs.getD j 0 ∈ zs := List.mem_of_getElem? hget
      have uz := HU.out _ hmem
      have HTK : Hid (zs.take (j + 1) = zs.take j ++ [zs.getD j 0]) := by show _ = _; rw [List.take_add_one, hget]; rfl
      have HME : Hid (zs.getD j 0 ∈ zs) := hmem
      clear hcc hget hmem
      generalize zs.getD j 0 = z at *
      subst ha
      by_cases qf : ef z = 2047
      · have hX := fun w => text14_inf (m := m) uz qf HM.out w
        have HL : Hid (LineIs zs m [] 60) := Or.inr ⟨⟨z, HME.out, qf⟩, rfl, rfl⟩
        clear qf hov HTK
        go_wp2_with fail
        refine (hX _).mono ?_
        rintro e w3 ⟨rfl, hw⟩
        rw [hw]
        clear hX hw
        go_wp2
        go_ret2
        exact ⟨[], 60, rfl, HL.out, hbl⟩
      · have hX := text14_fin (m := m) uz qf HM.out zr pr
        have HF2 : Hid (∀ z ∈ zs.take (j + 1), ef z ≠ 2047) := by
          show ∀ z ∈ zs.take (j + 1), ef z ≠ 2047
          rw [HTK.out]
          intro y hy
          rcases List.mem_append.1 hy with hy | hy
          · exact HF.out y hy
          · rw [List.mem_singleton.1 hy]; exact qf
        have HE : Hid (((zs.take (j + 1)).map (textT · m)).map (fun x => Value.string (str x)) = ((zs.take j).map (textT · m)).map (fun x => Value.string (str x)) ++ [.string (str (textT z m))]) := by
          show _ = _
          rw [HTK.out, List.map_append, List.map_append]; rfl
        generalize textT z m = X at *
        generalize ((zs.take j).map (textT · m)).map (fun x => Value.string (str x)) = XS at *
        clear qf HTK HF
        go_wp2_with fail
        refine hX.mono ?_
        rintro e w3 ⟨rfl, hb3⟩
        have ho3 := ownsRow_later14 hov hb3
        have B3 := hbl.trans (hb3.mono hbl.size)
        have hsz : w.heap.size ≤ w3.heap.size := B3.size
        clear hX hov hbl hb3 hcl zr pr
        go_wp2_with (at_builtin; refine wpList_append_own _ rfl _ _ 67 rfl w.heap.size 9 i_s (.string ⟨#[]⟩) 1 16 Tryz.underlying67 hi_s hz0_s hz1_s hz2_s rfl (by decide) _ _ _ rfl (ho3.alloc _) ⟨w3.heap.size, 0, none⟩ 1 1 [.string (str X)] rfl rfl one_new one_str (by unfold maxLen; omega) (by omega) (by simp; omega) ?_)
        intro v' w5 hown' hgrow _
        have hb' := grow_below hsz ho3 B3 hgrow
        rw [← HE.out] at hown'
        clear hgrow ho3 B3 HE
        go_wp2
        go_roundw
        case rel => exact ⟨j + 1, rfl, by omega, hown', HF2.out, hb'⟩
        case measure => simp [RowKit.intOf]; omega
    · have d0 : decide ((j : Int) < (n : Int)) = false := by simp; omega
      have ej : j = n := by omega
      have etk : zs.take j = zs := List.take_of_length_le (by omega)
      have hl : ∀ x ∈ (zs.take j).map (textT · m), x.length ≤ 20001 := fun x hx => by
        obtain ⟨y, hy, rfl⟩ := List.mem_map.1 hx
        exact text_len (HU.out y (List.mem_of_mem_take hy)) (HF.out y hy) HM.out
      have hJ := join14 hov (by omega) hl
      have HL : Hid (LineIs zs m (Lib.join ((zs.take j).map (textT · m)) [32]) 0) := Or.inl ⟨by rw [← etk]; exact HF.out, by rw [etk]; rfl, rfl⟩
      generalize Lib.join ((zs.take j).map (textT · m)) [32] = S at *
      clear hl hov etk ej HF
      go_wp2_with fail
      refine hJ.mono ?_
      rintro e w3 ⟨rfl, hb3⟩
      clear hJ
      go_wp2
      go_ret2
      exact ⟨S, 0, rfl, HL.out, hbl.trans (hb3.mono hbl.size)⟩
end Go.Proofs.YtjnmgjcmagnkeaaGreatDoor

import Derived.Below
import Derived.BigQuiet
import Derived.ChangeOld
import Derived.Deep.CutRange
import Derived.Deep.DeepCutAuto
import Derived.Deep.LoopGhost
import Derived.Deep.QuietTactic
import Derived.Deep.RegionHeld3
import Derived.Deep.RegionWith
import Derived.Deep.WholeRow
import Derived.KernelRfl
import Derived.Laws.BitsAllLaws
import Derived.Laws.CopyRow
import Derived.Laws.EntriesVeiled
import Derived.Laws.Externs
import Derived.Laws.IdiomCopy
import Derived.Laws.IdiomRangeMap
import Derived.Laws.IdiomStrings
import Derived.Laws.RangeAny
import Derived.Laws.RangeString
import Derived.Laws.ResultCell
import Derived.Laws.Runes
import Derived.Laws.Strings3
import Derived.Lib.AsciiSet
import Derived.Lib.AtoiErrMem
import Derived.Lib.BufferRead
import Derived.Lib.Bytealg
import Derived.Lib.ConvBytes
import Derived.Lib.IndexBytes
import Derived.Lib.OthersKept
import Derived.Lib.Strings
import Derived.Lib.TrimByte
import Derived.Lib.Walk
import Derived.OpenShut
import Derived.OwnWalk
import Derived.ProofKit
import Derived.Scope
import Derived.Shelf.Strconv.Clone
import Derived.Shelf.Strings.OnBuilder
import Derived.ShutString
import Derived.WalkKit
import Derived.WalkLawsBesides
import Derived.WalkMore
import Derived.WalkSpells
import Derived.Test.YtjeoiffloghonabGreatDoorAnj23
import Derived.Test.YtjeoiffloghonabGreatDoorAnj25
/- plumblaw11: plain. -/
namespace Go.Proofs.YtjeoiffloghonabGreatDoor
open Go.ChangeShapes Go.WideShapes Go.ChangeAt Go.RowKit
open Na Ar Lx
set_option linter.unusedVariables false
namespace Lx
/-- digits of few, none ahead a zero -/
def PlOk (hex : Bool) (l : B) : Prop := l.length ≤ 40 ∧ (∀ c ∈ l, (if hex = true then smal9.contains c else isD c) = true) ∧ (l = [] ∨ lead l)
theorem plOk_nil (hex : Bool) : PlOk hex [] := by
  refine ⟨by simp, ?_, Or.inl rfl⟩
  intro c hc
  cases hc
theorem plOk_next {hex : Bool} {l : B} (h : PlOk hex l) {c : UInt8} (hl : l.length < 40) (hc : (if hex = true then smal9.contains c else isD c) = true) (ha : c ≠ 48 ∨ l ≠ []) : PlOk hex (l ++ [c]) := by
  refine ⟨by rw [List.length_append, List.length_singleton]; omega, fun d hd => ?_, Or.inr ?_⟩
  · rcases List.mem_append.mp hd with hd | hd
    · exact h.2.1 d hd
    · rw [List.mem_singleton.mp hd]; exact hc
  · cases l with
    | nil =>
      rcases ha with ha | ha
      · exact ⟨c, [], rfl, ha⟩
      · exact absurd rfl ha
    | cons x r =>
      rcases h.2.2 with q | ⟨y, r', q, hy⟩
      · exact absurd q (List.cons_ne_nil _ _)
      · simp only [List.cons.injEq] at q
        obtain ⟨rfl, rfl⟩ := q
        exact ⟨x, r ++ [c], rfl, hy⟩
def hexT : B := [48, 49, 50, 51, 52, 53, 54, 55, 56, 57, 97, 98, 99, 100, 101, 102]
theorem tab_at (k : Nat) (hk : k < 16) (h : k < (ByteArray.mk #[48, 49, 50, 51, 52, 53, 54, 55, 56, 57, 97, 98, 99, 100, 101, 102]).size) : (ByteArray.mk #[48, 49, 50, 51, 52, 53, 54, 55, 56, 57, 97, 98, 99, 100, 101, 102])[k]'h = hexT.getD k 0 := by
  have : ∀ k : Fin 16, ∀ h, (ByteArray.mk #[48, 49, 50, 51, 52, 53, 54, 55, 56, 57, 97, 98, 99, 100, 101, 102])[k.val]'h = hexT.getD k.val 0 := by decide
  exact this ⟨k, hk⟩ h
theorem tab_dec : ∀ k : Fin 10, isD (hexT.getD k.val 0) = true := by decide
theorem tab_hex : ∀ k : Fin 16, smal9.contains (hexT.getD k.val 0) = true := by decide
end Lx
set_option maxHeartbeats 3200000 in
set_option maxRecDepth 100000 in
theorem plain_any (s : ByteArray) (hs : s.size ≤ 9223372036854775807) (hex : Bool) (w : World) :
    Calls Tryz.prog 34 #[.string s, .bool hex, .int .i64 40] w fun r w' => ∃ l : B, r = .returned (.string (str l)) ∧ PlOk hex l ∧ Below w.heap.size w w' := by
  obtain ⟨i_u8, hi_u8, hz0_u8, hz1_u8, hz2_u8⟩ := info_parts info9_u8
  go_enter Tryz.func34, Tryz.ntmps34
  go_wp2
  go_loopw [7, 8, 9, 10] (fun v i _ _ wx => ∃ (j : Nat) (l : B), i = .int .i64 (j : Int) ∧ j ≤ s.size ∧ PlOk hex l ∧ Own .u8 wx w.heap.size 5 v (intb l) ∧ Below w.heap.size w wx) (fun _ i _ _ _ => s.size - (RowKit.intOf i).toNat)
  case atStart => exact ⟨0, [], rfl, Nat.zero_le _, plOk_nil _, own_nil _ _ _ _, Below.refl _ _⟩
  case round =>
    obtain ⟨j, l, rfl, hj, hpl, hov, hbl⟩ := hrel
    have HP : Hid (PlOk hex l) := hpl
    have hlen : (intb l).length = l.length := intb_len l
    have hl40 : l.length ≤ 40 := hpl.1
    clear hpl
    obtain ⟨oa, oc, rfl, hrd⟩ := hov.reads
    rw [hlen] at hov ⊢
    clear hrd
    by_cases hq : j < s.size ∧ l.length < 40
    · obtain ⟨q1, q2⟩ := hq
      have d1 : decide ((j : Int) < (s.size : Int)) = true := by simp; omega
      have d2 : decide ((l.length : Int) < 40) = true := by simp; omega
      have hsz : w.heap.size ≤ wr.heap.size := hbl.size
      obtain ⟨x, hx0⟩ : ∃ x, s[j]'q1 = x := ⟨_, rfl⟩
      cases hex
      · obtain ⟨k, hk, hkb⟩ : ∃ k : Nat, ((x.toNat : Int)).tmod 10 = (k : Int) ∧ k < 10 := ⟨x.toNat % 10, by rw [Int.tmod_eq_emod_of_nonneg (by omega)]; omega, by omega⟩
        have hk16 : k < 16 := by omega
        have hkI : (k : Int) < 16 := by omega
        have hx : ∀ h, (ByteArray.mk #[48, 49, 50, 51, 52, 53, 54, 55, 56, 57, 97, 98, 99, 100, 101, 102])[k]'h = hexT.getD k 0 := fun h => tab_at k hk16 h
        have HD : Hid ((if false = true then smal9.contains (hexT.getD k 0) else isD (hexT.getD k 0)) = true) := tab_dec ⟨k, hkb⟩
        generalize hexT.getD k 0 = X at *
        have HJ : Hid (intb (l ++ [X]) = intb l ++ [(X.toNat : Int)]) := by unfold Hid intb; rw [List.map_append]; rfl
        by_cases hX : X = 48
        · have cb : ((X.toNat : Int) != 48) = false := by rw [hX]; rfl
          by_cases hl0 : l = []
          · have d3 : decide ((l.length : Int) > 0) = false := by rw [hl0]; rfl
            have d3' : decide (0 < (l.length : Int)) = false := by rw [hl0]; rfl
            have d4 : decide (0 < l.length) = false := by rw [hl0]; rfl
            clear hX hl0 HJ HD
            generalize l.length = L at *
            go_wp2
            go_roundw
            case rel => exact ⟨j + 1, l, by go_num, by omega, HP.out, hov, hbl⟩
            case measure => simp [RowKit.intOf]; omega
          · have HN : Hid (PlOk false (l ++ [X])) := plOk_next HP.out q2 HD.out (Or.inr hl0)
            have pl : 0 < l.length := List.length_pos_iff.mpr hl0
            have d3 : decide ((l.length : Int) > 0) = true := by simp; omega
            have d3' : decide (0 < (l.length : Int)) = true := by simp; omega
            have d4 : decide (0 < l.length) = true := by simp; omega
            clear hX hl0 HD
            generalize intb l = us at *
            generalize hL : l.length = L at *
            clear hL
            go_wp2_with (at_builtin; refine wpList_append_own _ rfl _ _ 116 rfl w.heap.size 5 i_u8 (.int .u8 0) 1 1 Tryz.underlying116 hi_u8 hz0_u8 hz1_u8 hz2_u8 rfl (by decide) _ _ _ rfl (hov.row.alloc _) ⟨wr.heap.size, 0, none⟩ 1 1 [.int .u8 X.toNat] rfl rfl one_new one_cell (by unfold maxLen; omega) (by omega) (by simp; omega) ?_)
            intro v' w5 hown' hgrow _
            have hb' := grow_below hsz hov.row hbl hgrow
            have ho' := own_next hown' hlen.symm
            rw [← HJ.out] at ho'
            clear hown' hgrow hov hbl HJ
            go_wp2
            go_roundw
            case rel => exact ⟨j + 1, l ++ [X], by go_num, by omega, HN.out, ho', hb'⟩
            case measure => simp [RowKit.intOf]; omega
        · have cb : ((X.toNat : Int) != 48) = true := by
            refine bne_yes fun q => hX (UInt8.toNat_inj.mp ?_)
            show X.toNat = 48
            omega
          have HN : Hid (PlOk false (l ++ [X])) := plOk_next HP.out q2 HD.out (Or.inl hX)
          clear hX HD
          generalize intb l = us at *
          generalize hL : l.length = L at *
          clear hL
          go_wp2_with (at_builtin; refine wpList_append_own _ rfl _ _ 116 rfl w.heap.size 5 i_u8 (.int .u8 0) 1 1 Tryz.underlying116 hi_u8 hz0_u8 hz1_u8 hz2_u8 rfl (by decide) _ _ _ rfl (hov.row.alloc _) ⟨wr.heap.size, 0, none⟩ 1 1 [.int .u8 X.toNat] rfl rfl one_new one_cell (by unfold maxLen; omega) (by omega) (by simp; omega) ?_)
          intro v' w5 hown' hgrow _
          have hb' := grow_below hsz hov.row hbl hgrow
          have ho' := own_next hown' hlen.symm
          rw [← HJ.out] at ho'
          clear hown' hgrow hov hbl HJ
          go_wp2
          go_roundw
          case rel => exact ⟨j + 1, l ++ [X], by go_num, by omega, HN.out, ho', hb'⟩
          case measure => simp [RowKit.intOf]; omega
      · obtain ⟨k, hk, hkb⟩ : ∃ k : Nat, ((x.toNat : Int)).tmod 16 = (k : Int) ∧ k < 16 := ⟨x.toNat % 16, by rw [Int.tmod_eq_emod_of_nonneg (by omega)]; omega, by omega⟩
        have hk16 : k < 16 := by omega
        have hkI : (k : Int) < 16 := by omega
        have hx : ∀ h, (ByteArray.mk #[48, 49, 50, 51, 52, 53, 54, 55, 56, 57, 97, 98, 99, 100, 101, 102])[k]'h = hexT.getD k 0 := fun h => tab_at k hk16 h
        have HD : Hid ((if true = true then smal9.contains (hexT.getD k 0) else isD (hexT.getD k 0)) = true) := tab_hex ⟨k, hkb⟩
        generalize hexT.getD k 0 = X at *
        have HJ : Hid (intb (l ++ [X]) = intb l ++ [(X.toNat : Int)]) := by unfold Hid intb; rw [List.map_append]; rfl
        by_cases hX : X = 48
        · have cb : ((X.toNat : Int) != 48) = false := by rw [hX]; rfl
          by_cases hl0 : l = []
          · have d3 : decide ((l.length : Int) > 0) = false := by rw [hl0]; rfl
            have d3' : decide (0 < (l.length : Int)) = false := by rw [hl0]; rfl
            have d4 : decide (0 < l.length) = false := by rw [hl0]; rfl
            clear hX hl0 HJ HD
            generalize l.length = L at *
            go_wp2
            go_roundw
            case rel => exact ⟨j + 1, l, by go_num, by omega, HP.out, hov, hbl⟩
            case measure => simp [RowKit.intOf]; omega
          · have HN : Hid (PlOk true (l ++ [X])) := plOk_next HP.out q2 HD.out (Or.inr hl0)
            have pl : 0 < l.length := List.length_pos_iff.mpr hl0
            have d3 : decide ((l.length : Int) > 0) = true := by simp; omega
            have d3' : decide (0 < (l.length : Int)) = true := by simp; omega
            have d4 : decide (0 < l.length) = true := by simp; omega
            clear hX hl0 HD
            generalize intb l = us at *
            generalize hL : l.length = L at *
            clear hL
            go_wp2_with (at_builtin; refine wpList_append_own _ rfl _ _ 116 rfl w.heap.size 5 i_u8 (.int .u8 0) 1 1 Tryz.underlying116 hi_u8 hz0_u8 hz1_u8 hz2_u8 rfl (by decide) _ _ _ rfl (hov.row.alloc _) ⟨wr.heap.size, 0, none⟩ 1 1 [.int .u8 X.toNat] rfl rfl one_new one_cell (by unfold maxLen; omega) (by omega) (by simp; omega) ?_)
            intro v' w5 hown' hgrow _
            have hb' := grow_below hsz hov.row hbl hgrow
            have ho' := own_next hown' hlen.symm
            rw [← HJ.out] at ho'
            clear hown' hgrow hov hbl HJ
            go_wp2
            go_roundw
            case rel => exact ⟨j + 1, l ++ [X], by go_num, by omega, HN.out, ho', hb'⟩
            case measure => simp [RowKit.intOf]; omega
        · have cb : ((X.toNat : Int) != 48) = true := by
            refine bne_yes fun q => hX (UInt8.toNat_inj.mp ?_)
            show X.toNat = 48
            omega
          have HN : Hid (PlOk true (l ++ [X])) := plOk_next HP.out q2 HD.out (Or.inl hX)
          clear hX HD
          generalize intb l = us at *
          generalize hL : l.length = L at *
          clear hL
          go_wp2_with (at_builtin; refine wpList_append_own _ rfl _ _ 116 rfl w.heap.size 5 i_u8 (.int .u8 0) 1 1 Tryz.underlying116 hi_u8 hz0_u8 hz1_u8 hz2_u8 rfl (by decide) _ _ _ rfl (hov.row.alloc _) ⟨wr.heap.size, 0, none⟩ 1 1 [.int .u8 X.toNat] rfl rfl one_new one_cell (by unfold maxLen; omega) (by omega) (by simp; omega) ?_)
          intro v' w5 hown' hgrow _
          have hb' := grow_below hsz hov.row hbl hgrow
          have ho' := own_next hown' hlen.symm
          rw [← HJ.out] at ho'
          clear hown' hgrow hov hbl HJ
          go_wp2
          go_roundw
          case rel => exact ⟨j + 1, l ++ [X], by go_num, by omega, HN.out, ho', hb'⟩
          case measure => simp [RowKit.intOf]; omega
    · obtain ⟨a9, n9, c9, e9, hcv⟩ := conv9b hov
      simp only [Value.slice.injEq] at e9
      obtain ⟨rfl, rfl, rfl⟩ := e9
      by_cases hq1 : j < s.size
      · have d1 : decide ((j : Int) < (s.size : Int)) = true := by simp; omega
        have d2 : decide ((l.length : Int) < 40) = false := by simp; omega
        clear hq hov
        go_wp2
        go_ret
        exact ⟨l, rfl, HP.out, hbl⟩
      · have d1 : decide ((j : Int) < (s.size : Int)) = false := by simp; omega
        clear hq hov
        go_wp2
        go_ret
        exact ⟨l, rfl, HP.out, hbl⟩
end Go.Proofs.YtjeoiffloghonabGreatDoor

/- plumblaw11: tame. -/
namespace Go.Proofs.YtjeoiffloghonabGreatDoor
open Go.ChangeShapes Go.WideShapes Go.ChangeAt Go.RowKit
open Na Ar Lx
set_option linter.unusedVariables false
theorem into11b_any {n top : Int} (h0 : 0 < top) (h1 : top ≤ 1000000) (w : World) :
    Calls Tryz.prog 26 #[.int .i64 n, .int .i64 top] w fun e w' => e = .returned (.int .i64 (n % top)) ∧ w' = w := by
  have z : (top == 0) = false := by simp; omega
  have hne : ¬ top = -1 := by omega
  have hz0 : ¬ top = 0 := by omega
  have e1 : n.tmod top < top := Int.tmod_lt_of_pos n h0
  have e2 : -top < n.tmod top := Int.lt_tmod_of_pos n h0
  have hd := Int.emod_emod_of_dvd n (Int.dvd_refl top)
  have hm : n % top = if n.tmod top < 0 then n.tmod top + top else n.tmod top := by
    have q1 := Int.emod_nonneg n hz0
    have q2 := Int.emod_lt_of_pos n h0
    have hN : (top.natAbs : Int) = top := by omega
    rw [Int.tmod_eq_emod]
    split
    · split <;> omega
    · rw [hN]; split <;> omega
  rw [hm]
  clear hm hd
  generalize hq : n.tmod top = q at *
  by_cases h : q < 0
  · rw [if_pos h]
    have d : decide (q < 0) = true := by simp; omega
    go_enter Tryz.func26, Tryz.ntmps26
    go_wp2
    go_ret
    exact ⟨rfl, rfl⟩
  · rw [if_neg h]
    have d : decide (q < 0) = false := by simp; omega
    go_enter Tryz.func26, Tryz.ntmps26
    go_wp2
    go_ret
    exact ⟨rfl, rfl⟩
/-- a right numeral of few digits -/
def TameIs (k : Int) (nu : B) (e : Int) (de : B) : Prop :=
  (k = 1 ∧ PlOk false nu ∧ de = [] ∧ -420 < e ∧ e < 420) ∨ (k = 2 ∧ PlOk true nu ∧ de = [] ∧ -1260 < e ∧ e < 1260) ∨ (k = 3 ∧ PlOk false nu ∧ e = 0 ∧ PlOk false de ∧ de ≠ [])
set_option maxHeartbeats 3200000 in
set_option maxRecDepth 100000 in
theorem tame_1 (k : Int) (ng : Bool) (nu : ByteArray) (e : Int) (de : ByteArray) (hk : k % 3 = 0) (hn : nu.size ≤ 9223372036854775807) (hd : de.size ≤ 9223372036854775807) (w : World) :
    Calls Tryz.prog 6 #[.agg (numC k ng nu e de)] w fun r w' => ∃ (k' e' : Int) (nu' de' : B), r = .returned (.agg (numC k' ng (str nu') e' (str de'))) ∧ TameIs k' nu' e' de' ∧ Below w.heap.size w w' := by
  have hI := fun w => into11b_any (n := k) (top := 3) (by omega) (by omega) w
  rw [hk] at hI
  have hP1 := fun w => plain_any nu hn false w
  have hP2 := fun w => plain_any de hd false w
  obtain ⟨q, hq⟩ : ∃ q, e.tmod 420 = q := ⟨_, rfl⟩
  have q0 : -420 < q := by rw [← hq]; exact Int.lt_tmod_of_pos e (by omega)
  have q1 : q < 420 := by rw [← hq]; exact Int.tmod_lt_of_pos e (by omega)
  have wq : IntKind.i64.wrap (q * 3) = q * 3 := wrapI (by omega) (by omega)
  have B0 : Bk ((w.alloc (.cells (numC k ng nu e de) 23)).alloc (.cells zero5 23)) w.heap.size 23 (numC k ng nu e de) := (Bk.new w _ _).later ((Below.refl _ _).alloc (Nat.le_refl _) _)
  have B1 : Bk ((w.alloc (.cells (numC k ng nu e de) 23)).alloc (.cells zero5 23)) (w.heap.size + 1) 23 zero5 := by
    have := Bk.new (w.alloc (.cells (numC k ng nu e de) 23)) 23 zero5
    rw [World.size_alloc] at this
    exact this
  have hb0 : Below w.heap.size w ((w.alloc (.cells (numC k ng nu e de) 23)).alloc (.cells zero5 23)) := ((Below.refl _ w).alloc (Nat.le_refl _) _).alloc (by simp) _
  obtain ⟨w0, hw0⟩ : ∃ w0, w0 = ((w.alloc (.cells #[.int .i64 k, .bool ng, .string nu, .int .i64 e, .string de] 23)).alloc (.cells #[.int .i64 0, .bool false, .string ⟨#[]⟩, .int .i64 0, .string ⟨#[]⟩] 23)) := ⟨_, rfl⟩
  unfold numC zero5 at B0 B1 hb0
  rw [← hw0] at B0 B1 hb0
  obtain ⟨g, hg⟩ : ∃ g, g = w.heap.size := ⟨_, rfl⟩
  rw [← hg] at B0 B1 hb0
  have HG : Hid (w.heap.size = g) := hg.symm
  have BX : Bk w0 g 23 (numC k ng nu e de) := B0
  have BR : Bk w0 (g + 1) 23 zero5 := B1
  clear B0 B1
  have BW := hb0
  clear hb0
  unfold numC
  go_enter Tryz.func6, Tryz.ntmps6
  go_wp2_with fail
  refine (hI _).mono ?_
  rintro r wA ⟨rfl, hwA⟩
  rw [hwA, ← hw0, ← hg]
  clear hI hwA hw0 hg hk
  have x0 := BX.cell 0 (v := .int .i64 k) rfl
  have x1 := BX.cell 1 (v := .bool ng) rfl
  have x2 := BX.cell 2 (v := .string (nu)) rfl
  have x3 := BX.cell 3 (v := .int .i64 e) rfl
  have x4 := BX.cell 4 (v := .string (de)) rfl
  have f0 := BX.frozen 0
  have f2 := BX.frozen 2
  have f3 := BX.frozen 3
  have f4 := BX.frozen 4
  have t2 : ((1 : Int) == 2) = false := by decide
  obtain ⟨s1, hs1⟩ : ∃ W, W = w0.setCell ⟨g, 0, none⟩ (.int .i64 1) := ⟨_, rfl⟩
  have BX' : Bk s1 g 23 (numC 1 ng (nu) e (de)) := by rw [hs1]; exact Bk.set BX 0 _
  have BR' : Bk s1 (g + 1) 23 zero5 := by rw [hs1]; exact Bk.tn BR ((Tn.refl g _).set 0 _) (by omega)
  have BW' : Below g w s1 := by rw [hs1]; exact Tn.below BW ((Tn.refl g _).set 0 _) (Nat.le_refl _) (by rw [HG.out]; exact Nat.le_refl _)
  clear BX BR BW
  have BX := BX'
  have BR := BR'
  have BW := BW'
  clear BX' BR' BW'
  go_wp2_with fail
  rw [← hs1]
  refine (hP1 _).mono ?_
  rintro r v1 ⟨l1, rfl, hl1, hb⟩
  have HL1 : Hid (PlOk false l1) := hl1
  clear hP1 hl1 hs1
  clear x0 x1 x2 x3 x4 f0 f2 f3 f4
  have BX := BX.later hb
  have BR := BR.later hb
  have BW := BW.trans (hb.mono (by have := BW.size; have := HG.out; omega))
  clear hb
  have x0 := BX.cell 0 (v := .int .i64 1) rfl
  have x1 := BX.cell 1 (v := .bool ng) rfl
  have x2 := BX.cell 2 (v := .string (nu)) rfl
  have x3 := BX.cell 3 (v := .int .i64 e) rfl
  have x4 := BX.cell 4 (v := .string (de)) rfl
  have f0 := BX.frozen 0
  have f2 := BX.frozen 2
  have f3 := BX.frozen 3
  have f4 := BX.frozen 4
  obtain ⟨s2, hs2⟩ : ∃ W, W = v1.setCell ⟨g, 2, none⟩ (.string (str l1)) := ⟨_, rfl⟩
  have BX' : Bk s2 g 23 (numC 1 ng (str l1) e (de)) := by rw [hs2]; exact Bk.set BX 2 _
  have BR' : Bk s2 (g + 1) 23 zero5 := by rw [hs2]; exact Bk.tn BR ((Tn.refl g _).set 2 _) (by omega)
  have BW' : Below g w s2 := by rw [hs2]; exact Tn.below BW ((Tn.refl g _).set 2 _) (Nat.le_refl _) (by rw [HG.out]; exact Nat.le_refl _)
  clear BX BR BW
  have BX := BX'
  have BR := BR'
  have BW := BW'
  clear BX' BR' BW'
  go_wp2_with fail
  rw [← hs2]
  refine (hP2 _).mono ?_
  rintro r v2 ⟨l2, rfl, hl2, hb⟩
  have HL2 : Hid (PlOk false l2) := hl2
  clear hP2 hl2 hs2
  clear x0 x1 x2 x3 x4 f0 f2 f3 f4
  have BX := BX.later hb
  have BR := BR.later hb
  have BW := BW.trans (hb.mono (by have := BW.size; have := HG.out; omega))
  clear hb
  have x0 := BX.cell 0 (v := .int .i64 1) rfl
  have x1 := BX.cell 1 (v := .bool ng) rfl
  have x2 := BX.cell 2 (v := .string (str l1)) rfl
  have x3 := BX.cell 3 (v := .int .i64 e) rfl
  have x4 := BX.cell 4 (v := .string (de)) rfl
  have f0 := BX.frozen 0
  have f2 := BX.frozen 2
  have f3 := BX.frozen 3
  have f4 := BX.frozen 4
  have z0 := BR.cell 0 rfl
  have z1 := BR.cell 1 rfl
  have z2 := BR.cell 2 rfl
  have z3 := BR.cell 3 rfl
  have z4 := BR.cell 4 rfl
  have y0 := BR.frozen 0
  have y1 := BR.frozen 1
  have y2 := BR.frozen 2
  have y3 := BR.frozen 3
  have y4 := BR.frozen 4
  have R0 : Bk (v2.setCell ⟨g, 4, none⟩ (.string (str l2))) (g + 1) 23 zero5 := Bk.tn BR ((Tn.refl g _).set 4 _) (by omega)
  have Q0 : Below g w (v2.setCell ⟨g, 4, none⟩ (.string (str l2))) := Tn.below BW ((Tn.refl g _).set 4 _) (Nat.le_refl _) (by rw [HG.out]; exact Nat.le_refl _)
  have R1 : Bk ((v2.setCell ⟨g, 4, none⟩ (.string (str l2))).setCell ⟨g, 3, none⟩ (.int .i64 q)) (g + 1) 23 zero5 := Bk.tn R0 ((Tn.refl g _).set 3 _) (by omega)
  have Q1 : Below g w ((v2.setCell ⟨g, 4, none⟩ (.string (str l2))).setCell ⟨g, 3, none⟩ (.int .i64 q)) := Tn.below Q0 ((Tn.refl g _).set 3 _) (Nat.le_refl _) (by rw [HG.out]; exact Nat.le_refl _)
  have R2 : Bk (((v2.setCell ⟨g, 4, none⟩ (.string (str l2))).setCell ⟨g, 3, none⟩ (.int .i64 q)).setCell ⟨g, 4, none⟩ (.string ⟨#[]⟩)) (g + 1) 23 zero5 := Bk.tn R1 ((Tn.refl g _).set 4 _) (by omega)
  have Q2 : Below g w (((v2.setCell ⟨g, 4, none⟩ (.string (str l2))).setCell ⟨g, 3, none⟩ (.int .i64 q)).setCell ⟨g, 4, none⟩ (.string ⟨#[]⟩)) := Tn.below Q1 ((Tn.refl g _).set 4 _) (Nat.le_refl _) (by rw [HG.out]; exact Nat.le_refl _)
  have BF : Bk (((v2.setCell ⟨g, 4, none⟩ (.string (str l2))).setCell ⟨g, 3, none⟩ (.int .i64 q)).setCell ⟨g, 4, none⟩ (.string ⟨#[]⟩)) g 23 (numC 1 ng (str l1) (q) (⟨#[]⟩)) := (Bk.set (Bk.set (Bk.set BX 4 (.string (str l2))) 3 (.int .i64 q)) 4 (.string ⟨#[]⟩))
  have c3 := BF.cell 3 (v := .int .i64 (q)) rfl
  have c4 := BF.cell 4 (v := .string (⟨#[]⟩)) rfl
  clear BF
  have HR : Hid (Bk (((v2.setCell ⟨g, 4, none⟩ (.string (str l2))).setCell ⟨g, 3, none⟩ (.int .i64 q)).setCell ⟨g, 4, none⟩ (.string ⟨#[]⟩)) (g + 1) 23 zero5) := R2
  have HQ : Hid (Below g w (((v2.setCell ⟨g, 4, none⟩ (.string (str l2))).setCell ⟨g, 3, none⟩ (.int .i64 q)).setCell ⟨g, 4, none⟩ (.string ⟨#[]⟩))) := Q2
  clear R0 Q0 R1 Q1 R2 Q2 BX BR BW
  go_wp2
  refine bodyPost_ret (results_cell_row rfl _ _ (g + 1) 23 #[.int .i64 1, .bool ng, .string (str l1), .int .i64 (q), .string (⟨#[]⟩)] (0, 0) _ rfl (Bk.all5 HR.out _ _ _ _ _) Tryz.underlying23 rfl (by kernel_rfl)) rfl ?_
  refine ⟨1, q, l1, [], rfl, Or.inl ⟨rfl, HL1.out, rfl, q0, q1⟩, ?_⟩
  rw [HG.out]
  exact Tn.below HQ.out (Tn.all5 ..) (by omega) (by rw [HG.out]; exact Nat.le_refl _)
set_option maxHeartbeats 3200000 in
set_option maxRecDepth 100000 in
theorem tame_2 (k : Int) (ng : Bool) (nu : ByteArray) (e : Int) (de : ByteArray) (hk : k % 3 = 1) (hn : nu.size ≤ 9223372036854775807) (hd : de.size ≤ 9223372036854775807) (w : World) :
    Calls Tryz.prog 6 #[.agg (numC k ng nu e de)] w fun r w' => ∃ (k' e' : Int) (nu' de' : B), r = .returned (.agg (numC k' ng (str nu') e' (str de'))) ∧ TameIs k' nu' e' de' ∧ Below w.heap.size w w' := by
  have hI := fun w => into11b_any (n := k) (top := 3) (by omega) (by omega) w
  rw [hk] at hI
  have hP1 := fun w => plain_any nu hn true w
  have hP2 := fun w => plain_any de hd false w
  obtain ⟨q, hq⟩ : ∃ q, e.tmod 420 = q := ⟨_, rfl⟩
  have q0 : -420 < q := by rw [← hq]; exact Int.lt_tmod_of_pos e (by omega)
  have q1 : q < 420 := by rw [← hq]; exact Int.tmod_lt_of_pos e (by omega)
  have wq : IntKind.i64.wrap (q * 3) = q * 3 := wrapI (by omega) (by omega)
  have B0 : Bk ((w.alloc (.cells (numC k ng nu e de) 23)).alloc (.cells zero5 23)) w.heap.size 23 (numC k ng nu e de) := (Bk.new w _ _).later ((Below.refl _ _).alloc (Nat.le_refl _) _)
  have B1 : Bk ((w.alloc (.cells (numC k ng nu e de) 23)).alloc (.cells zero5 23)) (w.heap.size + 1) 23 zero5 := by
    have := Bk.new (w.alloc (.cells (numC k ng nu e de) 23)) 23 zero5
    rw [World.size_alloc] at this
    exact this
  have hb0 : Below w.heap.size w ((w.alloc (.cells (numC k ng nu e de) 23)).alloc (.cells zero5 23)) := ((Below.refl _ w).alloc (Nat.le_refl _) _).alloc (by simp) _
  obtain ⟨w0, hw0⟩ : ∃ w0, w0 = ((w.alloc (.cells #[.int .i64 k, .bool ng, .string nu, .int .i64 e, .string de] 23)).alloc (.cells #[.int .i64 0, .bool false, .string ⟨#[]⟩, .int .i64 0, .string ⟨#[]⟩] 23)) := ⟨_, rfl⟩
  unfold numC zero5 at B0 B1 hb0
  rw [← hw0] at B0 B1 hb0
  obtain ⟨g, hg⟩ : ∃ g, g = w.heap.size := ⟨_, rfl⟩
  rw [← hg] at B0 B1 hb0
  have HG : Hid (w.heap.size = g) := hg.symm
  have BX : Bk w0 g 23 (numC k ng nu e de) := B0
  have BR : Bk w0 (g + 1) 23 zero5 := B1
  clear B0 B1
  have BW := hb0
  clear hb0
  unfold numC
  go_enter Tryz.func6, Tryz.ntmps6
  go_wp2_with fail
  refine (hI _).mono ?_
  rintro r wA ⟨rfl, hwA⟩
  rw [hwA, ← hw0, ← hg]
  clear hI hwA hw0 hg hk
  have x0 := BX.cell 0 (v := .int .i64 k) rfl
  have x1 := BX.cell 1 (v := .bool ng) rfl
  have x2 := BX.cell 2 (v := .string (nu)) rfl
  have x3 := BX.cell 3 (v := .int .i64 e) rfl
  have x4 := BX.cell 4 (v := .string (de)) rfl
  have f0 := BX.frozen 0
  have f2 := BX.frozen 2
  have f3 := BX.frozen 3
  have f4 := BX.frozen 4
  have t2 : ((2 : Int) == 2) = true := by decide
  obtain ⟨s1, hs1⟩ : ∃ W, W = w0.setCell ⟨g, 0, none⟩ (.int .i64 2) := ⟨_, rfl⟩
  have BX' : Bk s1 g 23 (numC 2 ng (nu) e (de)) := by rw [hs1]; exact Bk.set BX 0 _
  have BR' : Bk s1 (g + 1) 23 zero5 := by rw [hs1]; exact Bk.tn BR ((Tn.refl g _).set 0 _) (by omega)
  have BW' : Below g w s1 := by rw [hs1]; exact Tn.below BW ((Tn.refl g _).set 0 _) (Nat.le_refl _) (by rw [HG.out]; exact Nat.le_refl _)
  clear BX BR BW
  have BX := BX'
  have BR := BR'
  have BW := BW'
  clear BX' BR' BW'
  go_wp2_with fail
  rw [← hs1]
  refine (hP1 _).mono ?_
  rintro r v1 ⟨l1, rfl, hl1, hb⟩
  have HL1 : Hid (PlOk true l1) := hl1
  clear hP1 hl1 hs1
  clear x0 x1 x2 x3 x4 f0 f2 f3 f4
  have BX := BX.later hb
  have BR := BR.later hb
  have BW := BW.trans (hb.mono (by have := BW.size; have := HG.out; omega))
  clear hb
  have x0 := BX.cell 0 (v := .int .i64 2) rfl
  have x1 := BX.cell 1 (v := .bool ng) rfl
  have x2 := BX.cell 2 (v := .string (nu)) rfl
  have x3 := BX.cell 3 (v := .int .i64 e) rfl
  have x4 := BX.cell 4 (v := .string (de)) rfl
  have f0 := BX.frozen 0
  have f2 := BX.frozen 2
  have f3 := BX.frozen 3
  have f4 := BX.frozen 4
  obtain ⟨s2, hs2⟩ : ∃ W, W = v1.setCell ⟨g, 2, none⟩ (.string (str l1)) := ⟨_, rfl⟩
  have BX' : Bk s2 g 23 (numC 2 ng (str l1) e (de)) := by rw [hs2]; exact Bk.set BX 2 _
  have BR' : Bk s2 (g + 1) 23 zero5 := by rw [hs2]; exact Bk.tn BR ((Tn.refl g _).set 2 _) (by omega)
  have BW' : Below g w s2 := by rw [hs2]; exact Tn.below BW ((Tn.refl g _).set 2 _) (Nat.le_refl _) (by rw [HG.out]; exact Nat.le_refl _)
  clear BX BR BW
  have BX := BX'
  have BR := BR'
  have BW := BW'
  clear BX' BR' BW'
  go_wp2_with fail
  rw [← hs2]
  refine (hP2 _).mono ?_
  rintro r v2 ⟨l2, rfl, hl2, hb⟩
  have HL2 : Hid (PlOk false l2) := hl2
  clear hP2 hl2 hs2
  clear x0 x1 x2 x3 x4 f0 f2 f3 f4
  have BX := BX.later hb
  have BR := BR.later hb
  have BW := BW.trans (hb.mono (by have := BW.size; have := HG.out; omega))
  clear hb
  have x0 := BX.cell 0 (v := .int .i64 2) rfl
  have x1 := BX.cell 1 (v := .bool ng) rfl
  have x2 := BX.cell 2 (v := .string (str l1)) rfl
  have x3 := BX.cell 3 (v := .int .i64 e) rfl
  have x4 := BX.cell 4 (v := .string (de)) rfl
  have f0 := BX.frozen 0
  have f2 := BX.frozen 2
  have f3 := BX.frozen 3
  have f4 := BX.frozen 4
  have z0 := BR.cell 0 rfl
  have z1 := BR.cell 1 rfl
  have z2 := BR.cell 2 rfl
  have z3 := BR.cell 3 rfl
  have z4 := BR.cell 4 rfl
  have y0 := BR.frozen 0
  have y1 := BR.frozen 1
  have y2 := BR.frozen 2
  have y3 := BR.frozen 3
  have y4 := BR.frozen 4
  have R0 : Bk (v2.setCell ⟨g, 4, none⟩ (.string (str l2))) (g + 1) 23 zero5 := Bk.tn BR ((Tn.refl g _).set 4 _) (by omega)
  have Q0 : Below g w (v2.setCell ⟨g, 4, none⟩ (.string (str l2))) := Tn.below BW ((Tn.refl g _).set 4 _) (Nat.le_refl _) (by rw [HG.out]; exact Nat.le_refl _)
  have R1 : Bk ((v2.setCell ⟨g, 4, none⟩ (.string (str l2))).setCell ⟨g, 3, none⟩ (.int .i64 q)) (g + 1) 23 zero5 := Bk.tn R0 ((Tn.refl g _).set 3 _) (by omega)
  have Q1 : Below g w ((v2.setCell ⟨g, 4, none⟩ (.string (str l2))).setCell ⟨g, 3, none⟩ (.int .i64 q)) := Tn.below Q0 ((Tn.refl g _).set 3 _) (Nat.le_refl _) (by rw [HG.out]; exact Nat.le_refl _)
  have R2 : Bk (((v2.setCell ⟨g, 4, none⟩ (.string (str l2))).setCell ⟨g, 3, none⟩ (.int .i64 q)).setCell ⟨g, 3, none⟩ (.int .i64 (q * 3))) (g + 1) 23 zero5 := Bk.tn R1 ((Tn.refl g _).set 3 _) (by omega)
  have Q2 : Below g w (((v2.setCell ⟨g, 4, none⟩ (.string (str l2))).setCell ⟨g, 3, none⟩ (.int .i64 q)).setCell ⟨g, 3, none⟩ (.int .i64 (q * 3))) := Tn.below Q1 ((Tn.refl g _).set 3 _) (Nat.le_refl _) (by rw [HG.out]; exact Nat.le_refl _)
  have R3 : Bk ((((v2.setCell ⟨g, 4, none⟩ (.string (str l2))).setCell ⟨g, 3, none⟩ (.int .i64 q)).setCell ⟨g, 3, none⟩ (.int .i64 (q * 3))).setCell ⟨g, 4, none⟩ (.string ⟨#[]⟩)) (g + 1) 23 zero5 := Bk.tn R2 ((Tn.refl g _).set 4 _) (by omega)
  have Q3 : Below g w ((((v2.setCell ⟨g, 4, none⟩ (.string (str l2))).setCell ⟨g, 3, none⟩ (.int .i64 q)).setCell ⟨g, 3, none⟩ (.int .i64 (q * 3))).setCell ⟨g, 4, none⟩ (.string ⟨#[]⟩)) := Tn.below Q2 ((Tn.refl g _).set 4 _) (Nat.le_refl _) (by rw [HG.out]; exact Nat.le_refl _)
  have BF : Bk ((((v2.setCell ⟨g, 4, none⟩ (.string (str l2))).setCell ⟨g, 3, none⟩ (.int .i64 q)).setCell ⟨g, 3, none⟩ (.int .i64 (q * 3))).setCell ⟨g, 4, none⟩ (.string ⟨#[]⟩)) g 23 (numC 2 ng (str l1) (q * 3) (⟨#[]⟩)) := (Bk.set (Bk.set (Bk.set (Bk.set BX 4 (.string (str l2))) 3 (.int .i64 q)) 3 (.int .i64 (q * 3))) 4 (.string ⟨#[]⟩))
  have c3 := BF.cell 3 (v := .int .i64 (q * 3)) rfl
  have c4 := BF.cell 4 (v := .string (⟨#[]⟩)) rfl
  clear BF
  have HR : Hid (Bk ((((v2.setCell ⟨g, 4, none⟩ (.string (str l2))).setCell ⟨g, 3, none⟩ (.int .i64 q)).setCell ⟨g, 3, none⟩ (.int .i64 (q * 3))).setCell ⟨g, 4, none⟩ (.string ⟨#[]⟩)) (g + 1) 23 zero5) := R3
  have HQ : Hid (Below g w ((((v2.setCell ⟨g, 4, none⟩ (.string (str l2))).setCell ⟨g, 3, none⟩ (.int .i64 q)).setCell ⟨g, 3, none⟩ (.int .i64 (q * 3))).setCell ⟨g, 4, none⟩ (.string ⟨#[]⟩))) := Q3
  clear R0 Q0 R1 Q1 R2 Q2 R3 Q3 BX BR BW
  go_wp2
  refine bodyPost_ret (results_cell_row rfl _ _ (g + 1) 23 #[.int .i64 2, .bool ng, .string (str l1), .int .i64 (q * 3), .string (⟨#[]⟩)] (0, 0) _ rfl (Bk.all5 HR.out _ _ _ _ _) Tryz.underlying23 rfl (by kernel_rfl)) rfl ?_
  refine ⟨2, q * 3, l1, [], rfl, Or.inr (Or.inl ⟨rfl, HL1.out, rfl, by omega, by omega⟩), ?_⟩
  rw [HG.out]
  exact Tn.below HQ.out (Tn.all5 ..) (by omega) (by rw [HG.out]; exact Nat.le_refl _)
set_option maxHeartbeats 3200000 in
set_option maxRecDepth 100000 in
theorem tame_3 (k : Int) (ng : Bool) (nu : ByteArray) (e : Int) (de : ByteArray) (hk : k % 3 = 2) (hn : nu.size ≤ 9223372036854775807) (hd : de.size ≤ 9223372036854775807) (w : World) :
    Calls Tryz.prog 6 #[.agg (numC k ng nu e de)] w fun r w' => ∃ (k' e' : Int) (nu' de' : B), r = .returned (.agg (numC k' ng (str nu') e' (str de'))) ∧ TameIs k' nu' e' de' ∧ Below w.heap.size w w' := by
  have hI := fun w => into11b_any (n := k) (top := 3) (by omega) (by omega) w
  rw [hk] at hI
  have hP1 := fun w => plain_any nu hn false w
  have hP2 := fun w => plain_any de hd false w
  obtain ⟨q, hq⟩ : ∃ q, e.tmod 420 = q := ⟨_, rfl⟩
  have q0 : -420 < q := by rw [← hq]; exact Int.lt_tmod_of_pos e (by omega)
  have q1 : q < 420 := by rw [← hq]; exact Int.tmod_lt_of_pos e (by omega)
  have wq : IntKind.i64.wrap (q * 3) = q * 3 := wrapI (by omega) (by omega)
  have B0 : Bk ((w.alloc (.cells (numC k ng nu e de) 23)).alloc (.cells zero5 23)) w.heap.size 23 (numC k ng nu e de) := (Bk.new w _ _).later ((Below.refl _ _).alloc (Nat.le_refl _) _)
  have B1 : Bk ((w.alloc (.cells (numC k ng nu e de) 23)).alloc (.cells zero5 23)) (w.heap.size + 1) 23 zero5 := by
    have := Bk.new (w.alloc (.cells (numC k ng nu e de) 23)) 23 zero5
    rw [World.size_alloc] at this
    exact this
  have hb0 : Below w.heap.size w ((w.alloc (.cells (numC k ng nu e de) 23)).alloc (.cells zero5 23)) := ((Below.refl _ w).alloc (Nat.le_refl _) _).alloc (by simp) _
  obtain ⟨w0, hw0⟩ : ∃ w0, w0 = ((w.alloc (.cells #[.int .i64 k, .bool ng, .string nu, .int .i64 e, .string de] 23)).alloc (.cells #[.int .i64 0, .bool false, .string ⟨#[]⟩, .int .i64 0, .string ⟨#[]⟩] 23)) := ⟨_, rfl⟩
  unfold numC zero5 at B0 B1 hb0
  rw [← hw0] at B0 B1 hb0
  obtain ⟨g, hg⟩ : ∃ g, g = w.heap.size := ⟨_, rfl⟩
  rw [← hg] at B0 B1 hb0
  have HG : Hid (w.heap.size = g) := hg.symm
  have BX : Bk w0 g 23 (numC k ng nu e de) := B0
  have BR : Bk w0 (g + 1) 23 zero5 := B1
  clear B0 B1
  have BW := hb0
  clear hb0
  unfold numC
  go_enter Tryz.func6, Tryz.ntmps6
  go_wp2_with fail
  refine (hI _).mono ?_
  rintro r wA ⟨rfl, hwA⟩
  rw [hwA, ← hw0, ← hg]
  clear hI hwA hw0 hg hk
  have x0 := BX.cell 0 (v := .int .i64 k) rfl
  have x1 := BX.cell 1 (v := .bool ng) rfl
  have x2 := BX.cell 2 (v := .string (nu)) rfl
  have x3 := BX.cell 3 (v := .int .i64 e) rfl
  have x4 := BX.cell 4 (v := .string (de)) rfl
  have f0 := BX.frozen 0
  have f2 := BX.frozen 2
  have f3 := BX.frozen 3
  have f4 := BX.frozen 4
  have t2 : ((3 : Int) == 2) = false := by decide
  obtain ⟨s1, hs1⟩ : ∃ W, W = w0.setCell ⟨g, 0, none⟩ (.int .i64 3) := ⟨_, rfl⟩
  have BX' : Bk s1 g 23 (numC 3 ng (nu) e (de)) := by rw [hs1]; exact Bk.set BX 0 _
  have BR' : Bk s1 (g + 1) 23 zero5 := by rw [hs1]; exact Bk.tn BR ((Tn.refl g _).set 0 _) (by omega)
  have BW' : Below g w s1 := by rw [hs1]; exact Tn.below BW ((Tn.refl g _).set 0 _) (Nat.le_refl _) (by rw [HG.out]; exact Nat.le_refl _)
  clear BX BR BW
  have BX := BX'
  have BR := BR'
  have BW := BW'
  clear BX' BR' BW'
  go_wp2_with fail
  rw [← hs1]
  refine (hP1 _).mono ?_
  rintro r v1 ⟨l1, rfl, hl1, hb⟩
  have HL1 : Hid (PlOk false l1) := hl1
  clear hP1 hl1 hs1
  clear x0 x1 x2 x3 x4 f0 f2 f3 f4
  have BX := BX.later hb
  have BR := BR.later hb
  have BW := BW.trans (hb.mono (by have := BW.size; have := HG.out; omega))
  clear hb
  have x0 := BX.cell 0 (v := .int .i64 3) rfl
  have x1 := BX.cell 1 (v := .bool ng) rfl
  have x2 := BX.cell 2 (v := .string (nu)) rfl
  have x3 := BX.cell 3 (v := .int .i64 e) rfl
  have x4 := BX.cell 4 (v := .string (de)) rfl
  have f0 := BX.frozen 0
  have f2 := BX.frozen 2
  have f3 := BX.frozen 3
  have f4 := BX.frozen 4
  obtain ⟨s2, hs2⟩ : ∃ W, W = v1.setCell ⟨g, 2, none⟩ (.string (str l1)) := ⟨_, rfl⟩
  have BX' : Bk s2 g 23 (numC 3 ng (str l1) e (de)) := by rw [hs2]; exact Bk.set BX 2 _
  have BR' : Bk s2 (g + 1) 23 zero5 := by rw [hs2]; exact Bk.tn BR ((Tn.refl g _).set 2 _) (by omega)
  have BW' : Below g w s2 := by rw [hs2]; exact Tn.below BW ((Tn.refl g _).set 2 _) (Nat.le_refl _) (by rw [HG.out]; exact Nat.le_refl _)
  clear BX BR BW
  have BX := BX'
  have BR := BR'
  have BW := BW'
  clear BX' BR' BW'
  go_wp2_with fail
  rw [← hs2]
  refine (hP2 _).mono ?_
  rintro r v2 ⟨l2, rfl, hl2, hb⟩
  have HL2 : Hid (PlOk false l2) := hl2
  clear hP2 hl2 hs2
  clear x0 x1 x2 x3 x4 f0 f2 f3 f4
  have BX := BX.later hb
  have BR := BR.later hb
  have BW := BW.trans (hb.mono (by have := BW.size; have := HG.out; omega))
  clear hb
  have x0 := BX.cell 0 (v := .int .i64 3) rfl
  have x1 := BX.cell 1 (v := .bool ng) rfl
  have x2 := BX.cell 2 (v := .string (str l1)) rfl
  have x3 := BX.cell 3 (v := .int .i64 e) rfl
  have x4 := BX.cell 4 (v := .string (de)) rfl
  have f0 := BX.frozen 0
  have f2 := BX.frozen 2
  have f3 := BX.frozen 3
  have f4 := BX.frozen 4
  have z0 := BR.cell 0 rfl
  have z1 := BR.cell 1 rfl
  have z2 := BR.cell 2 rfl
  have z3 := BR.cell 3 rfl
  have z4 := BR.cell 4 rfl
  have y0 := BR.frozen 0
  have y1 := BR.frozen 1
  have y2 := BR.frozen 2
  have y3 := BR.frozen 3
  have y4 := BR.frozen 4
  by_cases h2 : l2 = []
  · subst h2
    have te : (str []).toList.isEmpty = true := emp_of (s := str []) rfl
    have R0 : Bk (v2.setCell ⟨g, 4, none⟩ (.string (str []))) (g + 1) 23 zero5 := Bk.tn BR ((Tn.refl g _).set 4 _) (by omega)
    have Q0 : Below g w (v2.setCell ⟨g, 4, none⟩ (.string (str []))) := Tn.below BW ((Tn.refl g _).set 4 _) (Nat.le_refl _) (by rw [HG.out]; exact Nat.le_refl _)
    have R1 : Bk ((v2.setCell ⟨g, 4, none⟩ (.string (str []))).setCell ⟨g, 3, none⟩ (.int .i64 q)) (g + 1) 23 zero5 := Bk.tn R0 ((Tn.refl g _).set 3 _) (by omega)
    have Q1 : Below g w ((v2.setCell ⟨g, 4, none⟩ (.string (str []))).setCell ⟨g, 3, none⟩ (.int .i64 q)) := Tn.below Q0 ((Tn.refl g _).set 3 _) (Nat.le_refl _) (by rw [HG.out]; exact Nat.le_refl _)
    have R2 : Bk (((v2.setCell ⟨g, 4, none⟩ (.string (str []))).setCell ⟨g, 3, none⟩ (.int .i64 q)).setCell ⟨g, 3, none⟩ (.int .i64 0)) (g + 1) 23 zero5 := Bk.tn R1 ((Tn.refl g _).set 3 _) (by omega)
    have Q2 : Below g w (((v2.setCell ⟨g, 4, none⟩ (.string (str []))).setCell ⟨g, 3, none⟩ (.int .i64 q)).setCell ⟨g, 3, none⟩ (.int .i64 0)) := Tn.below Q1 ((Tn.refl g _).set 3 _) (Nat.le_refl _) (by rw [HG.out]; exact Nat.le_refl _)
    have R3 : Bk ((((v2.setCell ⟨g, 4, none⟩ (.string (str []))).setCell ⟨g, 3, none⟩ (.int .i64 q)).setCell ⟨g, 3, none⟩ (.int .i64 0)).setCell ⟨g, 4, none⟩ (.string ⟨#[51]⟩)) (g + 1) 23 zero5 := Bk.tn R2 ((Tn.refl g _).set 4 _) (by omega)
    have Q3 : Below g w ((((v2.setCell ⟨g, 4, none⟩ (.string (str []))).setCell ⟨g, 3, none⟩ (.int .i64 q)).setCell ⟨g, 3, none⟩ (.int .i64 0)).setCell ⟨g, 4, none⟩ (.string ⟨#[51]⟩)) := Tn.below Q2 ((Tn.refl g _).set 4 _) (Nat.le_refl _) (by rw [HG.out]; exact Nat.le_refl _)
    have BF : Bk ((((v2.setCell ⟨g, 4, none⟩ (.string (str []))).setCell ⟨g, 3, none⟩ (.int .i64 q)).setCell ⟨g, 3, none⟩ (.int .i64 0)).setCell ⟨g, 4, none⟩ (.string ⟨#[51]⟩)) g 23 (numC 3 ng (str l1) (0) (⟨#[51]⟩)) := (Bk.set (Bk.set (Bk.set (Bk.set BX 4 (.string (str []))) 3 (.int .i64 q)) 3 (.int .i64 0)) 4 (.string ⟨#[51]⟩))
    have c3 := BF.cell 3 (v := .int .i64 (0)) rfl
    have c4 := BF.cell 4 (v := .string (⟨#[51]⟩)) rfl
    clear BF
    have HR : Hid (Bk ((((v2.setCell ⟨g, 4, none⟩ (.string (str []))).setCell ⟨g, 3, none⟩ (.int .i64 q)).setCell ⟨g, 3, none⟩ (.int .i64 0)).setCell ⟨g, 4, none⟩ (.string ⟨#[51]⟩)) (g + 1) 23 zero5) := R3
    have HQ : Hid (Below g w ((((v2.setCell ⟨g, 4, none⟩ (.string (str []))).setCell ⟨g, 3, none⟩ (.int .i64 q)).setCell ⟨g, 3, none⟩ (.int .i64 0)).setCell ⟨g, 4, none⟩ (.string ⟨#[51]⟩))) := Q3
    clear R0 Q0 R1 Q1 R2 Q2 R3 Q3 BX BR BW
    go_wp2
    refine bodyPost_ret (results_cell_row rfl _ _ (g + 1) 23 #[.int .i64 3, .bool ng, .string (str l1), .int .i64 (0), .string (⟨#[51]⟩)] (0, 0) _ rfl (Bk.all5 HR.out _ _ _ _ _) Tryz.underlying23 rfl (by kernel_rfl)) rfl ?_
    refine ⟨3, 0, l1, [51], rfl, Or.inr (Or.inr ⟨rfl, HL1.out, rfl, plOk_next (plOk_nil false) (by decide) (by decide) (Or.inl (by decide)), by decide⟩), ?_⟩
    rw [HG.out]
    exact Tn.below HQ.out (Tn.all5 ..) (by omega) (by rw [HG.out]; exact Nat.le_refl _)
  · have te : (str l2).toList.isEmpty = false := emp_no (by rw [str_list]; exact h2)
    have H2 : Hid (l2 ≠ []) := h2
    clear h2
    have R0 : Bk (v2.setCell ⟨g, 4, none⟩ (.string (str l2))) (g + 1) 23 zero5 := Bk.tn BR ((Tn.refl g _).set 4 _) (by omega)
    have Q0 : Below g w (v2.setCell ⟨g, 4, none⟩ (.string (str l2))) := Tn.below BW ((Tn.refl g _).set 4 _) (Nat.le_refl _) (by rw [HG.out]; exact Nat.le_refl _)
    have R1 : Bk ((v2.setCell ⟨g, 4, none⟩ (.string (str l2))).setCell ⟨g, 3, none⟩ (.int .i64 q)) (g + 1) 23 zero5 := Bk.tn R0 ((Tn.refl g _).set 3 _) (by omega)
    have Q1 : Below g w ((v2.setCell ⟨g, 4, none⟩ (.string (str l2))).setCell ⟨g, 3, none⟩ (.int .i64 q)) := Tn.below Q0 ((Tn.refl g _).set 3 _) (Nat.le_refl _) (by rw [HG.out]; exact Nat.le_refl _)
    have R2 : Bk (((v2.setCell ⟨g, 4, none⟩ (.string (str l2))).setCell ⟨g, 3, none⟩ (.int .i64 q)).setCell ⟨g, 3, none⟩ (.int .i64 0)) (g + 1) 23 zero5 := Bk.tn R1 ((Tn.refl g _).set 3 _) (by omega)
    have Q2 : Below g w (((v2.setCell ⟨g, 4, none⟩ (.string (str l2))).setCell ⟨g, 3, none⟩ (.int .i64 q)).setCell ⟨g, 3, none⟩ (.int .i64 0)) := Tn.below Q1 ((Tn.refl g _).set 3 _) (Nat.le_refl _) (by rw [HG.out]; exact Nat.le_refl _)
    have BF : Bk (((v2.setCell ⟨g, 4, none⟩ (.string (str l2))).setCell ⟨g, 3, none⟩ (.int .i64 q)).setCell ⟨g, 3, none⟩ (.int .i64 0)) g 23 (numC 3 ng (str l1) (0) (str l2)) := (Bk.set (Bk.set (Bk.set BX 4 (.string (str l2))) 3 (.int .i64 q)) 3 (.int .i64 0))
    have c3 := BF.cell 3 (v := .int .i64 (0)) rfl
    have c4 := BF.cell 4 (v := .string (str l2)) rfl
    clear BF
    have HR : Hid (Bk (((v2.setCell ⟨g, 4, none⟩ (.string (str l2))).setCell ⟨g, 3, none⟩ (.int .i64 q)).setCell ⟨g, 3, none⟩ (.int .i64 0)) (g + 1) 23 zero5) := R2
    have HQ : Hid (Below g w (((v2.setCell ⟨g, 4, none⟩ (.string (str l2))).setCell ⟨g, 3, none⟩ (.int .i64 q)).setCell ⟨g, 3, none⟩ (.int .i64 0))) := Q2
    clear R0 Q0 R1 Q1 R2 Q2 BX BR BW
    go_wp2
    refine bodyPost_ret (results_cell_row rfl _ _ (g + 1) 23 #[.int .i64 3, .bool ng, .string (str l1), .int .i64 (0), .string (str l2)] (0, 0) _ rfl (Bk.all5 HR.out _ _ _ _ _) Tryz.underlying23 rfl (by kernel_rfl)) rfl ?_
    refine ⟨3, 0, l1, l2, rfl, Or.inr (Or.inr ⟨rfl, HL1.out, rfl, HL2.out, H2.out⟩), ?_⟩
    rw [HG.out]
    exact Tn.below HQ.out (Tn.all5 ..) (by omega) (by rw [HG.out]; exact Nat.le_refl _)
theorem tame_any (k : Int) (ng : Bool) (nu : ByteArray) (e : Int) (de : ByteArray) (hn : nu.size ≤ 9223372036854775807) (hd : de.size ≤ 9223372036854775807) (w : World) :
    Calls Tryz.prog 6 #[.agg (numC k ng nu e de)] w fun r w' => ∃ (k' e' : Int) (nu' de' : B), r = .returned (.agg (numC k' ng (str nu') e' (str de'))) ∧ TameIs k' nu' e' de' ∧ Below w.heap.size w w' := by
  have h : k % 3 = 0 ∨ k % 3 = 1 ∨ k % 3 = 2 := by omega
  rcases h with h | h | h
  · exact tame_1 k ng nu e de h hn hd w
  · exact tame_2 k ng nu e de h hn hd w
  · exact tame_3 k ng nu e de h hn hd w
end Go.Proofs.YtjeoiffloghonabGreatDoor


/- Layer 9: the document's bare. -/
import Derived.Test.YthibemoincgemabGreatDoorLexRc
import Derived.Test.YthibemoincgemabGreatDoorBaseA
import Derived.Test.YthibemoincgemabGreatDoorBaseB
import Derived.Test.YthibemoincgemabGreatDoorBaseE
import Derived.Lib.BufferRead
namespace Go.Proofs.YthibemoincgemabGreatDoor
open Go.ChangeShapes Go.WideShapes Go.ChangeAt Go.RowKit
open Lx
set_option linter.unusedVariables false
namespace Lx
/-- bytes as whole numbers -/
def ints (l : B) : List Int := l.map fun b => (b.toNat : Int)
theorem ints_len (l : B) : (ints l).length = l.length := by unfold ints; rw [List.length_map]
theorem lowF_int (x : UInt8) : ((lowF x).toNat : Int) = if 65 ≤ (x.toNat : Int) ∧ (x.toNat : Int) ≤ 70 then (x.toNat : Int) + 32 else (x.toNat : Int) := by
  unfold lowF
  by_cases h : 65 ≤ x.toNat ∧ x.toNat ≤ 70
  · rw [if_pos h, if_pos (by omega), UInt8.toNat_ofNat']
    omega
  · rw [if_neg h, if_neg (by omega)]
end Lx
theorem conv9 {w : World} {base : Nat} {v : Value} {l : B} (h : Own .u8 w base 5 v (ints l)) :
    ∃ (a : Option Addr) (n c : Nat), v = .slice a n c ∧ (convert 90 9 (.slice a n c)).run Tryz.prog w = .ok (.string (str l)) w := by
  obtain ⟨oa, oc, rfl, hr⟩ := h.reads
  refine ⟨_, _, _, rfl, ?_⟩
  obtain ⟨_, _, hl, hr⟩ := hr
  rw [ints_len] at *
  by_cases hz : l = []
  · subst hz
    cases oa with
    | none =>
      have := Lib.run_convert_nil_bytes (P := Tryz.prog) w 90 9 5 oc Tryz.underlying90 Tryz.underlying5 Tryz.underlying9
      exact this
    | some a => exact run_convert_bytes_back (P := Tryz.prog) w 90 9 5 a oc [] Tryz.underlying90 Tryz.underlying5 Tryz.underlying9 (fun j hj => absurd hj (Nat.not_lt_zero _))
  · rcases hr with h0 | ⟨g, off, rfl, hg, hc⟩
    · exact absurd (List.length_eq_zero_iff.mp h0) hz
    · refine run_convert_bytes_back (P := Tryz.prog) w 90 9 5 ⟨g, off, none⟩ oc l Tryz.underlying90 Tryz.underlying5 Tryz.underlying9 (fun j hj => ?_)
      have ea : (⟨g, off, none⟩ : Addr).add j = ⟨g, off + j, none⟩ := by
        unfold Addr.add
        by_cases hi0 : j = 0
        · subst hi0; simp
        · simp [hi0]
      rw [ea, hc j hj]
      congr 2
      unfold ints
      rw [List.getD_eq_getElem?_getD, List.getElem?_map, List.getElem?_eq_getElem hj]
      rfl
set_option maxHeartbeats 3200000 in
set_option maxRecDepth 100000 in
theorem bare9_any (s : ByteArray) (hs : s.size ≤ 100000) (w : World) :
    Calls Tryz.prog 63 #[.string s] w fun e w' => e = .returned (.string (str (bareR s.data.toList))) ∧ Below w.heap.size w w' := by
  obtain ⟨i_u8, hi_u8, hz0_u8, hz1_u8, hz2_u8⟩ := info_parts info_u8
  go_enter Tryz.func63, Tryz.ntmps63
  go_wp2
  go_loop [3] (fun v => ∃ i : Nat, v = .int .i64 (i : Int) ∧ i ≤ s.size ∧ Hid (∀ (j : Nat) b, j < i → s.data.toList[j]? = some b → ([48] : B).contains b = true)) (fun v => s.size - (RowKit.intOf v).toNat)
  case atStart => exact ⟨0, rfl, by omega, fun j b hj => by omega⟩
  case round =>
    obtain ⟨i, rfl, hi, hc⟩ := hrel
    by_cases hp : i < s.size
    · have hpi : (i : Int) < (s.size : Int) := by omega
      have HX : Hid (s.data.toList[i]? = some (s[i]'hp)) := Lib.data_getElem? s i hp
      have he := has1 (s[i]'hp) 48
      change _ = ((((s[i]'hp).toNat : Nat) : Int) == 48) at he
      cases hb : ([48] : B).contains (s[i]'hp)
      · rw [hb] at he
        have he' := he.symm
        have HD : Hid (trimL [48] s.data.toList = s.data.toList.drop i) := dropWhile_at s.data.toList [48] i (by rw [← Lib.size_eq]; exact hi) hc.out (fun b hb' => by rw [HX.out] at hb'; rw [← Option.some.inj hb']; exact hb)
        clear he hb hc
        go_wp2
        go_loopw [3, 4] (fun v3 v4 wx => ∃ j : Nat, v3 = .int .i64 (j : Int) ∧ i ≤ j ∧ j ≤ s.size ∧ Own .u8 wx w.heap.size 5 v4 (ints (((s.data.toList.drop i).take (j - i)).map lowF)) ∧ Below w.heap.size w wx) (fun v3 _ _ => s.size - (RowKit.intOf v3).toNat)
        case atStart => exact ⟨i, rfl, Nat.le_refl _, hi, by rw [Nat.sub_self]; exact own_nil _ _ _ _, Below.refl _ _⟩
        case round =>
          obtain ⟨j, rfl, hij, hj, hov, hbl⟩ := hrel
          by_cases hq : j < s.size
          · have hqi : (j : Int) < (s.size : Int) := by omega
            have hlen : (ints (((s.data.toList.drop i).take (j - i)).map lowF)).length = j - i := by
              rw [ints_len, List.length_map, List.length_take, List.length_drop, ← Lib.size_eq]; omega
            have HJ : Hid (ints (((s.data.toList.drop i).take (j + 1 - i)).map lowF) = ints (((s.data.toList.drop i).take (j - i)).map lowF) ++ [((lowF (s[j]'hq)).toNat : Int)]) := by
              unfold Hid ints
              have e : j + 1 - i = (j - i) + 1 := by omega
              have e2 : (s.data.toList.drop i)[j - i]? = some (s[j]'hq) := by
                rw [List.getElem?_drop, show i + (j - i) = j by omega]; exact Lib.data_getElem? s j hq
              rw [e, List.take_add_one, e2]
              simp
            have hF := lowF_int (s[j]'hq)
            have hsz : w.heap.size ≤ wr.heap.size := hbl.size
            generalize hX : ((lowF (s[j]'hq)).toNat : Int) = X at *
            generalize ints (((s.data.toList.drop i).take (j - i)).map lowF) = zs at *
            have hxb : ((s[j]'hq).toNat : Int) < 256 := by have := UInt8.toNat_lt (s[j]'hq); omega
            by_cases h1 : (65 : Int) ≤ ((s[j]'hq).toNat : Int)
            · by_cases h2 : ((s[j]'hq).toNat : Int) ≤ 70
              · rw [if_pos ⟨h1, h2⟩] at hF
                have hF' := hF.symm
                clear hF
                go_wp2_with (at_builtin; refine wpList_append_own _ rfl _ _ 90 rfl w.heap.size 5 i_u8 (.int .u8 0) 1 1 Tryz.underlying90 hi_u8 hz0_u8 hz1_u8 hz2_u8 rfl (by decide) _ _ _ rfl (hov.row.alloc _) ⟨wr.heap.size, 0, none⟩ 1 1 [.int .u8 X] rfl rfl one_new one_cell (by unfold maxLen; omega) (by omega) (by simp; omega) ?_)
                intro v' w5 hown' hgrow _
                have hb' := grow_below hsz hov.row hbl hgrow
                have ho' := own_next hown' hlen.symm
                rw [← HJ.out] at ho'
                clear hown' hgrow hov hbl HJ
                go_wp2
                go_roundw
                case rel => exact ⟨j + 1, rfl, by omega, by omega, ho', hb'⟩
                case measure => simp [RowKit.intOf]; omega
              · rw [if_neg (by omega)] at hF
                have hF' := hF.symm
                clear hF
                go_wp2_with (at_builtin; refine wpList_append_own _ rfl _ _ 90 rfl w.heap.size 5 i_u8 (.int .u8 0) 1 1 Tryz.underlying90 hi_u8 hz0_u8 hz1_u8 hz2_u8 rfl (by decide) _ _ _ rfl (hov.row.alloc _) ⟨wr.heap.size, 0, none⟩ 1 1 [.int .u8 X] rfl rfl one_new one_cell (by unfold maxLen; omega) (by omega) (by simp; omega) ?_)
                intro v' w5 hown' hgrow _
                have hb' := grow_below hsz hov.row hbl hgrow
                have ho' := own_next hown' hlen.symm
                rw [← HJ.out] at ho'
                clear hown' hgrow hov hbl HJ
                go_wp2
                go_roundw
                case rel => exact ⟨j + 1, rfl, by omega, by omega, ho', hb'⟩
                case measure => simp [RowKit.intOf]; omega
            · rw [if_neg (by omega)] at hF
              have hF' := hF.symm
              clear hF
              go_wp2_with (at_builtin; refine wpList_append_own _ rfl _ _ 90 rfl w.heap.size 5 i_u8 (.int .u8 0) 1 1 Tryz.underlying90 hi_u8 hz0_u8 hz1_u8 hz2_u8 rfl (by decide) _ _ _ rfl (hov.row.alloc _) ⟨wr.heap.size, 0, none⟩ 1 1 [.int .u8 X] rfl rfl one_new one_cell (by unfold maxLen; omega) (by omega) (by simp; omega) ?_)
              intro v' w5 hown' hgrow _
              have hb' := grow_below hsz hov.row hbl hgrow
              have ho' := own_next hown' hlen.symm
              rw [← HJ.out] at ho'
              clear hown' hgrow hov hbl HJ
              go_wp2
              go_roundw
              case rel => exact ⟨j + 1, rfl, by omega, by omega, ho', hb'⟩
              case measure => simp [RowKit.intOf]; omega
          · have hqi : ¬ (j : Int) < (s.size : Int) := by omega
            have hje : j = s.size := by omega
            rw [hje, List.take_of_length_le (by rw [List.length_drop, ← Lib.size_eq]; exact Nat.le_refl _)] at hov
            have hbr : bareR s.data.toList = (s.data.toList.drop i).map lowF := by
              have : bareR s.data.toList = (trimL [48] s.data.toList).map lowF := rfl
              rw [this, HD.out]
            obtain ⟨a, n, c, rfl, hcv⟩ := conv9 hov
            rw [← hbr] at hcv
            have HB2 : Hid (Below w.heap.size w wr) := hbl
            clear hje hbr hov hbl
            go_wp2
            go_ret
            exact ⟨rfl, HB2.out⟩
      · rw [hb] at he
        have he' := he.symm
        have HN : Hid (∀ (j : Nat) b, j < i + 1 → s.data.toList[j]? = some b → ([48] : B).contains b = true) := by
          intro j b hj hb'
          by_cases q : j = i
          · subst q; rw [HX.out] at hb'; rw [← Option.some.inj hb']; exact hb
          · exact hc.out j b (by omega) hb'
        clear he hb hc
        go_wp2
        go_round
        case rel => exact ⟨i + 1, rfl, by omega, HN⟩
        case measure => simp [RowKit.intOf]; omega
    · have hpi : ¬ (i : Int) < (s.size : Int) := by omega
      have HD : Hid (trimL [48] s.data.toList = s.data.toList.drop i) := dropWhile_at s.data.toList [48] i (by rw [← Lib.size_eq]; exact hi) hc.out (fun b hb' => by
        rw [List.getElem?_eq_none (by rw [← Lib.size_eq]; omega)] at hb'; cases hb')
      clear hc
      go_wp2
      go_loopw [3, 4] (fun v3 v4 wx => ∃ j : Nat, v3 = .int .i64 (j : Int) ∧ i ≤ j ∧ j ≤ s.size ∧ Own .u8 wx w.heap.size 5 v4 (ints (((s.data.toList.drop i).take (j - i)).map lowF)) ∧ Below w.heap.size w wx) (fun v3 _ _ => s.size - (RowKit.intOf v3).toNat)
      case atStart => exact ⟨i, rfl, Nat.le_refl _, hi, by rw [Nat.sub_self]; exact own_nil _ _ _ _, Below.refl _ _⟩
      case round =>
        obtain ⟨j, rfl, hij, hj, hov, hbl⟩ := hrel
        by_cases hq : j < s.size
        · exfalso; omega
        · have hqi : ¬ (j : Int) < (s.size : Int) := by omega
          have hje : j = s.size := by omega
          rw [hje, List.take_of_length_le (by rw [List.length_drop, ← Lib.size_eq]; exact Nat.le_refl _)] at hov
          have hbr : bareR s.data.toList = (s.data.toList.drop i).map lowF := by
            have : bareR s.data.toList = (trimL [48] s.data.toList).map lowF := rfl
            rw [this, HD.out]
          obtain ⟨a, n, c, rfl, hcv⟩ := conv9 hov
          rw [← hbr] at hcv
          have HB2 : Hid (Below w.heap.size w wr) := hbl
          clear hje hbr hov hbl
          go_wp2
          go_ret
          exact ⟨rfl, HB2.out⟩
end Go.Proofs.YthibemoincgemabGreatDoor

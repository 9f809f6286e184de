import Derived.Lib.BufferRead
import Derived.Deep.RegionHeld3
import Derived.Below
import Derived.BigQuiet
import Derived.ChangeOld
import Derived.Deep.CutRange
import Derived.Deep.LoopGhost
import Derived.Deep.QuietTactic
import Derived.Deep.RegionWith
import Derived.Deep.WholeRow
import Derived.KernelRfl
import Derived.Laws.BitsAllLaws
import Derived.Laws.CopyRow
import Derived.Laws.EntriesVeiled
import Derived.Laws.Externs
import Derived.Laws.IdiomCopy
import Derived.Laws.IdiomRangeMap
import Derived.Laws.RangeString
import Derived.Laws.ResultCell
import Derived.Laws.Runes
import Derived.Laws.Strings3
import Derived.Lib.AsciiSet
import Derived.Lib.Bytealg
import Derived.Lib.IndexBytes
import Derived.Lib.Strings
import Derived.Lib.TrimByte
import Derived.Lib.Walk
import Derived.OpenShut
import Derived.OwnWalk
import Derived.ProofKit
import Derived.Shelf.Strconv.Clone
import Derived.Shelf.Strings.OnBuilder
import Derived.ShutString
import Derived.WalkKit
import Derived.WalkLawsBesides
import Derived.WalkSpells
import Derived.Test.YtfgpjplfplbcdaaGreatDoorPb4
import Derived.Test.YtfgpjplfplbcdaaGreatDoorPb5
import Derived.Test.YtfgpjplfplbcdaaGreatDoorPb11
import Derived.Test.YtfgpjplfplbcdaaGreatDoorPb12
/- Layer 9: the document's bare. -/
namespace Go.Proofs.YtfgpjplfplbcdaaGreatDoor
open Go.ChangeShapes Go.WideShapes Go.ChangeAt Go.RowKit
open Lx
set_option linter.unusedVariables false
namespace Lx
/-- bytes as whole numbers -/
def ints (l : B) : List Int := l.map fun b => (b.toNat : Int)
theorem ints_len (l : B) : (ints l).length = l.length := by unfold ints; rw [List.length_map]
theorem lowF_int (x : UInt8) : ((lowF x).toNat : Int) = if 65 ≤ (x.toNat : Int) ∧ (x.toNat : Int) ≤ 70 then (x.toNat : Int) + 32 else (x.toNat : Int) := by
  unfold lowF
  by_cases h : 65 ≤ x.toNat ∧ x.toNat ≤ 70
  · rw [if_pos h, if_pos (by omega), UInt8.toNat_ofNat']
    omega
  · rw [if_neg h, if_neg (by omega)]
end Lx
theorem conv9 {w : World} {base : Nat} {v : Value} {l : B} (h : Own .u8 w base 5 v (ints l)) :
    ∃ (a : Option Addr) (n c : Nat), v = .slice a n c ∧ (convert 63 9 (.slice a n c)).run Tryz.prog w = .ok (.string (str l)) w := by
  obtain ⟨oa, oc, rfl, hr⟩ := h.reads
  refine ⟨_, _, _, rfl, ?_⟩
  obtain ⟨_, _, hl, hr⟩ := hr
  rw [ints_len] at *
  by_cases hz : l = []
  · subst hz
    cases oa with
    | none =>
      have := Lib.run_convert_nil_bytes (P := Tryz.prog) w 63 9 5 oc Tryz.underlying63 Tryz.underlying5 Tryz.underlying9
      exact this
    | some a => exact run_convert_bytes_back (P := Tryz.prog) w 63 9 5 a oc [] Tryz.underlying63 Tryz.underlying5 Tryz.underlying9 (fun j hj => absurd hj (Nat.not_lt_zero _))
  · rcases hr with h0 | ⟨g, off, rfl, hg, hc⟩
    · exact absurd (List.length_eq_zero_iff.mp h0) hz
    · refine run_convert_bytes_back (P := Tryz.prog) w 63 9 5 ⟨g, off, none⟩ oc l Tryz.underlying63 Tryz.underlying5 Tryz.underlying9 (fun j hj => ?_)
      have ea : (⟨g, off, none⟩ : Addr).add j = ⟨g, off + j, none⟩ := by
        unfold Addr.add
        by_cases hi0 : j = 0
        · subst hi0; simp
        · simp [hi0]
      rw [ea, hc j hj]
      congr 2
      unfold ints
      rw [List.getD_eq_getElem?_getD, List.getElem?_map, List.getElem?_eq_getElem hj]
      rfl
set_option maxHeartbeats 3200000 in
set_option maxRecDepth 100000 in
theorem bare9_any (s : ByteArray) (hs : s.size ≤ 8000000) (w : World) :
    Calls Tryz.prog 96 #[.string s] w fun e w' => e = .returned (.string (str (bareR s.data.toList))) ∧ Below w.heap.size w w' := by
  obtain ⟨i_u8, hi_u8, hz0_u8, hz1_u8, hz2_u8⟩ := info_parts info9_u8
  go_enter Tryz.func96, Tryz.ntmps96
  go_wp2
  go_loop [3] (fun v => ∃ i : Nat, v = .int .i64 (i : Int) ∧ i ≤ s.size ∧ Hid (∀ (j : Nat) b, j < i → s.data.toList[j]? = some b → ([48] : B).contains b = true)) (fun v => s.size - (RowKit.intOf v).toNat)
  case atStart => exact ⟨0, rfl, by omega, fun j b hj => by omega⟩
  case round =>
    obtain ⟨i, rfl, hi, hc⟩ := hrel
    by_cases hp : i < s.size
    · have hpi : (i : Int) < (s.size : Int) := by omega
      have HX : Hid (s.data.toList[i]? = some (s[i]'hp)) := Lib.data_getElem? s i hp
      have he := has1 (s[i]'hp) 48
      change _ = ((((s[i]'hp).toNat : Nat) : Int) == 48) at he
      cases hb : ([48] : B).contains (s[i]'hp)
      · rw [hb] at he
        have he' := he.symm
        have HD : Hid (trimL [48] s.data.toList = s.data.toList.drop i) := dropWhile_at s.data.toList [48] i (by rw [← Lib.size_eq]; exact hi) hc.out (fun b hb' => by rw [HX.out] at hb'; rw [← Option.some.inj hb']; exact hb)
        clear he hb hc
        go_wp2
        go_loopw [3, 4] (fun v3 v4 wx => ∃ j : Nat, v3 = .int .i64 (j : Int) ∧ i ≤ j ∧ j ≤ s.size ∧ Own .u8 wx w.heap.size 5 v4 (ints (((s.data.toList.drop i).take (j - i)).map lowF)) ∧ Below w.heap.size w wx) (fun v3 _ _ => s.size - (RowKit.intOf v3).toNat)
        case atStart => exact ⟨i, rfl, Nat.le_refl _, hi, by rw [Nat.sub_self]; exact own_nil _ _ _ _, Below.refl _ _⟩
        case round =>
          obtain ⟨j, rfl, hij, hj, hov, hbl⟩ := hrel
          by_cases hq : j < s.size
          · have hqi : (j : Int) < (s.size : Int) := by omega
            have hlen : (ints (((s.data.toList.drop i).take (j - i)).map lowF)).length = j - i := by
              rw [ints_len, List.length_map, List.length_take, List.length_drop, ← Lib.size_eq]; omega
            have HJ : Hid (ints (((s.data.toList.drop i).take (j + 1 - i)).map lowF) = ints (((s.data.toList.drop i).take (j - i)).map lowF) ++ [((lowF (s[j]'hq)).toNat : Int)]) := by
              unfold Hid ints
              have e : j + 1 - i = (j - i) + 1 := by omega
              have e2 : (s.data.toList.drop i)[j - i]? = some (s[j]'hq) := by
                rw [List.getElem?_drop, show i + (j - i) = j by omega]; exact Lib.data_getElem? s j hq
              rw [e, List.take_add_one, e2]
              simp
            have hF := lowF_int (s[j]'hq)
            have hsz : w.heap.size ≤ wr.heap.size := hbl.size
            generalize hX : ((lowF (s[j]'hq)).toNat : Int) = X at *
            generalize ints (((s.data.toList.drop i).take (j - i)).map lowF) = zs at *
            have hxb : ((s[j]'hq).toNat : Int) < 256 := by have := UInt8.toNat_lt (s[j]'hq); omega
            by_cases h1 : (65 : Int) ≤ ((s[j]'hq).toNat : Int)
            · by_cases h2 : ((s[j]'hq).toNat : Int) ≤ 70
              · rw [if_pos ⟨h1, h2⟩] at hF
                have hF' := hF.symm
                clear hF
                go_wp2_with (at_builtin; refine wpList_append_own _ rfl _ _ 63 rfl w.heap.size 5 i_u8 (.int .u8 0) 1 1 Tryz.underlying63 hi_u8 hz0_u8 hz1_u8 hz2_u8 rfl (by decide) _ _ _ rfl (hov.row.alloc _) ⟨wr.heap.size, 0, none⟩ 1 1 [.int .u8 X] rfl rfl one_new one_cell (by unfold maxLen; omega) (by omega) (by simp; omega) ?_)
                intro v' w5 hown' hgrow _
                have hb' := grow_below hsz hov.row hbl hgrow
                have ho' := own_next hown' hlen.symm
                rw [← HJ.out] at ho'
                clear hown' hgrow hov hbl HJ
                go_wp2
                go_roundw
                case rel => exact ⟨j + 1, rfl, by omega, by omega, ho', hb'⟩
                case measure => simp [RowKit.intOf]; omega
              · rw [if_neg (by omega)] at hF
                have hF' := hF.symm
                clear hF
                go_wp2_with (at_builtin; refine wpList_append_own _ rfl _ _ 63 rfl w.heap.size 5 i_u8 (.int .u8 0) 1 1 Tryz.underlying63 hi_u8 hz0_u8 hz1_u8 hz2_u8 rfl (by decide) _ _ _ rfl (hov.row.alloc _) ⟨wr.heap.size, 0, none⟩ 1 1 [.int .u8 X] rfl rfl one_new one_cell (by unfold maxLen; omega) (by omega) (by simp; omega) ?_)
                intro v' w5 hown' hgrow _
                have hb' := grow_below hsz hov.row hbl hgrow
                have ho' := own_next hown' hlen.symm
                rw [← HJ.out] at ho'
                clear hown' hgrow hov hbl HJ
                go_wp2
                go_roundw
                case rel => exact ⟨j + 1, rfl, by omega, by omega, ho', hb'⟩
                case measure => simp [RowKit.intOf]; omega
            · rw [if_neg (by omega)] at hF
              have hF' := hF.symm
              clear hF
              go_wp2_with (at_builtin; refine wpList_append_own _ rfl _ _ 63 rfl w.heap.size 5 i_u8 (.int .u8 0) 1 1 Tryz.underlying63 hi_u8 hz0_u8 hz1_u8 hz2_u8 rfl (by decide) _ _ _ rfl (hov.row.alloc _) ⟨wr.heap.size, 0, none⟩ 1 1 [.int .u8 X] rfl rfl one_new one_cell (by unfold maxLen; omega) (by omega) (by simp; omega) ?_)
              intro v' w5 hown' hgrow _
              have hb' := grow_below hsz hov.row hbl hgrow
              have ho' := own_next hown' hlen.symm
              rw [← HJ.out] at ho'
              clear hown' hgrow hov hbl HJ
              go_wp2
              go_roundw
              case rel => exact ⟨j + 1, rfl, by omega, by omega, ho', hb'⟩
              case measure => simp [RowKit.intOf]; omega
          · have hqi : ¬ (j : Int) < (s.size : Int) := by omega
            have hje : j = s.size := by omega
            rw [hje, List.take_of_length_le (by rw [List.length_drop, ← Lib.size_eq]; exact Nat.le_refl _)] at hov
            have hbr : bareR s.data.toList = (s.data.toList.drop i).map lowF := by
              have : bareR s.data.toList = (trimL [48] s.data.toList).map lowF := rfl
              rw [this, HD.out]
            obtain ⟨a, n, c, rfl, hcv⟩ := conv9 hov
            rw [← hbr] at hcv
            have HB2 : Hid (Below w.heap.size w wr) := hbl
            clear hje hbr hov hbl
            go_wp2
            go_ret
            exact ⟨rfl, HB2.out⟩
      · rw [hb] at he
        have he' := he.symm
        have HN : Hid (∀ (j : Nat) b, j < i + 1 → s.data.toList[j]? = some b → ([48] : B).contains b = true) := by
          intro j b hj hb'
          by_cases q : j = i
          · subst q; rw [HX.out] at hb'; rw [← Option.some.inj hb']; exact hb
          · exact hc.out j b (by omega) hb'
        clear he hb hc
        go_wp2
        go_round
        case rel => exact ⟨i + 1, rfl, by omega, HN⟩
        case measure => simp [RowKit.intOf]; omega
    · have hpi : ¬ (i : Int) < (s.size : Int) := by omega
      have HD : Hid (trimL [48] s.data.toList = s.data.toList.drop i) := dropWhile_at s.data.toList [48] i (by rw [← Lib.size_eq]; exact hi) hc.out (fun b hb' => by
        rw [List.getElem?_eq_none (by rw [← Lib.size_eq]; omega)] at hb'; cases hb')
      clear hc
      go_wp2
      go_loopw [3, 4] (fun v3 v4 wx => ∃ j : Nat, v3 = .int .i64 (j : Int) ∧ i ≤ j ∧ j ≤ s.size ∧ Own .u8 wx w.heap.size 5 v4 (ints (((s.data.toList.drop i).take (j - i)).map lowF)) ∧ Below w.heap.size w wx) (fun v3 _ _ => s.size - (RowKit.intOf v3).toNat)
      case atStart => exact ⟨i, rfl, Nat.le_refl _, hi, by rw [Nat.sub_self]; exact own_nil _ _ _ _, Below.refl _ _⟩
      case round =>
        obtain ⟨j, rfl, hij, hj, hov, hbl⟩ := hrel
        by_cases hq : j < s.size
        · exfalso; omega
        · have hqi : ¬ (j : Int) < (s.size : Int) := by omega
          have hje : j = s.size := by omega
          rw [hje, List.take_of_length_le (by rw [List.length_drop, ← Lib.size_eq]; exact Nat.le_refl _)] at hov
          have hbr : bareR s.data.toList = (s.data.toList.drop i).map lowF := by
            have : bareR s.data.toList = (trimL [48] s.data.toList).map lowF := rfl
            rw [this, HD.out]
          obtain ⟨a, n, c, rfl, hcv⟩ := conv9 hov
          rw [← hbr] at hcv
          have HB2 : Hid (Below w.heap.size w wr) := hbl
          clear hje hbr hov hbl
          go_wp2
          go_ret
          exact ⟨rfl, HB2.out⟩
end Go.Proofs.YtfgpjplfplbcdaaGreatDoor

/- Layer 9: the document's held. -/
namespace Go.Proofs.YtfgpjplfplbcdaaGreatDoor
open Go.ChangeShapes Go.WideShapes Go.ChangeAt Go.RowKit
open Lx
set_option linter.unusedVariables false
namespace Lx
theorem foldR_bound (ds : B) (h : ds.all isD = true) : 0 ≤ ds.foldl stepR 0 ∧ ds.foldl stepR 0 ≤ 4294967296 := by
  have := fold_same ds h 0 0 (by decide) (by decide) (by decide) (by decide) (Or.inl ⟨rfl, by decide⟩)
  omega
theorem all_filter (l : B) : (l.filter isD).all isD = true := by
  rw [List.all_eq_true]
  intro b hb
  exact (List.mem_filter.mp hb).2
/-- what is read of the first bytes -/
def nR (l : B) : Int := (l.filter isD).foldl stepR 0
theorem nR_bound (l : B) : 0 ≤ nR l ∧ nR l ≤ 4294967296 := foldR_bound _ (all_filter l)
theorem nR_yes (l : B) (x : UInt8) (h : isD x = true) : nR (l ++ [x]) = stepR (nR l) x := by
  unfold nR
  rw [List.filter_append, List.foldl_append]
  simp [h]
theorem nR_no (l : B) (x : UInt8) (h : isD x = false) : nR (l ++ [x]) = nR l := by
  unfold nR
  rw [List.filter_append]
  simp [h]
theorem neg_snoc (l : B) (x : UInt8) : (l ++ [x]).contains 45 = (l.contains 45 || (x == 45)) := by
  induction l with
  | nil => rw [List.nil_append, List.contains_cons, List.contains_nil, Bool.or_false, Bool.false_or]; exact Bool.beq_comm
  | cons c r ih => rw [List.cons_append, List.contains_cons, List.contains_cons, ih, Bool.or_assoc]
theorem expoR_eq (l : B) : expoR l = if l.contains 45 then - nR l else nR l := rfl
end Lx
set_option maxHeartbeats 3200000 in
set_option maxRecDepth 100000 in
theorem held9r_any (s : ByteArray) (m : Nat) (hs : s.size ≤ 4000000) (hm : m ≤ 20000000) (w : World) :
    Calls Tryz.prog 97 #[.string s, .int .i64 (m : Int)] w fun e w' => e = .returned (.int .i64 (heldR (expoR s.data.toList - m))) ∧ w' = w := by
  go_enter Tryz.func97, Tryz.ntmps97
  go_wp2
  go_loop [5, 6, 7] (fun v5 v6 v7 => ∃ (i : Nat) (bb : Bool) (n : Int), v7 = .int .i64 (i : Int) ∧ i ≤ s.size ∧ v5 = .bool bb ∧ v6 = .int .i64 n ∧ Hid ((s.data.toList.take i).contains 45 = bb) ∧ Hid (nR (s.data.toList.take i) = n)) (fun _ _ v7 => s.size - (RowKit.intOf v7).toNat)
  case atStart => exact ⟨0, false, 0, rfl, Nat.zero_le _, rfl, rfl, rfl, rfl⟩
  case round =>
    obtain ⟨i, bb, n, rfl, hi, rfl, rfl, hbb, hn⟩ := hrel
    obtain ⟨n0, n1⟩ := nR_bound (s.data.toList.take i)
    rw [hn.out] at n0 n1
    by_cases hp : i < s.size
    · have hpi : (i : Int) < (s.size : Int) := by omega
      have ht : s.data.toList.take (i + 1) = s.data.toList.take i ++ [s[i]'hp] := by
        rw [List.take_add_one, Lib.data_getElem? s i hp]; rfl
      have hc := neg_snoc (s.data.toList.take i) (s[i]'hp)
      have hy := nR_yes (s.data.toList.take i) (s[i]'hp)
      have hno := nR_no (s.data.toList.take i) (s[i]'hp)
      rw [← ht, hn.out] at hy hno
      rw [← ht, hbb.out] at hc
      have h45 := beq_u8 (s[i]'hp) 45
      change ((((s[i]'hp).toNat : Nat) : Int) == 45) = _ at h45
      have c1 := digit9_any (s[i]'hp)
      clear hbb hn ht
      cases hd : isD (s[i]'hp)
      · rw [hd] at c1
        have HN : Hid (nR (s.data.toList.take (i + 1)) = n) := hno hd
        cases hq : ((s[i]'hp) == 45)
        · rw [hq] at h45 hc
          rw [Bool.or_false] at hc
          have HC : Hid ((s.data.toList.take (i + 1)).contains 45 = bb) := hc
          clear hy hno hc hd hq
          go_wp2_with (go_at_call 93; refine (c1 _).mono ?_; rintro e w' ⟨rfl, rfl⟩)
          go_round
          case rel => exact ⟨i + 1, bb, n, rfl, by omega, rfl, rfl, HC, HN⟩
          case measure => simp [RowKit.intOf]; omega
        · rw [hq] at h45 hc
          rw [Bool.or_true] at hc
          have HC : Hid ((s.data.toList.take (i + 1)).contains 45 = true) := hc
          clear hy hno hc hd hq
          go_wp2_with (go_at_call 93; refine (c1 _).mono ?_; rintro e w' ⟨rfl, rfl⟩)
          go_round
          case rel => exact ⟨i + 1, true, n, rfl, by omega, rfl, rfl, HC, HN⟩
          case measure => simp [RowKit.intOf]; omega
      · rw [hd] at c1
        have hyd := hy hd
        have hq : ((s[i]'hp) == 45) = false := by simpa using (digit_not hd).2.2
        rw [hq] at h45 hc
        rw [Bool.or_false] at hc
        have HC : Hid ((s.data.toList.take (i + 1)).contains 45 = bb) := hc
        have hd2 : 48 ≤ (s[i]'hp).toNat ∧ (s[i]'hp).toNat ≤ 57 := by unfold isD at hd; simpa using hd
        unfold stepR at hyd
        clear hy hno hc hd hq
        by_cases hbig : 4294967296 < n * 10 + (((s[i]'hp).toNat : Int) - 48)
        · rw [if_pos hbig] at hyd
          have HN : Hid (nR (s.data.toList.take (i + 1)) = 4294967296) := hyd
          clear hyd
          go_wp2_with (go_at_call 93; refine (c1 _).mono ?_; rintro e w' ⟨rfl, rfl⟩)
          go_round
          case rel => exact ⟨i + 1, bb, 4294967296, rfl, by omega, rfl, rfl, HC, HN⟩
          case measure => simp [RowKit.intOf]; omega
        · rw [if_neg hbig] at hyd
          have HN : Hid (nR (s.data.toList.take (i + 1)) = n * 10 + (((s[i]'hp).toNat : Int) - 48)) := hyd
          clear hyd
          go_wp2_with (go_at_call 93; refine (c1 _).mono ?_; rintro e w' ⟨rfl, rfl⟩)
          go_round
          case rel => exact ⟨i + 1, bb, _, rfl, by omega, rfl, rfl, HC, HN⟩
          case measure => simp [RowKit.intOf]; omega
    · have hpi : ¬ (i : Int) < (s.size : Int) := by omega
      have hie : s.data.toList.take i = s.data.toList := List.take_of_length_le (by rw [← Lib.size_eq]; omega)
      rw [hie] at hbb hn
      have hE : expoR s.data.toList = if bb then -n else n := by rw [expoR_eq, hbb.out, hn.out]
      clear hie hbb hn
      cases bb
      · by_cases h1 : 1073741824 < n - m
        · skip
          have HE : Hid (heldR (expoR s.data.toList - m) = 1073741824) := by
            unfold Hid
            rw [hE]
            show heldR (n - m) = _; unfold heldR; rw [if_pos h1]
          clear hE
          go_wp2
          go_ret
          exact ⟨by rw [HE.out]; rfl, rfl⟩
        · by_cases h2 : n - m < -1073741824
          · skip
            have HE : Hid (heldR (expoR s.data.toList - m) = -1073741824) := by
              unfold Hid
              rw [hE]
              show heldR (n - m) = _; unfold heldR; rw [if_neg h1, if_pos h2]
            clear hE
            go_wp2
            go_ret
            exact ⟨by rw [HE.out]; rfl, rfl⟩
          · skip
            have HE : Hid (heldR (expoR s.data.toList - m) = n - m) := by
              unfold Hid
              rw [hE]
              show heldR (n - m) = _; unfold heldR; rw [if_neg h1, if_neg h2]
            clear hE
            go_wp2
            go_ret
            exact ⟨by rw [HE.out]; rfl, rfl⟩
      · have h1 : ¬ 1073741824 < -n - m := by omega
        by_cases h2 : -n - m < -1073741824
        · skip
          have HE : Hid (heldR (expoR s.data.toList - m) = -1073741824) := by
            unfold Hid
            rw [hE]
            show heldR (-n - m) = _; unfold heldR; rw [if_neg h1, if_pos h2]
          clear hE
          go_wp2
          go_ret
          exact ⟨by rw [HE.out]; rfl, rfl⟩
        · skip
          have HE : Hid (heldR (expoR s.data.toList - m) = -n - m) := by
            unfold Hid
            rw [hE]
            show heldR (-n - m) = _; unfold heldR; rw [if_neg h1, if_neg h2]
          clear hE
          go_wp2
          go_ret
          exact ⟨by rw [HE.out]; rfl, rfl⟩
end Go.Proofs.YtfgpjplfplbcdaaGreatDoor

/- Layer 9: the document's decimal, hexadecimal and rational. -/
namespace Go.Proofs.YtfgpjplfplbcdaaGreatDoor
open Go.ChangeShapes Go.WideShapes Go.ChangeAt Go.RowKit
open Lx
set_option linter.unusedVariables false
namespace Lx
structure Keep (p q : Pc) (n : Nat) : Prop where
  kind : q.kind = p.kind
  neg : q.neg = p.neg
  den : q.den = p.den
  expo : q.expo = p.expo
  la : q.ahead.length ≤ n
  lb : q.behind.length ≤ n
theorem refParts_keep {t : UInt8 → Bool} {p q : Pc} {l r : B} (h : refParts t p l = some (q, r)) : Keep p q l.length := by
  have h1 := dk_len t l
  have h2 := dk_len t (l.dropWhile t).tail
  have h3 : (l.dropWhile t).tail.length ≤ (l.dropWhile t).length := by rw [List.length_tail]; omega
  unfold refParts at h
  simp only at h
  split at h
  · split at h
    · cases h
    · cases h
      exact ⟨rfl, rfl, rfl, rfl, by show (List.takeWhile t l).length ≤ _; omega, by show (List.takeWhile t (l.dropWhile t).tail).length ≤ _; omega⟩
  · split at h
    · cases h
    · cases h
      exact ⟨rfl, rfl, rfl, rfl, by show (List.takeWhile t l).length ≤ _; omega, Nat.zero_le _⟩
theorem refE_keep {cs : B} {p q : Pc} {l : B} (h : refE cs p l = some q) : q.kind = p.kind ∧ q.neg = p.neg ∧ q.den = p.den ∧ q.ahead = p.ahead ∧ q.behind = p.behind ∧ q.expo.length ≤ l.length := by
  unfold refE at h
  split at h
  · split at h
    · cases h
    · cases h
      have := expo_le l.tail
      have h2 : l.tail.length ≤ l.length := by rw [List.length_tail]; omega
      exact ⟨rfl, rfl, rfl, rfl, rfl, by show (expoL l.tail).length ≤ _; omega⟩
  · cases h
/-- what one of the kinds answers: a numeral without its sign and the place behind it; or none -/
def KindR (w : World) (b : Nat) (o : Option Pc) (e : Ending) (w' : World) : Prop :=
  Below w.heap.size w w' ∧ ((o = none ∧ e = .returned (.tuple #[.agg (nmA nmZ), .int .i64 0, .bool false])) ∨ (∃ p, o = some p ∧ e = .returned (.tuple #[.agg (nmA { numR p with neg := false }), .int .i64 ((b + p.stop : Nat) : Int), .bool true])))
theorem cat_str (a b : B) : str a ++ str b = str (a ++ b) := by apply ByteArray.ext; simp [str]
theorem len_drop (s : ByteArray) (k : Nat) : (s.data.toList.drop k).length ≤ s.size := by rw [List.length_drop, ← Lib.size_eq]; omega
end Lx
set_option maxHeartbeats 3200000 in
set_option maxRecDepth 100000 in
theorem dec9_any (s : ByteArray) (kk kr b : Nat) (ng : Bool) (hs : s.size ≤ 3000000) (hk : kk ≤ s.size) (hb : kk = b + kr) (w : World) :
    Calls Tryz.prog 73 #[.string s, .int .i64 (kk : Int)] w (KindR w b (refDec ng kr (s.data.toList.drop kk))) := by
  have c1 := fun w => parts9_any s kk b false ⟨1, ng, [], [], [], [], kr⟩ (by omega) hk hb w
  clear hb
  have HB : Hid (Bk (w.alloc (.cells zero5 30)) w.heap.size 30 zero5) := Bk.new w 30 zero5
  have hb0 : Below w.heap.size w (w.alloc (.cells zero5 30)) := (Below.refl _ w).alloc (Nat.le_refl _) _
  go_enter Tryz.func73, Tryz.ntmps73
  go_wp2_with fail
  refine (c1 _).mono ?_
  rintro e w1 ⟨hw1, hr⟩
  have HB1 : Hid (Bk w1 w.heap.size 30 zero5) := by rw [hw1]; exact HB
  have hb1 : Below w.heap.size w w1 := by rw [hw1]; exact hb0
  clear hw1 HB hb0
  rcases hr with ⟨hp, x, y, z, rfl⟩ | ⟨p1, hp, hps, rfl⟩
  · have HO : Hid (refDec ng kr (s.data.toList.drop kk) = none) := dec_none hp
    have HBw : Hid (Bk w1 w.heap.size 30 zero5) := HB1
    have hbw := hb1
    have z0 := (HBw.out).cell 0 rfl
    have zf0 := (HBw.out).frozen 0
    have z1 := (HBw.out).cell 1 rfl
    have zf1 := (HBw.out).frozen 1
    have z2 := (HBw.out).cell 2 rfl
    have zf2 := (HBw.out).frozen 2
    have z3 := (HBw.out).cell 3 rfl
    have zf3 := (HBw.out).frozen 3
    have z4 := (HBw.out).cell 4 rfl
    have zf4 := (HBw.out).frozen 4
    go_wp2
    refine bodyPost_ret (results_c2 rfl _ _ w.heap.size 30 (nmA nmZ) _ rfl (Bk.all5 HBw.out _ _ _ _ _) Tryz.underlying30 rfl (by kernel_rfl)) rfl ?_
    refine ⟨Tn.below hbw (Tn.all5 ..) (Nat.le_refl _) (Nat.le_refl _), Or.inl ⟨HO.out, rfl⟩⟩
  · skip
    have KP := refParts_keep hp
    have l1 := KP.la
    have l2 := KP.lb
    have ll := len_drop s kk
    have hsA : (str p1.ahead).size ≤ 3000000 := by rw [str_size]; omega
    have hsB : (str p1.behind).size = p1.behind.length := str_size _
    have hcat := cat_str p1.ahead p1.behind
    have cb := fun w => bare9_any (str (p1.ahead ++ p1.behind)) (by rw [str_size, List.length_append]; omega) w
    rw [str_list] at cb
    go_wp2_with fail
    refine (expo9_101 s (b + p1.stop) b p1 (by omega) hps rfl _).mono ?_
    rintro e w2 ⟨hb2, hE⟩
    rcases hE with ⟨hE0, rfl⟩ | ⟨p2, hE1, hE2, rfl⟩
    · have HO : Hid (refDec ng kr (s.data.toList.drop kk) = some p1) := by
        unfold Hid
        rw [dec_some hp, hE0]; rfl
      have HKD : Hid (p1.kind = 1) := KP.kind
      have HDN : Hid (p1.den = []) := KP.den
      have HAH : Hid (p1.ahead = p1.ahead) := rfl
      have HBE : Hid (p1.behind = p1.behind) := rfl
      have hx0 : p1.expo = [] := KP.expo
      have HEX : Hid (p1.expo = []) := hx0
      clear hx0
      have hm4 : ((4 * p1.behind.length : Nat) : Int) = 4 * (p1.behind.length : Int) := by omega
      have ch := fun w => held9r_any (str ([] : B)) (p1.behind.length) (by rw [str_size]; first | omega | simp) (by omega) w
      rw [str_list] at ch
      have HBb := HB1.out.later hb2
      generalize hS : bareR (p1.ahead ++ p1.behind) = S1 at *
      generalize hV : heldR (expoR ([] : B) - ((p1.behind.length : Nat) : Int)) = V at *
      have HF : Hid (nmA { numR p1 with neg := false } = #[.int .i64 1, .bool false, .string (str S1), .int .i64 V, .string ⟨#[]⟩]) := by
        unfold Hid nmA numR
        simp only
        rw [HKD.out, HDN.out, HAH.out, HBE.out, hS, if_pos rfl, HEX.out]
        rw [← hV]
        rfl
      clear hS hV
      go_wp2_with fail
      refine (cb _).mono ?_
      rintro e w3 ⟨rfl, hb3⟩
      go_wp2_with fail
      refine (ch _).mono ?_
      rintro e w4 ⟨rfl, hw4⟩
      rw [hw4]
      have HBw := HBb.later hb3
      have z0 := HBw.cell 0 rfl
      have zf0 := HBw.frozen 0
      have z1 := HBw.cell 1 rfl
      have zf1 := HBw.frozen 1
      have z2 := HBw.cell 2 rfl
      have zf2 := HBw.frozen 2
      have z3 := HBw.cell 3 rfl
      have zf3 := HBw.frozen 3
      have z4 := HBw.cell 4 rfl
      have zf4 := HBw.frozen 4
      have HBz : Hid (Bk w3 w.heap.size 30 zero5) := HBw
      clear HBw
      have hbA := hb1.trans (hb2.mono hb1.size)
      have hbB := hbA.trans (hb3.mono hbA.size)
      go_wp2
      refine bodyPost_ret (results_c2 rfl _ _ w.heap.size 30 #[.int .i64 1, .bool false, .string (str S1), .int .i64 V, .string ⟨#[]⟩] _ rfl (Bk.all5 HBz.out _ _ _ _ _) Tryz.underlying30 rfl (by kernel_rfl)) rfl ?_
      refine ⟨Tn.below hbB (Tn.all5 ..) (Nat.le_refl _) (Nat.le_refl _), Or.inr ⟨p1, HO.out, by rw [HF.out]; rfl⟩⟩
    · have HO : Hid (refDec ng kr (s.data.toList.drop kk) = some p2) := by
        unfold Hid
        rw [dec_some hp, hE1]; rfl
      obtain ⟨q1, q2, q3, q4, q5, q6⟩ := refE_keep hE1
      have ll2 := len_drop s (b + p1.stop)
      have HKD : Hid (p2.kind = 1) := q1.trans KP.kind
      have HDN : Hid (p2.den = []) := q3.trans KP.den
      have HAH : Hid (p2.ahead = p1.ahead) := q4
      have HBE : Hid (p2.behind = p1.behind) := q5
      have HEX : Hid (p2.expo = p2.expo) := rfl
      clear q1 q2 q3 q4 q5
      have hm4 : ((4 * p1.behind.length : Nat) : Int) = 4 * (p1.behind.length : Int) := by omega
      have ch := fun w => held9r_any (str p2.expo) (p1.behind.length) (by rw [str_size]; first | omega | simp) (by omega) w
      rw [str_list] at ch
      have HBb := HB1.out.later hb2
      generalize hS : bareR (p1.ahead ++ p1.behind) = S1 at *
      generalize hV : heldR (expoR p2.expo - ((p1.behind.length : Nat) : Int)) = V at *
      have HF : Hid (nmA { numR p2 with neg := false } = #[.int .i64 1, .bool false, .string (str S1), .int .i64 V, .string ⟨#[]⟩]) := by
        unfold Hid nmA numR
        simp only
        rw [HKD.out, HDN.out, HAH.out, HBE.out, hS, if_pos rfl]
        rw [← hV]
        rfl
      clear hS hV
      go_wp2_with fail
      refine (cb _).mono ?_
      rintro e w3 ⟨rfl, hb3⟩
      go_wp2_with fail
      refine (ch _).mono ?_
      rintro e w4 ⟨rfl, hw4⟩
      rw [hw4]
      have HBw := HBb.later hb3
      have z0 := HBw.cell 0 rfl
      have zf0 := HBw.frozen 0
      have z1 := HBw.cell 1 rfl
      have zf1 := HBw.frozen 1
      have z2 := HBw.cell 2 rfl
      have zf2 := HBw.frozen 2
      have z3 := HBw.cell 3 rfl
      have zf3 := HBw.frozen 3
      have z4 := HBw.cell 4 rfl
      have zf4 := HBw.frozen 4
      have HBz : Hid (Bk w3 w.heap.size 30 zero5) := HBw
      clear HBw
      have hbA := hb1.trans (hb2.mono hb1.size)
      have hbB := hbA.trans (hb3.mono hbA.size)
      go_wp2
      refine bodyPost_ret (results_c2 rfl _ _ w.heap.size 30 #[.int .i64 1, .bool false, .string (str S1), .int .i64 V, .string ⟨#[]⟩] _ rfl (Bk.all5 HBz.out _ _ _ _ _) Tryz.underlying30 rfl (by kernel_rfl)) rfl ?_
      refine ⟨Tn.below hbB (Tn.all5 ..) (Nat.le_refl _) (Nat.le_refl _), Or.inr ⟨p2, HO.out, by rw [HF.out]; rfl⟩⟩
end Go.Proofs.YtfgpjplfplbcdaaGreatDoor

/- Layer 9: the document's decimal, hexadecimal and rational. -/
namespace Go.Proofs.YtfgpjplfplbcdaaGreatDoor
open Go.ChangeShapes Go.WideShapes Go.ChangeAt Go.RowKit
open Lx
set_option linter.unusedVariables false
set_option maxHeartbeats 6400000 in
set_option maxRecDepth 100000 in
theorem hexa9_any (s : ByteArray) (kk kr b : Nat) (ng : Bool) (hs : s.size ≤ 3000000) (hk : kk ≤ s.size) (hb : kk = b + kr) (w : World) :
    Calls Tryz.prog 74 #[.string s, .int .i64 (kk : Int)] w (KindR w b (refHex ng kr (s.data.toList.drop kk))) := by
  have HB : Hid (Bk (w.alloc (.cells zero5 30)) w.heap.size 30 zero5) := Bk.new w 30 zero5
  have hb0 : Below w.heap.size w (w.alloc (.cells zero5 30)) := (Below.refl _ w).alloc (Nat.le_refl _) _
  obtain ⟨w1, hw1⟩ : ∃ w1, w1 = w.alloc (.cells zero5 30) := ⟨_, rfl⟩
  have HB1 : Hid (Bk w1 w.heap.size 30 zero5) := by rw [hw1]; exact HB
  have hb1 : Below w.heap.size w w1 := by rw [hw1]; exact hb0
  clear HB hb0
  have HKK : Hid (kk = b + kr) := hb
  clear hb
  by_cases hl : kk + 1 < s.size
  · have hli : ¬ (s.size : Int) ≤ (kk : Int) + 1 := by omega
    have hki : (kk : Int) < (s.size : Int) := by omega
    have hk1i : (kk : Int) + 1 < (s.size : Int) := by omega
    have hk0 : kk < s.size := by omega
    have e0 := (fst_at (cs := [48]) hk0).symm
    have e1 := (fst_at (cs := [120, 88]) hl).symm
    rw [has1] at e0
    rw [has2] at e1
    change ((((s[kk]'hk0).toNat : Nat) : Int) == 48) = _ at e0
    change (((((s[kk + 1]'hl).toNat : Nat) : Int) == 120) || ((((s[kk + 1]'hl).toNat : Nat) : Int) == 88)) = _ at e1
    have htl : (s.data.toList.drop kk).tail = s.data.toList.drop (kk + 1) := by rw [drop_cons_of hk0]; rfl
    have htl2 : (s.data.toList.drop kk).tail.tail = s.data.toList.drop (kk + 2) := by rw [htl, drop_cons_of hl]; rfl
    generalize hb0' : ((((s[kk]'hk0).toNat : Nat) : Int) == 48) = b0 at *
    generalize hb1' : ((((s[kk + 1]'hl).toNat : Nat) : Int) == 120) = b1 at *
    generalize hb2' : ((((s[kk + 1]'hl).toNat : Nat) : Int) == 88) = b2 at *
    have n0 : ((((s[kk]'hk0).toNat : Nat) : Int) != 48) = !b0 := by rw [← hb0']; rfl
    have n1 : ((((s[kk + 1]'hl).toNat : Nat) : Int) != 120) = !b1 := by rw [← hb1']; rfl
    have n2 : ((((s[kk + 1]'hl).toNat : Nat) : Int) != 88) = !b2 := by rw [← hb2']; rfl
    by_cases hx : (fst [48] (s.data.toList.drop kk) && fst [120, 88] (s.data.toList.drop kk).tail) = true
    · have hx0 := hx
      rw [Bool.and_eq_true, htl] at hx
      rw [hx.1] at e0
      rw [hx.2] at e1
      subst e0
      clear hx htl
      have c1 := fun w => parts9_any s (kk + 2) b true ⟨2, ng, [], [], [], [], kr + 2⟩ (by omega) (by omega) (show kk + 2 = b + (kr + 2) from by have := HKK.out; omega) w
      rw [show isX true = isH from by funext x; rfl] at c1
      have HX0 : Hid _ := hx0
      clear hx0
      have htl3 : Hid ((s.data.toList.drop kk).tail.tail = s.data.toList.drop (kk + 2)) := htl2
      clear htl2
      cases b1
      all_goals (try cases b2)
      all_goals (try (simp at e1; done))
      all_goals
        go_enter Tryz.func74, Tryz.ntmps74
        go_wp2_with fail
        rw [show w.alloc (.cells #[.int .i64 0, .bool false, .string ⟨#[]⟩, .int .i64 0, .string ⟨#[]⟩] 30) = w1 from hw1.symm]
        refine (c1 _).mono ?_
        rintro e w9 ⟨hw9, hr⟩
        rw [hw9]
        clear hw9
        have hx0 := HX0.out
        rcases hr with ⟨hp, x, y, z, rfl⟩ | ⟨p1, hp, hps, rfl⟩
        · rw [← htl3.out] at hp
          have HO : Hid (refHex ng kr (s.data.toList.drop kk) = none) := hex_none hx0 hp
          clear hx0 hp
          have HBw := HB1
          have hbw := hb1
          clear hw1
          have z0 := (HBw.out).cell 0 rfl
          have zf0 := (HBw.out).frozen 0
          have z1 := (HBw.out).cell 1 rfl
          have zf1 := (HBw.out).frozen 1
          have z2 := (HBw.out).cell 2 rfl
          have zf2 := (HBw.out).frozen 2
          have z3 := (HBw.out).cell 3 rfl
          have zf3 := (HBw.out).frozen 3
          have z4 := (HBw.out).cell 4 rfl
          have zf4 := (HBw.out).frozen 4
          go_wp2
          refine bodyPost_ret (results_c2 rfl _ _ w.heap.size 30 (nmA nmZ) _ rfl (Bk.all5 HBw.out _ _ _ _ _) Tryz.underlying30 rfl (by kernel_rfl)) rfl ?_
          refine ⟨Tn.below hbw (Tn.all5 ..) (Nat.le_refl _) (Nat.le_refl _), Or.inl ⟨HO.out, rfl⟩⟩
        · skip
          clear hw1
          have hp0 := hp
          have hp' := hp
          rw [← htl3.out] at hp'
          have KP := refParts_keep hp
          have l1 := KP.la
          have l2 := KP.lb
          have ll := len_drop s (kk + 2)
          have hsA : (str p1.ahead).size ≤ 3000000 := by rw [str_size]; omega
          have hsB : (str p1.behind).size = p1.behind.length := str_size _
          have hcat := cat_str p1.ahead p1.behind
          have cb := fun w => bare9_any (str (p1.ahead ++ p1.behind)) (by rw [str_size, List.length_append]; omega) w
          rw [str_list] at cb
          go_wp2_with fail
          refine (expo9_112 s (b + p1.stop) b p1 (by omega) hps rfl _).mono ?_
          rintro e w2 ⟨hb2, hE⟩
          rcases hE with ⟨hE0, rfl⟩ | ⟨p2, hE1, hE2, rfl⟩
          · have HO : Hid (refHex ng kr (s.data.toList.drop kk) = none) := by
              unfold Hid
              rw [hex_some hx0 hp', hE0]
            have HBw : Hid (Bk w2 w.heap.size 30 zero5) := HB1.out.later hb2
            have hbw := hb1.trans (hb2.mono hb1.size)
            have z0 := (HBw.out).cell 0 rfl
            have zf0 := (HBw.out).frozen 0
            have z1 := (HBw.out).cell 1 rfl
            have zf1 := (HBw.out).frozen 1
            have z2 := (HBw.out).cell 2 rfl
            have zf2 := (HBw.out).frozen 2
            have z3 := (HBw.out).cell 3 rfl
            have zf3 := (HBw.out).frozen 3
            have z4 := (HBw.out).cell 4 rfl
            have zf4 := (HBw.out).frozen 4
            go_wp2
            refine bodyPost_ret (results_c2 rfl _ _ w.heap.size 30 (nmA nmZ) _ rfl (Bk.all5 HBw.out _ _ _ _ _) Tryz.underlying30 rfl (by kernel_rfl)) rfl ?_
            refine ⟨Tn.below hbw (Tn.all5 ..) (Nat.le_refl _) (Nat.le_refl _), Or.inl ⟨HO.out, rfl⟩⟩
          · have HO : Hid (refHex ng kr (s.data.toList.drop kk) = some p2) := by
              unfold Hid
              rw [hex_some hx0 hp', hE1]
            obtain ⟨q1, q2, q3, q4, q5, q6⟩ := refE_keep hE1
            have ll2 := len_drop s (b + p1.stop)
            have HKD : Hid (p2.kind = 2) := q1.trans KP.kind
            have HDN : Hid (p2.den = []) := q3.trans KP.den
            have HAH : Hid (p2.ahead = p1.ahead) := q4
            have HBE : Hid (p2.behind = p1.behind) := q5
            have HEX : Hid (p2.expo = p2.expo) := rfl
            clear q1 q2 q3 q4 q5
            have hm4 : ((4 * p1.behind.length : Nat) : Int) = 4 * (p1.behind.length : Int) := by omega
            have ch := fun w => held9r_any (str p2.expo) (4 * p1.behind.length) (by rw [str_size]; first | omega | simp) (by omega) w
            rw [str_list] at ch
            have HBb := HB1.out.later hb2
            generalize hS : bareR (p1.ahead ++ p1.behind) = S1 at *
            generalize hV : heldR (expoR p2.expo - ((4 * p1.behind.length : Nat) : Int)) = V at *
            have HF : Hid (nmA { numR p2 with neg := false } = #[.int .i64 2, .bool false, .string (str S1), .int .i64 V, .string ⟨#[]⟩]) := by
              unfold Hid nmA numR
              simp only
              rw [HKD.out, HDN.out, HAH.out, HBE.out, hS, if_neg (show ¬ (2 : Int) = 1 from by decide), if_pos rfl, ← hm4]
              rw [← hV]
              rfl
            clear hS hV
            go_wp2_with fail
            refine (cb _).mono ?_
            rintro e w3 ⟨rfl, hb3⟩
            go_wp2_with fail
            refine (ch _).mono ?_
            rintro e w4 ⟨rfl, hw4⟩
            rw [hw4]
            have HBw := HBb.later hb3
            have z0 := HBw.cell 0 rfl
            have zf0 := HBw.frozen 0
            have z1 := HBw.cell 1 rfl
            have zf1 := HBw.frozen 1
            have z2 := HBw.cell 2 rfl
            have zf2 := HBw.frozen 2
            have z3 := HBw.cell 3 rfl
            have zf3 := HBw.frozen 3
            have z4 := HBw.cell 4 rfl
            have zf4 := HBw.frozen 4
            have HBz : Hid (Bk w3 w.heap.size 30 zero5) := HBw
            clear HBw
            have hbA := hb1.trans (hb2.mono hb1.size)
            have hbB := hbA.trans (hb3.mono hbA.size)
            go_wp2
            refine bodyPost_ret (results_c2 rfl _ _ w.heap.size 30 #[.int .i64 2, .bool false, .string (str S1), .int .i64 V, .string ⟨#[]⟩] _ rfl (Bk.all5 HBz.out _ _ _ _ _) Tryz.underlying30 rfl (by kernel_rfl)) rfl ?_
            refine ⟨Tn.below hbB (Tn.all5 ..) (Nat.le_refl _) (Nat.le_refl _), Or.inr ⟨p2, HO.out, by rw [HF.out]; rfl⟩⟩
    · have HO : Hid (refHex ng kr (s.data.toList.drop kk) = none) := by unfold Hid refHex; rw [if_neg hx]
      have hbb : b0 = false ∨ (b1 = false ∧ b2 = false) := by
        rw [htl, ← e0, ← e1] at hx
        cases b0 <;> cases b1 <;> cases b2 <;> simp at hx ⊢
      clear hx e0 e1 htl htl2
      cases b0
      all_goals (try cases b1)
      all_goals (try cases b2)
      all_goals (try (simp at hbb; done))
      all_goals
        clear hbb
        go_enter Tryz.func74, Tryz.ntmps74
        go_wp2
        refine bodyPost_ret (results_c2 rfl _ _ w.heap.size 30 (nmA nmZ) _ rfl (Bk.new w _ _) Tryz.underlying30 rfl (by kernel_rfl)) rfl ?_
        exact ⟨(Below.refl _ w).alloc (Nat.le_refl _) _, Or.inl ⟨HO.out, rfl⟩⟩
  · have hli : (s.size : Int) ≤ (kk : Int) + 1 := by omega
    have HO : Hid (refHex ng kr (s.data.toList.drop kk) = none) := by
      unfold Hid refHex
      rw [if_neg]
      intro h
      rw [Bool.and_eq_true] at h
      obtain ⟨hk0, _, htl⟩ := fst_drop_lt h.1
      rw [htl] at h
      exact absurd (fst_drop_lt h.2).1 hl
    clear hw1
    go_enter Tryz.func74, Tryz.ntmps74
    go_wp2
    refine bodyPost_ret (results_c2 rfl _ _ w.heap.size 30 (nmA nmZ) _ rfl (Bk.new w _ _) Tryz.underlying30 rfl (by kernel_rfl)) rfl ?_
    exact ⟨(Below.refl _ w).alloc (Nat.le_refl _) _, Or.inl ⟨HO.out, rfl⟩⟩
end Go.Proofs.YtfgpjplfplbcdaaGreatDoor

/- Layer 9: the document's rational; which kinds go together. -/
namespace Go.Proofs.YtfgpjplfplbcdaaGreatDoor
open Go.ChangeShapes Go.WideShapes Go.ChangeAt Go.RowKit
open Lx
set_option linter.unusedVariables false
namespace Lx
theorem hex_with {ng : Bool} {k : Nat} {l : B} {q : Pc} (h : refHex ng k l = some q) : ∃ p, refDec ng k l = some p ∧ p.stop < q.stop ∧ refRat ng k l = none := by
  have hc : (fst [48] l && fst [120, 88] l.tail) = true := by
    unfold refHex at h
    split at h
    · assumption
    · cases h
  obtain ⟨h1, h2⟩ := hex_zero hc
  have hx : fst [120, 88] (dkD l) = true := by rw [h2]; rw [Bool.and_eq_true] at hc; exact hc.2
  have hnp : ¬ fst [46] (l.dropWhile isD) = true := by rw [show fst [46] (l.dropWhile isD) = false from fst_not hx (dis [120, 88] [46] rfl)]; simp
  have hnn : ¬ l.takeWhile isD = [] := by rw [show l.takeWhile isD = [48] from h1]; simp
  have hd := dec_some (neg := ng) (k := k) (parts_plain _ hnp hnn)
  have hE : refE [101, 69] { (⟨1, ng, [], [], [], [], k⟩ : Pc) with ahead := l.takeWhile isD, behind := [], stop := k + (l.takeWhile isD).length } (l.dropWhile isD) = none := by
    unfold refE
    rw [if_neg]
    rw [show fst [101, 69] (l.dropWhile isD) = false from fst_not hx (dis [120, 88] [101, 69] rfl)]; simp
  rw [hE] at hd
  refine ⟨_, hd, ?_, ?_⟩
  · show k + (l.takeWhile isD).length < q.stop
    rw [show l.takeWhile isD = [48] from h1]
    unfold refHex at h
    rw [if_pos hc] at h
    split at h
    · cases h
    · rename_i p r hp
      have a1 := refParts_lt hp
      have a2 := refE_lt h
      simp only at a1
      show k + 1 < q.stop
      omega
  · unfold refRat
    rw [if_neg (show ¬ tkD l = [] from hnn), if_neg]
    rw [fst_not hx (dis [120, 88] [47] rfl)]; simp
theorem rat_with {ng : Bool} {k : Nat} {l : B} {q : Pc} (h : refRat ng k l = some q) : ∃ p, refDec ng k l = some p ∧ p.stop < q.stop ∧ refHex ng k l = none := by
  unfold refRat at h
  split at h
  · cases h
  · rename_i hnn
    split at h
    · rename_i hs
      split at h
      · cases h
      · cases h
        have hnp : ¬ fst [46] (l.dropWhile isD) = true := by rw [show fst [46] (l.dropWhile isD) = false from fst_not hs (dis [47] [46] rfl)]; simp
        have hd := dec_some (neg := ng) (k := k) (parts_plain _ hnp hnn)
        have hE : refE [101, 69] { (⟨1, ng, [], [], [], [], k⟩ : Pc) with ahead := l.takeWhile isD, behind := [], stop := k + (l.takeWhile isD).length } (l.dropWhile isD) = none := by
          unfold refE
          rw [if_neg]
          rw [show fst [101, 69] (l.dropWhile isD) = false from fst_not hs (dis [47] [101, 69] rfl)]; simp
        rw [hE] at hd
        refine ⟨_, hd, ?_, ?_⟩
        · show k + (l.takeWhile isD).length < k + (tkD l).length + 1 + (tkD (dkD l).tail).length
          show k + (tkD l).length < _
          omega
        · unfold refHex
          rw [if_neg]
          intro hc
          have h2 := (hex_zero hc).2
          rw [Bool.and_eq_true] at hc
          rw [h2] at hs
          have := fst_not hc.2 (dis [120, 88] [47] rfl)
          rw [hs] at this; cases this
    · cases h
theorem all_three (ng : Bool) (k : Nat) (l : B) :
    (refDec ng k l = none ∧ refHex ng k l = none ∧ refRat ng k l = none ∧ refAll ng k l = none) ∨
    (∃ p, refDec ng k l = some p ∧ refHex ng k l = none ∧ refRat ng k l = none ∧ refAll ng k l = some p) ∨
    (∃ p q, refDec ng k l = some p ∧ refHex ng k l = some q ∧ refRat ng k l = none ∧ p.stop < q.stop ∧ refAll ng k l = some q) ∨
    (∃ p q, refDec ng k l = some p ∧ refHex ng k l = none ∧ refRat ng k l = some q ∧ p.stop < q.stop ∧ refAll ng k l = some q) := by
  unfold refAll
  cases hh : refHex ng k l with
  | some q =>
    obtain ⟨p, h1, h2, h3⟩ := hex_with hh
    refine Or.inr (Or.inr (Or.inl ⟨p, q, h1, rfl, h3, h2, ?_⟩))
    rw [h1, h3]
    unfold better
    simp only
    rw [if_pos h2]
  | none =>
    cases hr : refRat ng k l with
    | some q =>
      obtain ⟨p, h1, h2, h3⟩ := rat_with hr
      refine Or.inr (Or.inr (Or.inr ⟨p, q, h1, rfl, rfl, h2, ?_⟩))
      rw [h1]
      unfold better
      simp only
      rw [if_pos h2]
    | none =>
      cases hd : refDec ng k l with
      | none => exact Or.inl ⟨rfl, rfl, rfl, rfl⟩
      | some p => exact Or.inr (Or.inl ⟨p, rfl, rfl, rfl, rfl⟩)
end Lx
set_option maxHeartbeats 6400000 in
set_option maxRecDepth 100000 in
theorem rat9_any (s : ByteArray) (kk kr b : Nat) (ng : Bool) (hs : s.size ≤ 3000000) (hk : kk ≤ s.size) (hb : kk = b + kr) (w : World) :
    Calls Tryz.prog 75 #[.string s, .int .i64 (kk : Int)] w (KindR w b (refRat ng kr (s.data.toList.drop kk))) := by
  have hb0 : Below w.heap.size w (w.alloc (.cells zero5 30)) := (Below.refl _ w).alloc (Nat.le_refl _) _
  have HB : Hid (Bk (w.alloc (.cells zero5 30)) w.heap.size 30 zero5) := Bk.new w 30 zero5
  have HKK : Hid (kk = b + kr) := hb
  clear hb
  have c1 := fun w => run9_any s kk false (by omega) hk w
  have hle := run_le9 (isX false) hk
  have hdr := drop_run s kk (isX false)
  have hx1 := run_ext (t := s) (k := kk) (isX false)
  have cb1 := fun w => bare9_any (str (tkD (s.data.toList.drop kk))) (by rw [str_size]; have := tkD_le (s.data.toList.drop kk); have := len_drop s kk; omega) w
  rw [str_list] at cb1
  change ∀ w, Calls Tryz.prog _ _ w (fun e w' => e = .returned (.int .i64 ((kk + (tkD (s.data.toList.drop kk)).length : Nat) : Int)) ∧ w' = w) at c1
  change kk + (tkD (s.data.toList.drop kk)).length ≤ s.size at hle
  change s.data.toList.drop (kk + (tkD (s.data.toList.drop kk)).length) = dkD (s.data.toList.drop kk) at hdr
  change s.extract kk (kk + (tkD (s.data.toList.drop kk)).length) = str (tkD (s.data.toList.drop kk)) at hx1
  have hR : refRat ng kr (s.data.toList.drop kk) = (if tkD (s.data.toList.drop kk) = [] then none else if fst [47] (dkD (s.data.toList.drop kk)) then (if tkD (dkD (s.data.toList.drop kk)).tail = [] then none else some ⟨3, ng, tkD (s.data.toList.drop kk), [], [], tkD (dkD (s.data.toList.drop kk)).tail, kr + (tkD (s.data.toList.drop kk)).length + 1 + (tkD (dkD (s.data.toList.drop kk)).tail).length⟩) else none) := rfl
  rw [← hdr] at hR
  clear hdr
  generalize tkD (s.data.toList.drop kk) = A at *
  generalize hM : kk + A.length = M at *
  have HM : Hid (kk + A.length = M) := hM
  clear hM
  have hMi : (M : Int) ≤ (s.size : Int) := by omega
  have hs2 : M ≤ 3000000 := by omega
  have hkM : (kk : Int) ≤ (M : Int) := by have := HM.out; omega
  have HR : Hid _ := hR
  clear hR
  by_cases hA : A = []
  · have HO : Hid (refRat ng kr (s.data.toList.drop kk) = none) := by unfold Hid; rw [HR.out, if_pos hA]
    have hme : M = kk := by rw [← HM.out, hA]; rfl
    have heq : ((M : Int) == (kk : Int)) = true := by rw [beq_iff_eq]; omega
    clear hA hme
    go_enter Tryz.func75, Tryz.ntmps75
    go_wp2_with fail
    refine (c1 _).mono ?_
    rintro e w1 ⟨rfl, hw1⟩
    have HB1 : Hid (Bk w1 w.heap.size 30 zero5) := by rw [hw1]; exact HB
    have hb1 : Below w.heap.size w w1 := by rw [hw1]; exact hb0
    clear hw1 HB hb0
    have z0 := (HB1.out).cell 0 rfl
    have zf0 := (HB1.out).frozen 0
    have z1 := (HB1.out).cell 1 rfl
    have zf1 := (HB1.out).frozen 1
    have z2 := (HB1.out).cell 2 rfl
    have zf2 := (HB1.out).frozen 2
    have z3 := (HB1.out).cell 3 rfl
    have zf3 := (HB1.out).frozen 3
    have z4 := (HB1.out).cell 4 rfl
    have zf4 := (HB1.out).frozen 4
    go_wp2
    refine bodyPost_ret (results_c2 rfl _ _ w.heap.size 30 (nmA nmZ) _ rfl (Bk.all5 HB1.out _ _ _ _ _) Tryz.underlying30 rfl (by kernel_rfl)) rfl ?_
    exact ⟨Tn.below hb1 (Tn.all5 ..) (Nat.le_refl _) (Nat.le_refl _), Or.inl ⟨HO.out, rfl⟩⟩
  · have hlA : A.length ≠ 0 := fun h => hA (List.length_eq_zero_iff.mp h)
    have heq : ((M : Int) == (kk : Int)) = false := beq_eq_false_iff_ne.2 (by have := HM.out; omega)
    by_cases hq : M < s.size
    · have hqi : ¬ (s.size : Int) ≤ (M : Int) := by omega
      have hqj : (M : Int) < (s.size : Int) := by omega
      have hf := (fst_at (cs := [47]) hq).symm
      rw [has1] at hf
      change ((((s[M]'hq).toNat : Nat) : Int) == 47) = _ at hf
      cases hsl : fst [47] (s.data.toList.drop M)
      · rw [hsl] at hf
        have HO : Hid (refRat ng kr (s.data.toList.drop kk) = none) := by unfold Hid; rw [HR.out, if_neg hA, hsl]; rfl
        have hn : ((((s[M]'hq).toNat : Nat) : Int) != 47) = true := by rw [bne, hf]; rfl
        clear hA hsl hlA
        go_enter Tryz.func75, Tryz.ntmps75
        go_wp2_with fail
        refine (c1 _).mono ?_
        rintro e w1 ⟨rfl, hw1⟩
        have HB1 : Hid (Bk w1 w.heap.size 30 zero5) := by rw [hw1]; exact HB
        have hb1 : Below w.heap.size w w1 := by rw [hw1]; exact hb0
        clear hw1 HB hb0
        have z0 := (HB1.out).cell 0 rfl
        have zf0 := (HB1.out).frozen 0
        have z1 := (HB1.out).cell 1 rfl
        have zf1 := (HB1.out).frozen 1
        have z2 := (HB1.out).cell 2 rfl
        have zf2 := (HB1.out).frozen 2
        have z3 := (HB1.out).cell 3 rfl
        have zf3 := (HB1.out).frozen 3
        have z4 := (HB1.out).cell 4 rfl
        have zf4 := (HB1.out).frozen 4
        go_wp2
        refine bodyPost_ret (results_c2 rfl _ _ w.heap.size 30 (nmA nmZ) _ rfl (Bk.all5 HB1.out _ _ _ _ _) Tryz.underlying30 rfl (by kernel_rfl)) rfl ?_
        exact ⟨Tn.below hb1 (Tn.all5 ..) (Nat.le_refl _) (Nat.le_refl _), Or.inl ⟨HO.out, rfl⟩⟩
      · rw [hsl] at hf
        have hn : ((((s[M]'hq).toNat : Nat) : Int) != 47) = false := by rw [bne, hf]; rfl
        have htl : (s.data.toList.drop M).tail = s.data.toList.drop (M + 1) := (fst_drop_lt hsl).2.2
        have hM1 : M + 1 ≤ s.size := by omega
        have c2 := fun w => run9_any s (M + 1) false (by omega) hM1 w
        have hle2 := run_le9 (isX false) hM1
        have hx2 := run_ext (t := s) (k := M + 1) (isX false)
        have cb2 := fun w => bare9_any (str (tkD (s.data.toList.drop (M + 1)))) (by rw [str_size]; have := tkD_le (s.data.toList.drop (M + 1)); have := len_drop s (M + 1); omega) w
        rw [str_list] at cb2
        change ∀ w, Calls Tryz.prog _ _ w (fun e w' => e = .returned (.int .i64 ((M + 1 + (tkD (s.data.toList.drop (M + 1))).length : Nat) : Int)) ∧ w' = w) at c2
        change M + 1 + (tkD (s.data.toList.drop (M + 1))).length ≤ s.size at hle2
        change s.extract (M + 1) (M + 1 + (tkD (s.data.toList.drop (M + 1))).length) = str (tkD (s.data.toList.drop (M + 1))) at hx2
        have hR2 := HR.out
        rw [if_neg hA, if_pos hsl, htl] at hR2
        clear htl
        generalize tkD (s.data.toList.drop (M + 1)) = C at *
        generalize hM2 : M + 1 + C.length = M2 at *
        have HM2 : Hid (M + 1 + C.length = M2) := hM2
        clear hM2
        have hM2i : (M2 : Int) ≤ (s.size : Int) := by omega
        have hkM2 : (M : Int) + 1 ≤ (M2 : Int) := by have := HM2.out; omega
        by_cases hC : C = []
        · have HO : Hid (refRat ng kr (s.data.toList.drop kk) = none) := by unfold Hid; rw [hR2, if_pos hC]
          have heq2 : ((M2 : Int) == (M : Int) + 1) = true := by
            have := HM2.out
            rw [hC] at this
            simp at this
            rw [beq_iff_eq]; omega
          clear hA hsl hlA hR2 hC
          go_enter Tryz.func75, Tryz.ntmps75
          go_wp2_with fail
          refine (c1 _).mono ?_
          rintro e w1 ⟨rfl, hw1⟩
          have HB1 : Hid (Bk w1 w.heap.size 30 zero5) := by rw [hw1]; exact HB
          have hb1 : Below w.heap.size w w1 := by rw [hw1]; exact hb0
          clear hw1 HB hb0
          go_wp2_with fail
          refine (c2 _).mono ?_
          rintro e w2 ⟨rfl, hw2⟩
          rw [hw2]
          have z0 := (HB1.out).cell 0 rfl
          have zf0 := (HB1.out).frozen 0
          have z1 := (HB1.out).cell 1 rfl
          have zf1 := (HB1.out).frozen 1
          have z2 := (HB1.out).cell 2 rfl
          have zf2 := (HB1.out).frozen 2
          have z3 := (HB1.out).cell 3 rfl
          have zf3 := (HB1.out).frozen 3
          have z4 := (HB1.out).cell 4 rfl
          have zf4 := (HB1.out).frozen 4
          go_wp2
          refine bodyPost_ret (results_c2 rfl _ _ w.heap.size 30 (nmA nmZ) _ rfl (Bk.all5 HB1.out _ _ _ _ _) Tryz.underlying30 rfl (by kernel_rfl)) rfl ?_
          exact ⟨Tn.below hb1 (Tn.all5 ..) (Nat.le_refl _) (Nat.le_refl _), Or.inl ⟨HO.out, rfl⟩⟩
        · have hO : refRat ng kr (s.data.toList.drop kk) = some ⟨3, ng, A, [], [], C, kr + A.length + 1 + C.length⟩ := by rw [hR2, if_neg hC]
          have hst : b + (kr + A.length + 1 + C.length) = M2 := by
            have a1 := HKK.out
            have a2 := HM.out
            have a3 := HM2.out
            omega
          have HST : Hid (b + (kr + A.length + 1 + C.length) = M2) := hst
          have HO : Hid (refRat ng kr (s.data.toList.drop kk) = some ⟨3, ng, A, [], [], C, kr + A.length + 1 + C.length⟩) := hO
          have heq2 : ((M2 : Int) == (M : Int) + 1) = false := beq_eq_false_iff_ne.2 (by
            have := HM2.out
            have : C.length ≠ 0 := fun h => hC (List.length_eq_zero_iff.mp h)
            omega)
          clear hA hsl hlA hR2 hC hO hst
          have HF : Hid (nmA { numR ⟨3, ng, A, [], [], C, kr + A.length + 1 + C.length⟩ with neg := false } = #[.int .i64 3, .bool false, .string (str (bareR A)), .int .i64 0, .string (str (bareR C))]) := by
            unfold Hid nmA numR
            simp only
            rw [List.append_nil]
            rfl
          generalize bareR A = SA at *
          generalize bareR C = SC at *
          generalize hAA : str A = AA at *
          generalize hCC : str C = CC at *
          clear hAA hCC
          go_enter Tryz.func75, Tryz.ntmps75
          go_wp2_with fail
          refine (c1 _).mono ?_
          rintro e w1 ⟨rfl, hw1⟩
          have HB1 : Hid (Bk w1 w.heap.size 30 zero5) := by rw [hw1]; exact HB
          have hb1 : Below w.heap.size w w1 := by rw [hw1]; exact hb0
          clear hw1 HB hb0
          go_wp2_with fail
          refine (c2 _).mono ?_
          rintro e w2 ⟨rfl, hw2⟩
          rw [hw2]
          clear hw2
          go_wp2_with fail
          have g1 : (0 : Int) ≤ (M : Int) + 1 := by omega
          have g2 : ((M : Int) + 1).toNat = M + 1 := by omega
          have g3 : IntKind.i64.wrap ((M : Int) + 1) = (M : Int) + 1 := wrapI (by omega) (by omega)
          have g4 : ((M : Int) + 1 < 0) = False := eq_false (by omega)
          have g5 : ((M : Int) + 1 ≤ (M2 : Int)) = True := eq_true hkM2
          have g6 : ((M2 : Int) < (M : Int) + 1) = False := eq_false (by omega)
          have g7 : (M + 1 ≤ M2) = True := eq_true (by omega)
          have g8 : (M2 ≤ s.size) = True := eq_true (by omega)
          go_region_held3 (fun _ => True) (go_keep) (first | (go_at_call_of 96 AA; refine (cb1 _).mono ?_; rintro e wX ⟨rfl, hbX⟩; have hBX : Below w1.heap.size w1 wX := (by first | exact hbX | exact (below_drewN (Below.refl _ w1) _).trans (hbX.mono (Nat.le_refl _)))) | (go_at_call 96; refine (cb2 _).mono ?_; rintro e wY ⟨rfl, hbY⟩; have hBY : Below w1.heap.size w1 wY := (by first | exact hBX.trans (hbY.mono hBX.size) | exact (below_drewN hBX _).trans (hbY.mono hBX.size)); have B3 := HB1.out.later hBY; have z0 := B3.cell 0 rfl; have zf0 := B3.frozen 0; have z1 := B3.cell 1 rfl; have zf1 := B3.frozen 1; have z2 := B3.cell 2 rfl; have zf2 := B3.frozen 2; have z3 := B3.cell 3 rfl; have zf3 := B3.frozen 3; have z4 := B3.cell 4 rfl; have zf4 := B3.frozen 4))
          go_wp2
          refine bodyPost_ret (results_c2 rfl _ _ w.heap.size 30 #[.int .i64 3, .bool false, .string (str SA), .int .i64 0, .string (str SC)] _ rfl (Bk.all5 (HB1.out.later hBY) _ _ _ _ _) Tryz.underlying30 rfl (by kernel_rfl)) rfl ?_
          refine ⟨Tn.below (hb1.trans (hBY.mono hb1.size)) (Tn.all5 ..) (Nat.le_refl _) (Nat.le_refl _), Or.inr ⟨_, HO.out, ?_⟩⟩
          rw [HF.out, HST.out]; rfl
    · have hqi : (s.size : Int) ≤ (M : Int) := by omega
      have HO : Hid (refRat ng kr (s.data.toList.drop kk) = none) := by unfold Hid; rw [HR.out, if_neg hA, fst_end hq]; rfl
      clear hA hlA
      go_enter Tryz.func75, Tryz.ntmps75
      go_wp2_with fail
      refine (c1 _).mono ?_
      rintro e w1 ⟨rfl, hw1⟩
      have HB1 : Hid (Bk w1 w.heap.size 30 zero5) := by rw [hw1]; exact HB
      have hb1 : Below w.heap.size w w1 := by rw [hw1]; exact hb0
      clear hw1 HB hb0
      have z0 := (HB1.out).cell 0 rfl
      have zf0 := (HB1.out).frozen 0
      have z1 := (HB1.out).cell 1 rfl
      have zf1 := (HB1.out).frozen 1
      have z2 := (HB1.out).cell 2 rfl
      have zf2 := (HB1.out).frozen 2
      have z3 := (HB1.out).cell 3 rfl
      have zf3 := (HB1.out).frozen 3
      have z4 := (HB1.out).cell 4 rfl
      have zf4 := (HB1.out).frozen 4
      go_wp2
      refine bodyPost_ret (results_c2 rfl _ _ w.heap.size 30 (nmA nmZ) _ rfl (Bk.all5 HB1.out _ _ _ _ _) Tryz.underlying30 rfl (by kernel_rfl)) rfl ?_
      exact ⟨Tn.below hb1 (Tn.all5 ..) (Nat.le_refl _) (Nat.le_refl _), Or.inl ⟨HO.out, rfl⟩⟩
end Go.Proofs.YtfgpjplfplbcdaaGreatDoor

/- Layer 9: the document's Scan. -/
namespace Go.Proofs.YtfgpjplfplbcdaaGreatDoor
open Go.ChangeShapes Go.WideShapes Go.ChangeAt Go.RowKit
open Lx
set_option linter.unusedVariables false
namespace Lx
theorem dec_neg {ng : Bool} {k : Nat} {l : B} {p : Pc} (h : refDec ng k l = some p) : p.neg = ng := by
  unfold refDec at h
  split at h
  · cases h
  · rename_i q r hp
    have a1 := (refParts_keep hp).neg
    cases h
    cases hE : refE [101, 69] q r with
    | none => exact a1
    | some p2 => exact (refE_keep hE).2.1.trans a1
theorem hex_neg {ng : Bool} {k : Nat} {l : B} {p : Pc} (h : refHex ng k l = some p) : p.neg = ng := by
  unfold refHex at h
  split at h
  · split at h
    · cases h
    · rename_i q r hp
      exact (refE_keep h).2.1.trans (refParts_keep hp).neg
  · cases h
theorem rat_neg {ng : Bool} {k : Nat} {l : B} {p : Pc} (h : refRat ng k l = some p) : p.neg = ng := by
  unfold refRat at h
  split at h
  · cases h
  · split at h
    · split at h
      · cases h
      · cases h; rfl
    · cases h
/-- a numeral's cells with a sign -/
def nmF (n : Nm) (b : Bool) : Array Value := #[.int .i64 n.kind, .bool b, .string (str n.num), .int .i64 n.exp, .string (str n.den)]
theorem KindR.some {w : World} {b : Nat} {o : Option Pc} {p : Pc} {e : Ending} {w' : World} (h : KindR w b o e w') (ho : o = Option.some p) : Below w.heap.size w w' ∧ e = .returned (.tuple #[.agg (nmF (numR p) false), .int .i64 ((b + p.stop : Nat) : Int), .bool true]) := by
  obtain ⟨hb, ⟨h1, _⟩ | ⟨q, h1, h2⟩⟩ := h
  · rw [ho] at h1; cases h1
  · rw [ho] at h1; cases h1; exact ⟨hb, h2⟩
theorem KindR.none {w : World} {b : Nat} {o : Option Pc} {e : Ending} {w' : World} (h : KindR w b o e w') (ho : o = Option.none) : Below w.heap.size w w' ∧ e = .returned (.tuple #[.agg zero5, .int .i64 0, .bool false]) := by
  obtain ⟨hb, ⟨_, h2⟩ | ⟨q, h1, _⟩⟩ := h
  · exact ⟨hb, h2⟩
  · rw [ho] at h1; cases h1
theorem Bk.set_ne {w : World} {g g' i : Nat} {t : TypeId} {vs : Array Value} {v : Value} (h : Bk w g t vs) (hn : g ≠ g') : Bk (w.setCell ⟨g', i, Option.none⟩ v) g t vs := h.tn ((Tn.refl g' w).set i v) hn
theorem Bk.six {w : World} {g : Nat} {t : TypeId} {x0 x1 x2 x3 x4 : Value} (h : Bk w g t #[x0, x1, x2, x3, x4]) (a b c d e b' : Value) : Bk ((((((w.setCell ⟨g, 0, Option.none⟩ a).setCell ⟨g, 1, Option.none⟩ b).setCell ⟨g, 2, Option.none⟩ c).setCell ⟨g, 3, Option.none⟩ d).setCell ⟨g, 4, Option.none⟩ e).setCell ⟨g, 1, Option.none⟩ b') g t #[a, b', c, d, e] :=
  Bk.set (Bk.set (Bk.set (Bk.set (Bk.set (Bk.set h 0 a) 1 b) 2 c) 3 d) 4 e) 1 b'
theorem below_set {n : Nat} {a w : World} {g i : Nat} {v : Value} (h : Below n a w) (hg : n ≤ g) (hn : n ≤ a.heap.size) : Below n a (w.setCell ⟨g, i, Option.none⟩ v) := Tn.below h ((Tn.refl g w).set i v) hg hn
theorem results_c3 {P : Program} {fn : Func} {p u v x : Tmp} {ty : TypeId} (h : fn.results = #[.cell p ty, .tmp u, .tmp v, .tmp x]) (tmps : Array Value) (w : World) (g : Nat) (t : TypeId) (cs : Array Value) (d : TypeDesc)
    (hp : tmps.getD p undef = .pointer (Option.some ⟨g, 0, Option.none⟩)) (hg : Bk w g t cs)
    (hu : P.underlying ty = Option.some d) (hd : (match d with | .struct _ | .array _ _ => true | _ => false) = true) (hi : (P.info? ty).map (·.size) = Option.some cs.size) :
    (results fn tmps).run P w = .ok (.tuple #[.agg cs, tmps.getD u undef, tmps.getD v undef, tmps.getD x undef]) w := by
  have hp' : tmps[p]?.getD undef = .pointer (Option.some ⟨g, 0, Option.none⟩) := by simpa using hp
  simp [results, h, hp', asAddr, run_loadVar_row w g t ty cs (0, 0) d hg hu hd hi, Result.andThen]
/-- what the document's Scan answers -/
def RScanR (w : World) (f : Nat) (o : Option Pc) (e : Ending) (w' : World) : Prop :=
  Below w.heap.size w w' ∧ ((o = Option.none ∧ e = .returned (.tuple #[.agg (nmA nmZ), .int .i64 0, .int .i64 90, .int .i64 (f : Int)])) ∨ (∃ p, o = Option.some p ∧ e = .returned (.tuple #[.agg (nmA (numR p)), .int .i64 ((f + p.stop : Nat) : Int), .int .i64 0, .int .i64 (-1)])))
end Lx
set_option maxHeartbeats 12800000 in
set_option maxRecDepth 100000 in
theorem rscan9_no (s : ByteArray) (f : Nat) (hs : s.size ≤ 3000000) (hsm : s.size ≤ f + 65536) (hf : f ≤ s.size) (w : World) (hsg : fst [43, 45] (s.data.toList.drop f) = false) :
    Calls Tryz.prog 61 #[.string s, .int .i64 (f : Int)] w (RScanR w f (refAll false 0 (s.data.toList.drop f))) := by
  have hb0' : Below w.heap.size w (w.alloc (.cells zero5 30)) := (Below.refl _ w).alloc (Nat.le_refl _) _
  have HB0' := Bk.new w 30 zero5
  obtain ⟨w0, hw0⟩ : ∃ w0, w0 = w.alloc (.cells zero5 30) := ⟨_, rfl⟩
  obtain ⟨g4, hg4⟩ : ∃ g4, w.heap.size = g4 := ⟨_, rfl⟩
  have HW0 : Hid (w0 = w.alloc (.cells zero5 30)) := hw0
  have HG4 : Hid (w.heap.size = g4) := hg4
  rw [← hw0] at hb0' HB0'
  rw [hg4] at hb0' HB0'
  have hb0 := hb0'
  have HB0 : Hid (Bk w0 g4 30 zero5) := HB0'
  clear hw0 hg4 hb0' HB0'
  have hfi : ¬ (f : Int) < 0 := by omega
  have hfj : ¬ (s.size : Int) < (f : Int) := by omega
  have hbig : ¬ (65536 : Int) < (s.size : Int) - (f : Int) := by omega
  have hkk : f ≤ s.size := hf
  have hkb : f = f + 0 := rfl
  by_cases hlt0 : f < s.size
  · have hli : (f : Int) < (s.size : Int) := by omega
    have csg := sign9_any (s[f]'hlt0)
    rw [← fst_at hlt0, hsg] at csg
    clear hsg
    rcases all_three false 0 (s.data.toList.drop f) with ⟨hd, hh, hr, ho⟩ | ⟨p, hd, hh, hr, ho⟩ | ⟨p, q, hd, hh, hr, hlt, ho⟩ | ⟨p, q, hd, hh, hr, hlt, ho⟩
    · skip
      have cD := fun w => (dec9_any s f 0 f false hs hkk hkb w).mono (fun e w' h => h.none hd)
      have cH := fun w => (hexa9_any s f 0 f false hs hkk hkb w).mono (fun e w' h => h.none hh)
      have cR := fun w => (rat9_any s f 0 f false hs hkk hkb w).mono (fun e w' h => h.none hr)
      have HO : Hid _ := ho
      clear ho hd hh hr hkb
      unfold zero5 at cD
      unfold zero5 at cH
      unfold zero5 at cR
      go_enter Tryz.func61, Tryz.ntmps61
      go_wp2_with (go_at_call 72; refine (csg _).mono ?_; rintro e w' ⟨rfl, hw⟩; rw [hw])
      rw [show w.alloc (.cells #[.int .i64 0, .bool false, .string ⟨#[]⟩, .int .i64 0, .string ⟨#[]⟩] 30) = w0 from HW0.out.symm, show w.heap.size = g4 from HG4.out]
      refine (cD _).mono ?_
      rintro e w1 ⟨hb1, rfl⟩
      have B14 := HB0.out.later hb1
      have hbA := hb0.trans (hb1.mono (by rw [← HG4.out]; exact hb0.size))
      have BN := Bk.new w1 30 zero5
      have hbn : Below w1.heap.size w1 (w1.alloc (.cells zero5 30)) := (Below.refl _ w1).alloc (Nat.le_refl _) _
      have B24 := B14.later hbn
      have hl4 := B14.lt
      have hbX : g4 ≤ w1.heap.size := Nat.le_of_lt hl4
      obtain ⟨g10, hg10⟩ : ∃ g10, g10 = w1.heap.size := ⟨_, rfl⟩
      have hbB := hbA.trans (hbn.mono hbX)
      clear hbX
      unfold zero5 at BN hbn hbB B24
      go_wp2_with fail
      obtain ⟨wa, hwa⟩ : ∃ wa, wa = w1.alloc (.cells #[.int .i64 0, .bool false, .string ⟨#[]⟩, .int .i64 0, .string ⟨#[]⟩] 30) := ⟨_, rfl⟩
      rw [← hwa, ← hg10]
      rw [← hwa] at BN hbB B24
      rw [← hg10] at BN hl4
      clear hwa hbn B14 hb1 hg10
      refine (cH _).mono ?_
      rintro e w2 ⟨hb2, rfl⟩
      have C4 := B24.later hb2
      have C10 := BN.later hb2
      have hbC := hbB.trans (hb2.mono (by have := B24.lt; omega))
      have hl10 := C10.lt
      have ne1 : ¬ g4 = g10 := by omega
      have ne2 : ¬ g10 = g4 := by omega
      obtain ⟨g13, hg13⟩ : ∃ g13, g13 = w2.heap.size := ⟨_, rfl⟩
      have ne3 : ¬ g10 = g13 := by omega
      have ne4 : ¬ g13 = g10 := by omega
      have ne5 : ¬ g4 = g13 := by omega
      have ne6 : ¬ g13 = g4 := by omega
      have le13 : g4 ≤ g13 := by omega
      have le10 : g4 ≤ g10 := by omega
      have HG13 : Hid (g13 = w2.heap.size) := hg13
      have h13 : w2.heap.size = g13 := hg13.symm
      clear B24 BN hb2 hbB hg13
      have t0 := C10.cell 0 rfl
      have tf0 := C10.frozen 0
      have t1 := C10.cell 1 rfl
      have tf1 := C10.frozen 1
      have t2 := C10.cell 2 rfl
      have tf2 := C10.frozen 2
      have t3 := C10.cell 3 rfl
      have tf3 := C10.frozen 3
      have t4 := C10.cell 4 rfl
      have tf4 := C10.frozen 4
      clear h13
      go_wp2_with fail
      have hg13 := HG13.out
      try rw [← hg13]
      have D10 := C10
      have D4 := C4
      have hbD := hbC
      obtain ⟨w5, hw5⟩ : ∃ w5, w5 = w2 := ⟨_, rfl⟩
      rw [← hw5]
      rw [← hw5] at D10 D4 hbD hg13
      clear hw5
      have hbm : Below w5.heap.size w5 (w5.alloc (.cells #[.int .i64 0, .bool false, .string ⟨#[]⟩, .int .i64 0, .string ⟨#[]⟩] 30)) := (Below.refl _ w5).alloc (Nat.le_refl _) _
      have E13 := Bk.new w5 30 #[.int .i64 0, .bool false, .string ⟨#[]⟩, .int .i64 0, .string ⟨#[]⟩]
      rw [← hg13] at E13
      clear hg13 HG13
      have E10 := D10.later hbm
      have E4 := D4.later hbm
      have hbE := hbD.trans (hbm.mono (by have := D4.lt; omega))
      generalize w5.alloc (.cells #[.int .i64 0, .bool false, .string ⟨#[]⟩, .int .i64 0, .string ⟨#[]⟩] 30) = w6 at *
      refine (cR _).mono ?_
      rintro e w3 ⟨hb3, rfl⟩
      have F13 := E13.later hb3
      have F10 := E10.later hb3
      have F4 := E4.later hb3
      have hbF := hbE.trans (hb3.mono (by have := E4.lt; omega))
      clear E13 E10 E4 hb3 hbE D10 D4 hbD hbm C10 C4 hbC
      have x0 := F13.cell 0 rfl
      have xf0 := F13.frozen 0
      have x1 := F13.cell 1 rfl
      have xf1 := F13.frozen 1
      have x2 := F13.cell 2 rfl
      have xf2 := F13.frozen 2
      have x3 := F13.cell 3 rfl
      have xf3 := F13.frozen 3
      have x4 := F13.cell 4 rfl
      have xf4 := F13.frozen 4
      have y0 := F10.cell 0 rfl
      have yf0 := F10.frozen 0
      have y1 := F10.cell 1 rfl
      have yf1 := F10.frozen 1
      have y2 := F10.cell 2 rfl
      have yf2 := F10.frozen 2
      have y3 := F10.cell 3 rfl
      have yf3 := F10.frozen 3
      have y4 := F10.cell 4 rfl
      have yf4 := F10.frozen 4
      have z0 := F4.cell 0 rfl
      have zf0 := F4.frozen 0
      have z1 := F4.cell 1 rfl
      have zf1 := F4.frozen 1
      have z2 := F4.cell 2 rfl
      have zf2 := F4.frozen 2
      have z3 := F4.cell 3 rfl
      have zf3 := F4.frozen 3
      have z4 := F4.cell 4 rfl
      have zf4 := F4.frozen 4
      have HF4 : Hid (Bk w3 g4 30 zero5) := F4
      clear F4 F10 F13
      go_wp2
      have HBF : Hid (Below g4 w w3) := hbF
      refine bodyPost_ret (results_c3 rfl _ _ g4 30 (nmA nmZ) _ rfl (Bk.all5 (by (repeat (refine Bk.set_ne ?_ (by assumption))); exact HF4.out) _ _ _ _ _) Tryz.underlying30 rfl (by kernel_rfl)) rfl ?_
      refine ⟨?_, ?_⟩
      · rw [HG4.out]
        refine below_set (below_set (below_set (below_set (below_set ?_ (Nat.le_refl _) (by rw [HG4.out]; exact Nat.le_refl _)) (Nat.le_refl _) (by rw [HG4.out]; exact Nat.le_refl _)) (Nat.le_refl _) (by rw [HG4.out]; exact Nat.le_refl _)) (Nat.le_refl _) (by rw [HG4.out]; exact Nat.le_refl _)) (Nat.le_refl _) (by rw [HG4.out]; exact Nat.le_refl _)
        repeat (refine below_set ?_ (by omega) (by rw [HG4.out]; exact Nat.le_refl _))
        exact HBF.out
      · exact Or.inl ⟨HO.out, rfl⟩
    · skip
      have cD := fun w => (dec9_any s f 0 f false hs hkk hkb w).mono (fun e w' h => h.some hd)
      have cH := fun w => (hexa9_any s f 0 f false hs hkk hkb w).mono (fun e w' h => h.none hh)
      have cR := fun w => (rat9_any s f 0 f false hs hkk hkb w).mono (fun e w' h => h.none hr)
      have hng := dec_neg hd
      generalize hn1 : numR p = n1 at *
      have HN : Hid (nmA (numR p) = nmF n1 false) := by unfold Hid; rw [hn1]; unfold nmA nmF; rw [← hn1]; show _ = #[_, _, _, _, _]; rw [← hng]; rfl
      clear hn1 hng
      have HO : Hid _ := ho
      clear ho hd hh hr hkb
      generalize hE1 : f + p.stop = E1 at *
      have HE1 : Hid (f + p.stop = E1) := hE1
      clear hE1
      unfold nmF at cD
      unfold zero5 at cH
      unfold zero5 at cR
      go_enter Tryz.func61, Tryz.ntmps61
      go_wp2_with (go_at_call 72; refine (csg _).mono ?_; rintro e w' ⟨rfl, hw⟩; rw [hw])
      rw [show w.alloc (.cells #[.int .i64 0, .bool false, .string ⟨#[]⟩, .int .i64 0, .string ⟨#[]⟩] 30) = w0 from HW0.out.symm, show w.heap.size = g4 from HG4.out]
      refine (cD _).mono ?_
      rintro e w1 ⟨hb1, rfl⟩
      have B14 := HB0.out.later hb1
      have hbA := hb0.trans (hb1.mono (by rw [← HG4.out]; exact hb0.size))
      have BN := Bk.new w1 30 (nmF n1 false)
      have hbn : Below w1.heap.size w1 (w1.alloc (.cells (nmF n1 false) 30)) := (Below.refl _ w1).alloc (Nat.le_refl _) _
      have B24 := B14.later hbn
      have hl4 := B14.lt
      have hbX : g4 ≤ w1.heap.size := Nat.le_of_lt hl4
      obtain ⟨g10, hg10⟩ : ∃ g10, g10 = w1.heap.size := ⟨_, rfl⟩
      have hbB := hbA.trans (hbn.mono hbX)
      clear hbX
      unfold nmF at BN hbn hbB B24
      go_wp2_with fail
      obtain ⟨wa, hwa⟩ : ∃ wa, wa = w1.alloc (.cells #[.int .i64 n1.kind, .bool false, .string (str n1.num), .int .i64 n1.exp, .string (str n1.den)] 30) := ⟨_, rfl⟩
      rw [← hwa, ← hg10]
      rw [← hwa] at BN hbB B24
      rw [← hg10] at BN hl4
      clear hwa hbn B14 hb1 hg10
      refine (cH _).mono ?_
      rintro e w2 ⟨hb2, rfl⟩
      have C4 := B24.later hb2
      have C10 := BN.later hb2
      have hbC := hbB.trans (hb2.mono (by have := B24.lt; omega))
      have hl10 := C10.lt
      have ne1 : ¬ g4 = g10 := by omega
      have ne2 : ¬ g10 = g4 := by omega
      obtain ⟨g13, hg13⟩ : ∃ g13, g13 = w2.heap.size := ⟨_, rfl⟩
      have ne3 : ¬ g10 = g13 := by omega
      have ne4 : ¬ g13 = g10 := by omega
      have ne5 : ¬ g4 = g13 := by omega
      have ne6 : ¬ g13 = g4 := by omega
      have le13 : g4 ≤ g13 := by omega
      have le10 : g4 ≤ g10 := by omega
      have HG13 : Hid (g13 = w2.heap.size) := hg13
      have h13 : w2.heap.size = g13 := hg13.symm
      clear B24 BN hb2 hbB hg13
      have t0 := C10.cell 0 rfl
      have tf0 := C10.frozen 0
      have t1 := C10.cell 1 rfl
      have tf1 := C10.frozen 1
      have t2 := C10.cell 2 rfl
      have tf2 := C10.frozen 2
      have t3 := C10.cell 3 rfl
      have tf3 := C10.frozen 3
      have t4 := C10.cell 4 rfl
      have tf4 := C10.frozen 4
      clear h13
      go_wp2_with fail
      have hg13 := HG13.out
      try rw [← hg13]
      have D10 := C10
      have D4 := C4
      have hbD := hbC
      obtain ⟨w5, hw5⟩ : ∃ w5, w5 = w2 := ⟨_, rfl⟩
      rw [← hw5]
      rw [← hw5] at D10 D4 hbD hg13
      clear hw5
      have hbm : Below w5.heap.size w5 (w5.alloc (.cells #[.int .i64 0, .bool false, .string ⟨#[]⟩, .int .i64 0, .string ⟨#[]⟩] 30)) := (Below.refl _ w5).alloc (Nat.le_refl _) _
      have E13 := Bk.new w5 30 #[.int .i64 0, .bool false, .string ⟨#[]⟩, .int .i64 0, .string ⟨#[]⟩]
      rw [← hg13] at E13
      clear hg13 HG13
      have E10 := D10.later hbm
      have E4 := D4.later hbm
      have hbE := hbD.trans (hbm.mono (by have := D4.lt; omega))
      generalize w5.alloc (.cells #[.int .i64 0, .bool false, .string ⟨#[]⟩, .int .i64 0, .string ⟨#[]⟩] 30) = w6 at *
      refine (cR _).mono ?_
      rintro e w3 ⟨hb3, rfl⟩
      have F13 := E13.later hb3
      have F10 := E10.later hb3
      have F4 := E4.later hb3
      have hbF := hbE.trans (hb3.mono (by have := E4.lt; omega))
      clear E13 E10 E4 hb3 hbE D10 D4 hbD hbm C10 C4 hbC
      have x0 := F13.cell 0 rfl
      have xf0 := F13.frozen 0
      have x1 := F13.cell 1 rfl
      have xf1 := F13.frozen 1
      have x2 := F13.cell 2 rfl
      have xf2 := F13.frozen 2
      have x3 := F13.cell 3 rfl
      have xf3 := F13.frozen 3
      have x4 := F13.cell 4 rfl
      have xf4 := F13.frozen 4
      have y0 := F10.cell 0 rfl
      have yf0 := F10.frozen 0
      have y1 := F10.cell 1 rfl
      have yf1 := F10.frozen 1
      have y2 := F10.cell 2 rfl
      have yf2 := F10.frozen 2
      have y3 := F10.cell 3 rfl
      have yf3 := F10.frozen 3
      have y4 := F10.cell 4 rfl
      have yf4 := F10.frozen 4
      have z0 := F4.cell 0 rfl
      have zf0 := F4.frozen 0
      have z1 := F4.cell 1 rfl
      have zf1 := F4.frozen 1
      have z2 := F4.cell 2 rfl
      have zf2 := F4.frozen 2
      have z3 := F4.cell 3 rfl
      have zf3 := F4.frozen 3
      have z4 := F4.cell 4 rfl
      have zf4 := F4.frozen 4
      have HF4 : Hid (Bk w3 g4 30 zero5) := F4
      clear F4 F10 F13
      go_wp2
      have HBF : Hid (Below g4 w w3) := hbF
      refine bodyPost_ret (results_c3 rfl _ _ g4 30 (nmF n1 false) _ rfl (Bk.all5 (by (repeat (refine Bk.set_ne ?_ (by assumption))); exact HF4.out) _ _ _ _ _) Tryz.underlying30 rfl (by kernel_rfl)) rfl ?_
      refine ⟨?_, ?_⟩
      · rw [HG4.out]
        refine below_set (below_set (below_set (below_set (below_set ?_ (Nat.le_refl _) (by rw [HG4.out]; exact Nat.le_refl _)) (Nat.le_refl _) (by rw [HG4.out]; exact Nat.le_refl _)) (Nat.le_refl _) (by rw [HG4.out]; exact Nat.le_refl _)) (Nat.le_refl _) (by rw [HG4.out]; exact Nat.le_refl _)) (Nat.le_refl _) (by rw [HG4.out]; exact Nat.le_refl _)
        repeat (refine below_set ?_ (by omega) (by rw [HG4.out]; exact Nat.le_refl _))
        exact HBF.out
      · exact Or.inr ⟨p, HO.out, by rw [HN.out, HE1.out]; rfl⟩
    · skip
      have cD := fun w => (dec9_any s f 0 f false hs hkk hkb w).mono (fun e w' h => h.some hd)
      have cH := fun w => (hexa9_any s f 0 f false hs hkk hkb w).mono (fun e w' h => h.some hh)
      have cR := fun w => (rat9_any s f 0 f false hs hkk hkb w).mono (fun e w' h => h.none hr)
      have hng := hex_neg hh
      generalize hn0 : numR p = n1 at *
      generalize hn1 : numR q = n2 at *
      have HN : Hid (nmA (numR q) = nmF n2 false) := by unfold Hid; rw [hn1]; unfold nmA nmF; rw [← hn1]; show _ = #[_, _, _, _, _]; rw [← hng]; rfl
      clear hn0
      clear hn1 hng
      have hgt : ((f + p.stop : Nat) : Int) < ((f + q.stop : Nat) : Int) := by omega
      have HO : Hid _ := ho
      clear ho hd hh hr hkb
      generalize hE1 : f + p.stop = E1 at *
      generalize hE2 : f + q.stop = E2 at *
      have HE1 : Hid (f + p.stop = E1) := hE1
      clear hE1
      have HE2 : Hid (f + q.stop = E2) := hE2
      clear hE2
      unfold nmF at cD
      unfold nmF at cH
      unfold zero5 at cR
      go_enter Tryz.func61, Tryz.ntmps61
      go_wp2_with (go_at_call 72; refine (csg _).mono ?_; rintro e w' ⟨rfl, hw⟩; rw [hw])
      rw [show w.alloc (.cells #[.int .i64 0, .bool false, .string ⟨#[]⟩, .int .i64 0, .string ⟨#[]⟩] 30) = w0 from HW0.out.symm, show w.heap.size = g4 from HG4.out]
      refine (cD _).mono ?_
      rintro e w1 ⟨hb1, rfl⟩
      have B14 := HB0.out.later hb1
      have hbA := hb0.trans (hb1.mono (by rw [← HG4.out]; exact hb0.size))
      have BN := Bk.new w1 30 (nmF n1 false)
      have hbn : Below w1.heap.size w1 (w1.alloc (.cells (nmF n1 false) 30)) := (Below.refl _ w1).alloc (Nat.le_refl _) _
      have B24 := B14.later hbn
      have hl4 := B14.lt
      have hbX : g4 ≤ w1.heap.size := Nat.le_of_lt hl4
      obtain ⟨g10, hg10⟩ : ∃ g10, g10 = w1.heap.size := ⟨_, rfl⟩
      have hbB := hbA.trans (hbn.mono hbX)
      clear hbX
      unfold nmF at BN hbn hbB B24
      go_wp2_with fail
      obtain ⟨wa, hwa⟩ : ∃ wa, wa = w1.alloc (.cells #[.int .i64 n1.kind, .bool false, .string (str n1.num), .int .i64 n1.exp, .string (str n1.den)] 30) := ⟨_, rfl⟩
      rw [← hwa, ← hg10]
      rw [← hwa] at BN hbB B24
      rw [← hg10] at BN hl4
      clear hwa hbn B14 hb1 hg10
      refine (cH _).mono ?_
      rintro e w2 ⟨hb2, rfl⟩
      have C4 := B24.later hb2
      have C10 := BN.later hb2
      have hbC := hbB.trans (hb2.mono (by have := B24.lt; omega))
      have hl10 := C10.lt
      have ne1 : ¬ g4 = g10 := by omega
      have ne2 : ¬ g10 = g4 := by omega
      obtain ⟨g13, hg13⟩ : ∃ g13, g13 = w2.heap.size := ⟨_, rfl⟩
      have ne3 : ¬ g10 = g13 := by omega
      have ne4 : ¬ g13 = g10 := by omega
      have ne5 : ¬ g4 = g13 := by omega
      have ne6 : ¬ g13 = g4 := by omega
      have le13 : g4 ≤ g13 := by omega
      have le10 : g4 ≤ g10 := by omega
      have HG13 : Hid (g13 = w2.heap.size) := hg13
      have h13 : w2.heap.size = g13 := hg13.symm
      clear B24 BN hb2 hbB hg13
      have t0 := C10.cell 0 rfl
      have tf0 := C10.frozen 0
      have t1 := C10.cell 1 rfl
      have tf1 := C10.frozen 1
      have t2 := C10.cell 2 rfl
      have tf2 := C10.frozen 2
      have t3 := C10.cell 3 rfl
      have tf3 := C10.frozen 3
      have t4 := C10.cell 4 rfl
      have tf4 := C10.frozen 4
      have D10 := Bk.set (Bk.set (Bk.set (Bk.set (Bk.set C10 0 (.int .i64 n2.kind)) 1 (.bool false)) 2 (.string (str n2.num))) 3 (.int .i64 n2.exp)) 4 (.string (str n2.den))
      have T10 := Tn.all5 w2 g10 (.int .i64 n2.kind) (.bool false) (.string (str n2.num)) (.int .i64 n2.exp) (.string (str n2.den))
      have D4 := C4.tn T10 ne1
      have hbD := Tn.below hbC T10 (by omega) (by rw [HG4.out]; exact Nat.le_refl _)
      have HZ13 : Hid (w2.heap.size = (((((w2.setCell ⟨g10, 0, none⟩ (.int .i64 n2.kind)).setCell ⟨g10, 1, none⟩ (.bool false)).setCell ⟨g10, 2, none⟩ (.string (str n2.num))).setCell ⟨g10, 3, none⟩ (.int .i64 n2.exp)).setCell ⟨g10, 4, none⟩ (.string (str n2.den))).heap.size) := by simp [Hid, World.setCell]
      clear h13
      go_wp2_with fail
      have hg13 := HG13.out
      try rw [← hg13]
      rw [HZ13.out] at hg13
      clear HZ13
      generalize ((((w2.setCell ⟨g10, 0, none⟩ (.int .i64 n2.kind)).setCell ⟨g10, 1, none⟩ (.bool false)).setCell ⟨g10, 2, none⟩ (.string (str n2.num))).setCell ⟨g10, 3, none⟩ (.int .i64 n2.exp)).setCell ⟨g10, 4, none⟩ (.string (str n2.den)) = w5 at *
      have hbm : Below w5.heap.size w5 (w5.alloc (.cells #[.int .i64 n2.kind, .bool false, .string (str n2.num), .int .i64 n2.exp, .string (str n2.den)] 30)) := (Below.refl _ w5).alloc (Nat.le_refl _) _
      have E13 := Bk.new w5 30 #[.int .i64 n2.kind, .bool false, .string (str n2.num), .int .i64 n2.exp, .string (str n2.den)]
      rw [← hg13] at E13
      clear hg13 HG13
      have E10 := D10.later hbm
      have E4 := D4.later hbm
      have hbE := hbD.trans (hbm.mono (by have := D4.lt; omega))
      generalize w5.alloc (.cells #[.int .i64 n2.kind, .bool false, .string (str n2.num), .int .i64 n2.exp, .string (str n2.den)] 30) = w6 at *
      refine (cR _).mono ?_
      rintro e w3 ⟨hb3, rfl⟩
      have F13 := E13.later hb3
      have F10 := E10.later hb3
      have F4 := E4.later hb3
      have hbF := hbE.trans (hb3.mono (by have := E4.lt; omega))
      clear E13 E10 E4 hb3 hbE D10 D4 hbD hbm C10 C4 hbC
      have x0 := F13.cell 0 rfl
      have xf0 := F13.frozen 0
      have x1 := F13.cell 1 rfl
      have xf1 := F13.frozen 1
      have x2 := F13.cell 2 rfl
      have xf2 := F13.frozen 2
      have x3 := F13.cell 3 rfl
      have xf3 := F13.frozen 3
      have x4 := F13.cell 4 rfl
      have xf4 := F13.frozen 4
      have y0 := F10.cell 0 rfl
      have yf0 := F10.frozen 0
      have y1 := F10.cell 1 rfl
      have yf1 := F10.frozen 1
      have y2 := F10.cell 2 rfl
      have yf2 := F10.frozen 2
      have y3 := F10.cell 3 rfl
      have yf3 := F10.frozen 3
      have y4 := F10.cell 4 rfl
      have yf4 := F10.frozen 4
      have z0 := F4.cell 0 rfl
      have zf0 := F4.frozen 0
      have z1 := F4.cell 1 rfl
      have zf1 := F4.frozen 1
      have z2 := F4.cell 2 rfl
      have zf2 := F4.frozen 2
      have z3 := F4.cell 3 rfl
      have zf3 := F4.frozen 3
      have z4 := F4.cell 4 rfl
      have zf4 := F4.frozen 4
      have HF4 : Hid (Bk w3 g4 30 zero5) := F4
      clear F4 F10 F13
      go_wp2
      have HBF : Hid (Below g4 w w3) := hbF
      refine bodyPost_ret (results_c3 rfl _ _ g4 30 (nmF n2 false) _ rfl (Bk.all5 (by (repeat (refine Bk.set_ne ?_ (by assumption))); exact HF4.out) _ _ _ _ _) Tryz.underlying30 rfl (by kernel_rfl)) rfl ?_
      refine ⟨?_, ?_⟩
      · rw [HG4.out]
        refine below_set (below_set (below_set (below_set (below_set ?_ (Nat.le_refl _) (by rw [HG4.out]; exact Nat.le_refl _)) (Nat.le_refl _) (by rw [HG4.out]; exact Nat.le_refl _)) (Nat.le_refl _) (by rw [HG4.out]; exact Nat.le_refl _)) (Nat.le_refl _) (by rw [HG4.out]; exact Nat.le_refl _)) (Nat.le_refl _) (by rw [HG4.out]; exact Nat.le_refl _)
        repeat (refine below_set ?_ (by omega) (by rw [HG4.out]; exact Nat.le_refl _))
        exact HBF.out
      · exact Or.inr ⟨q, HO.out, by rw [HN.out, HE2.out]; rfl⟩
    · skip
      have cD := fun w => (dec9_any s f 0 f false hs hkk hkb w).mono (fun e w' h => h.some hd)
      have cH := fun w => (hexa9_any s f 0 f false hs hkk hkb w).mono (fun e w' h => h.none hh)
      have cR := fun w => (rat9_any s f 0 f false hs hkk hkb w).mono (fun e w' h => h.some hr)
      have hng := rat_neg hr
      generalize hn0 : numR p = n1 at *
      generalize hn1 : numR q = n2 at *
      have HN : Hid (nmA (numR q) = nmF n2 false) := by unfold Hid; rw [hn1]; unfold nmA nmF; rw [← hn1]; show _ = #[_, _, _, _, _]; rw [← hng]; rfl
      clear hn0
      clear hn1 hng
      have hgt : ((f + p.stop : Nat) : Int) < ((f + q.stop : Nat) : Int) := by omega
      have HO : Hid _ := ho
      clear ho hd hh hr hkb
      generalize hE1 : f + p.stop = E1 at *
      generalize hE2 : f + q.stop = E2 at *
      have HE1 : Hid (f + p.stop = E1) := hE1
      clear hE1
      have HE2 : Hid (f + q.stop = E2) := hE2
      clear hE2
      unfold nmF at cD
      unfold zero5 at cH
      unfold nmF at cR
      go_enter Tryz.func61, Tryz.ntmps61
      go_wp2_with (go_at_call 72; refine (csg _).mono ?_; rintro e w' ⟨rfl, hw⟩; rw [hw])
      rw [show w.alloc (.cells #[.int .i64 0, .bool false, .string ⟨#[]⟩, .int .i64 0, .string ⟨#[]⟩] 30) = w0 from HW0.out.symm, show w.heap.size = g4 from HG4.out]
      refine (cD _).mono ?_
      rintro e w1 ⟨hb1, rfl⟩
      have B14 := HB0.out.later hb1
      have hbA := hb0.trans (hb1.mono (by rw [← HG4.out]; exact hb0.size))
      have BN := Bk.new w1 30 (nmF n1 false)
      have hbn : Below w1.heap.size w1 (w1.alloc (.cells (nmF n1 false) 30)) := (Below.refl _ w1).alloc (Nat.le_refl _) _
      have B24 := B14.later hbn
      have hl4 := B14.lt
      have hbX : g4 ≤ w1.heap.size := Nat.le_of_lt hl4
      obtain ⟨g10, hg10⟩ : ∃ g10, g10 = w1.heap.size := ⟨_, rfl⟩
      have hbB := hbA.trans (hbn.mono hbX)
      clear hbX
      unfold nmF at BN hbn hbB B24
      go_wp2_with fail
      obtain ⟨wa, hwa⟩ : ∃ wa, wa = w1.alloc (.cells #[.int .i64 n1.kind, .bool false, .string (str n1.num), .int .i64 n1.exp, .string (str n1.den)] 30) := ⟨_, rfl⟩
      rw [← hwa, ← hg10]
      rw [← hwa] at BN hbB B24
      rw [← hg10] at BN hl4
      clear hwa hbn B14 hb1 hg10
      refine (cH _).mono ?_
      rintro e w2 ⟨hb2, rfl⟩
      have C4 := B24.later hb2
      have C10 := BN.later hb2
      have hbC := hbB.trans (hb2.mono (by have := B24.lt; omega))
      have hl10 := C10.lt
      have ne1 : ¬ g4 = g10 := by omega
      have ne2 : ¬ g10 = g4 := by omega
      obtain ⟨g13, hg13⟩ : ∃ g13, g13 = w2.heap.size := ⟨_, rfl⟩
      have ne3 : ¬ g10 = g13 := by omega
      have ne4 : ¬ g13 = g10 := by omega
      have ne5 : ¬ g4 = g13 := by omega
      have ne6 : ¬ g13 = g4 := by omega
      have le13 : g4 ≤ g13 := by omega
      have le10 : g4 ≤ g10 := by omega
      have HG13 : Hid (g13 = w2.heap.size) := hg13
      have h13 : w2.heap.size = g13 := hg13.symm
      clear B24 BN hb2 hbB hg13
      have t0 := C10.cell 0 rfl
      have tf0 := C10.frozen 0
      have t1 := C10.cell 1 rfl
      have tf1 := C10.frozen 1
      have t2 := C10.cell 2 rfl
      have tf2 := C10.frozen 2
      have t3 := C10.cell 3 rfl
      have tf3 := C10.frozen 3
      have t4 := C10.cell 4 rfl
      have tf4 := C10.frozen 4
      clear h13
      go_wp2_with fail
      have hg13 := HG13.out
      try rw [← hg13]
      have D10 := C10
      have D4 := C4
      have hbD := hbC
      obtain ⟨w5, hw5⟩ : ∃ w5, w5 = w2 := ⟨_, rfl⟩
      rw [← hw5]
      rw [← hw5] at D10 D4 hbD hg13
      clear hw5
      have hbm : Below w5.heap.size w5 (w5.alloc (.cells #[.int .i64 0, .bool false, .string ⟨#[]⟩, .int .i64 0, .string ⟨#[]⟩] 30)) := (Below.refl _ w5).alloc (Nat.le_refl _) _
      have E13 := Bk.new w5 30 #[.int .i64 0, .bool false, .string ⟨#[]⟩, .int .i64 0, .string ⟨#[]⟩]
      rw [← hg13] at E13
      clear hg13 HG13
      have E10 := D10.later hbm
      have E4 := D4.later hbm
      have hbE := hbD.trans (hbm.mono (by have := D4.lt; omega))
      generalize w5.alloc (.cells #[.int .i64 0, .bool false, .string ⟨#[]⟩, .int .i64 0, .string ⟨#[]⟩] 30) = w6 at *
      refine (cR _).mono ?_
      rintro e w3 ⟨hb3, rfl⟩
      have F13 := E13.later hb3
      have F10 := E10.later hb3
      have F4 := E4.later hb3
      have hbF := hbE.trans (hb3.mono (by have := E4.lt; omega))
      clear E13 E10 E4 hb3 hbE D10 D4 hbD hbm C10 C4 hbC
      have x0 := F13.cell 0 rfl
      have xf0 := F13.frozen 0
      have x1 := F13.cell 1 rfl
      have xf1 := F13.frozen 1
      have x2 := F13.cell 2 rfl
      have xf2 := F13.frozen 2
      have x3 := F13.cell 3 rfl
      have xf3 := F13.frozen 3
      have x4 := F13.cell 4 rfl
      have xf4 := F13.frozen 4
      have y0 := F10.cell 0 rfl
      have yf0 := F10.frozen 0
      have y1 := F10.cell 1 rfl
      have yf1 := F10.frozen 1
      have y2 := F10.cell 2 rfl
      have yf2 := F10.frozen 2
      have y3 := F10.cell 3 rfl
      have yf3 := F10.frozen 3
      have y4 := F10.cell 4 rfl
      have yf4 := F10.frozen 4
      have z0 := F4.cell 0 rfl
      have zf0 := F4.frozen 0
      have z1 := F4.cell 1 rfl
      have zf1 := F4.frozen 1
      have z2 := F4.cell 2 rfl
      have zf2 := F4.frozen 2
      have z3 := F4.cell 3 rfl
      have zf3 := F4.frozen 3
      have z4 := F4.cell 4 rfl
      have zf4 := F4.frozen 4
      go_upto_region 17 with (fail)
      have T13 := Tn.all5 w3 g13 (.int .i64 n2.kind) (.bool false) (.string (str n2.num)) (.int .i64 n2.exp) (.string (str n2.den))
      have G13 := Bk.all5 F13 (.int .i64 n2.kind) (.bool false) (.string (str n2.num)) (.int .i64 n2.exp) (.string (str n2.den))
      have G10 := F10.tn T13 ne3
      have G4 := F4.tn T13 ne5
      have hbG := Tn.below hbF T13 le13 (by rw [HG4.out]; exact Nat.le_refl _)
      clear x0 xf0 x1 xf1 x2 xf2 x3 xf3 x4 xf4 y0 yf0 y1 yf1 y2 yf2 y3 yf3 y4 yf4 z0 zf0 z1 zf1 z2 zf2 z3 zf3 z4 zf4 F4 F10 F13 hbF T13
      generalize ((((w3.setCell ⟨g13, 0, none⟩ (.int .i64 n2.kind)).setCell ⟨g13, 1, none⟩ (.bool false)).setCell ⟨g13, 2, none⟩ (.string (str n2.num))).setCell ⟨g13, 3, none⟩ (.int .i64 n2.exp)).setCell ⟨g13, 4, none⟩ (.string (str n2.den)) = w7 at *
      have x0 := G13.cell 0 rfl
      have xf0 := G13.frozen 0
      have x1 := G13.cell 1 rfl
      have xf1 := G13.frozen 1
      have x2 := G13.cell 2 rfl
      have xf2 := G13.frozen 2
      have x3 := G13.cell 3 rfl
      have xf3 := G13.frozen 3
      have x4 := G13.cell 4 rfl
      have xf4 := G13.frozen 4
      have y0 := G10.cell 0 rfl
      have yf0 := G10.frozen 0
      have y1 := G10.cell 1 rfl
      have yf1 := G10.frozen 1
      have y2 := G10.cell 2 rfl
      have yf2 := G10.frozen 2
      have y3 := G10.cell 3 rfl
      have yf3 := G10.frozen 3
      have y4 := G10.cell 4 rfl
      have yf4 := G10.frozen 4
      have z0 := G4.cell 0 rfl
      have zf0 := G4.frozen 0
      have z1 := G4.cell 1 rfl
      have zf1 := G4.frozen 1
      have z2 := G4.cell 2 rfl
      have zf2 := G4.frozen 2
      have z3 := G4.cell 3 rfl
      have zf3 := G4.frozen 3
      have z4 := G4.cell 4 rfl
      have zf4 := G4.frozen 4
      go_upto_region 24 with (fail)
      have T10 := (Tn.all5 w7 g10 (.int .i64 n2.kind) (.bool false) (.string (str n2.num)) (.int .i64 n2.exp) (.string (str n2.den))).set 1 (.bool false)
      have J10 := Bk.six G10 (.int .i64 n2.kind) (.bool false) (.string (str n2.num)) (.int .i64 n2.exp) (.string (str n2.den)) (.bool false)
      have J4 := G4.tn T10 ne1
      have hbJ := Tn.below hbG T10 le10 (by rw [HG4.out]; exact Nat.le_refl _)
      clear x0 xf0 x1 xf1 x2 xf2 x3 xf3 x4 xf4 y0 yf0 y1 yf1 y2 yf2 y3 yf3 y4 yf4 z0 zf0 z1 zf1 z2 zf2 z3 zf3 z4 zf4 G4 G10 G13 hbG T10
      generalize (((((w7.setCell ⟨g10, 0, none⟩ (.int .i64 n2.kind)).setCell ⟨g10, 1, none⟩ (.bool false)).setCell ⟨g10, 2, none⟩ (.string (str n2.num))).setCell ⟨g10, 3, none⟩ (.int .i64 n2.exp)).setCell ⟨g10, 4, none⟩ (.string (str n2.den))).setCell ⟨g10, 1, none⟩ (.bool false) = w8 at *
      have y0 := J10.cell 0 rfl
      have y1 := J10.cell 1 rfl
      have y2 := J10.cell 2 rfl
      have y3 := J10.cell 3 rfl
      have y4 := J10.cell 4 rfl
      have z0 := J4.cell 0 rfl
      have zf0 := J4.frozen 0
      have z1 := J4.cell 1 rfl
      have zf1 := J4.frozen 1
      have z2 := J4.cell 2 rfl
      have zf2 := J4.frozen 2
      have z3 := J4.cell 3 rfl
      have zf3 := J4.frozen 3
      have z4 := J4.cell 4 rfl
      have zf4 := J4.frozen 4
      have HF4 : Hid (Bk w8 g4 30 zero5) := J4
      have hbF := hbJ
      clear J4 J10 hbJ
      go_wp2
      have HBF : Hid (Below g4 w w8) := hbF
      refine bodyPost_ret (results_c3 rfl _ _ g4 30 (nmF n2 false) _ rfl (Bk.all5 (by (repeat (refine Bk.set_ne ?_ (by assumption))); exact HF4.out) _ _ _ _ _) Tryz.underlying30 rfl (by kernel_rfl)) rfl ?_
      refine ⟨?_, ?_⟩
      · rw [HG4.out]
        refine below_set (below_set (below_set (below_set (below_set ?_ (Nat.le_refl _) (by rw [HG4.out]; exact Nat.le_refl _)) (Nat.le_refl _) (by rw [HG4.out]; exact Nat.le_refl _)) (Nat.le_refl _) (by rw [HG4.out]; exact Nat.le_refl _)) (Nat.le_refl _) (by rw [HG4.out]; exact Nat.le_refl _)) (Nat.le_refl _) (by rw [HG4.out]; exact Nat.le_refl _)
        repeat (refine below_set ?_ (by omega) (by rw [HG4.out]; exact Nat.le_refl _))
        exact HBF.out
      · exact Or.inr ⟨q, HO.out, by rw [HN.out, HE2.out]; rfl⟩
  · have hli : ¬ (f : Int) < (s.size : Int) := by omega
    clear hsg
    rcases all_three false 0 (s.data.toList.drop f) with ⟨hd, hh, hr, ho⟩ | ⟨p, hd, hh, hr, ho⟩ | ⟨p, q, hd, hh, hr, hlt, ho⟩ | ⟨p, q, hd, hh, hr, hlt, ho⟩
    · skip
      have cD := fun w => (dec9_any s f 0 f false hs hkk hkb w).mono (fun e w' h => h.none hd)
      have cH := fun w => (hexa9_any s f 0 f false hs hkk hkb w).mono (fun e w' h => h.none hh)
      have cR := fun w => (rat9_any s f 0 f false hs hkk hkb w).mono (fun e w' h => h.none hr)
      have HO : Hid _ := ho
      clear ho hd hh hr hkb
      unfold zero5 at cD
      unfold zero5 at cH
      unfold zero5 at cR
      go_enter Tryz.func61, Tryz.ntmps61
      go_wp2_with fail
      rw [show w.alloc (.cells #[.int .i64 0, .bool false, .string ⟨#[]⟩, .int .i64 0, .string ⟨#[]⟩] 30) = w0 from HW0.out.symm, show w.heap.size = g4 from HG4.out]
      refine (cD _).mono ?_
      rintro e w1 ⟨hb1, rfl⟩
      have B14 := HB0.out.later hb1
      have hbA := hb0.trans (hb1.mono (by rw [← HG4.out]; exact hb0.size))
      have BN := Bk.new w1 30 zero5
      have hbn : Below w1.heap.size w1 (w1.alloc (.cells zero5 30)) := (Below.refl _ w1).alloc (Nat.le_refl _) _
      have B24 := B14.later hbn
      have hl4 := B14.lt
      have hbX : g4 ≤ w1.heap.size := Nat.le_of_lt hl4
      obtain ⟨g10, hg10⟩ : ∃ g10, g10 = w1.heap.size := ⟨_, rfl⟩
      have hbB := hbA.trans (hbn.mono hbX)
      clear hbX
      unfold zero5 at BN hbn hbB B24
      go_wp2_with fail
      obtain ⟨wa, hwa⟩ : ∃ wa, wa = w1.alloc (.cells #[.int .i64 0, .bool false, .string ⟨#[]⟩, .int .i64 0, .string ⟨#[]⟩] 30) := ⟨_, rfl⟩
      rw [← hwa, ← hg10]
      rw [← hwa] at BN hbB B24
      rw [← hg10] at BN hl4
      clear hwa hbn B14 hb1 hg10
      refine (cH _).mono ?_
      rintro e w2 ⟨hb2, rfl⟩
      have C4 := B24.later hb2
      have C10 := BN.later hb2
      have hbC := hbB.trans (hb2.mono (by have := B24.lt; omega))
      have hl10 := C10.lt
      have ne1 : ¬ g4 = g10 := by omega
      have ne2 : ¬ g10 = g4 := by omega
      obtain ⟨g13, hg13⟩ : ∃ g13, g13 = w2.heap.size := ⟨_, rfl⟩
      have ne3 : ¬ g10 = g13 := by omega
      have ne4 : ¬ g13 = g10 := by omega
      have ne5 : ¬ g4 = g13 := by omega
      have ne6 : ¬ g13 = g4 := by omega
      have le13 : g4 ≤ g13 := by omega
      have le10 : g4 ≤ g10 := by omega
      have HG13 : Hid (g13 = w2.heap.size) := hg13
      have h13 : w2.heap.size = g13 := hg13.symm
      clear B24 BN hb2 hbB hg13
      have t0 := C10.cell 0 rfl
      have tf0 := C10.frozen 0
      have t1 := C10.cell 1 rfl
      have tf1 := C10.frozen 1
      have t2 := C10.cell 2 rfl
      have tf2 := C10.frozen 2
      have t3 := C10.cell 3 rfl
      have tf3 := C10.frozen 3
      have t4 := C10.cell 4 rfl
      have tf4 := C10.frozen 4
      clear h13
      go_wp2_with fail
      have hg13 := HG13.out
      try rw [← hg13]
      have D10 := C10
      have D4 := C4
      have hbD := hbC
      obtain ⟨w5, hw5⟩ : ∃ w5, w5 = w2 := ⟨_, rfl⟩
      rw [← hw5]
      rw [← hw5] at D10 D4 hbD hg13
      clear hw5
      have hbm : Below w5.heap.size w5 (w5.alloc (.cells #[.int .i64 0, .bool false, .string ⟨#[]⟩, .int .i64 0, .string ⟨#[]⟩] 30)) := (Below.refl _ w5).alloc (Nat.le_refl _) _
      have E13 := Bk.new w5 30 #[.int .i64 0, .bool false, .string ⟨#[]⟩, .int .i64 0, .string ⟨#[]⟩]
      rw [← hg13] at E13
      clear hg13 HG13
      have E10 := D10.later hbm
      have E4 := D4.later hbm
      have hbE := hbD.trans (hbm.mono (by have := D4.lt; omega))
      generalize w5.alloc (.cells #[.int .i64 0, .bool false, .string ⟨#[]⟩, .int .i64 0, .string ⟨#[]⟩] 30) = w6 at *
      refine (cR _).mono ?_
      rintro e w3 ⟨hb3, rfl⟩
      have F13 := E13.later hb3
      have F10 := E10.later hb3
      have F4 := E4.later hb3
      have hbF := hbE.trans (hb3.mono (by have := E4.lt; omega))
      clear E13 E10 E4 hb3 hbE D10 D4 hbD hbm C10 C4 hbC
      have x0 := F13.cell 0 rfl
      have xf0 := F13.frozen 0
      have x1 := F13.cell 1 rfl
      have xf1 := F13.frozen 1
      have x2 := F13.cell 2 rfl
      have xf2 := F13.frozen 2
      have x3 := F13.cell 3 rfl
      have xf3 := F13.frozen 3
      have x4 := F13.cell 4 rfl
      have xf4 := F13.frozen 4
      have y0 := F10.cell 0 rfl
      have yf0 := F10.frozen 0
      have y1 := F10.cell 1 rfl
      have yf1 := F10.frozen 1
      have y2 := F10.cell 2 rfl
      have yf2 := F10.frozen 2
      have y3 := F10.cell 3 rfl
      have yf3 := F10.frozen 3
      have y4 := F10.cell 4 rfl
      have yf4 := F10.frozen 4
      have z0 := F4.cell 0 rfl
      have zf0 := F4.frozen 0
      have z1 := F4.cell 1 rfl
      have zf1 := F4.frozen 1
      have z2 := F4.cell 2 rfl
      have zf2 := F4.frozen 2
      have z3 := F4.cell 3 rfl
      have zf3 := F4.frozen 3
      have z4 := F4.cell 4 rfl
      have zf4 := F4.frozen 4
      have HF4 : Hid (Bk w3 g4 30 zero5) := F4
      clear F4 F10 F13
      go_wp2
      have HBF : Hid (Below g4 w w3) := hbF
      refine bodyPost_ret (results_c3 rfl _ _ g4 30 (nmA nmZ) _ rfl (Bk.all5 (by (repeat (refine Bk.set_ne ?_ (by assumption))); exact HF4.out) _ _ _ _ _) Tryz.underlying30 rfl (by kernel_rfl)) rfl ?_
      refine ⟨?_, ?_⟩
      · rw [HG4.out]
        refine below_set (below_set (below_set (below_set (below_set ?_ (Nat.le_refl _) (by rw [HG4.out]; exact Nat.le_refl _)) (Nat.le_refl _) (by rw [HG4.out]; exact Nat.le_refl _)) (Nat.le_refl _) (by rw [HG4.out]; exact Nat.le_refl _)) (Nat.le_refl _) (by rw [HG4.out]; exact Nat.le_refl _)) (Nat.le_refl _) (by rw [HG4.out]; exact Nat.le_refl _)
        repeat (refine below_set ?_ (by omega) (by rw [HG4.out]; exact Nat.le_refl _))
        exact HBF.out
      · exact Or.inl ⟨HO.out, rfl⟩
    · skip
      have cD := fun w => (dec9_any s f 0 f false hs hkk hkb w).mono (fun e w' h => h.some hd)
      have cH := fun w => (hexa9_any s f 0 f false hs hkk hkb w).mono (fun e w' h => h.none hh)
      have cR := fun w => (rat9_any s f 0 f false hs hkk hkb w).mono (fun e w' h => h.none hr)
      have hng := dec_neg hd
      generalize hn1 : numR p = n1 at *
      have HN : Hid (nmA (numR p) = nmF n1 false) := by unfold Hid; rw [hn1]; unfold nmA nmF; rw [← hn1]; show _ = #[_, _, _, _, _]; rw [← hng]; rfl
      clear hn1 hng
      have HO : Hid _ := ho
      clear ho hd hh hr hkb
      generalize hE1 : f + p.stop = E1 at *
      have HE1 : Hid (f + p.stop = E1) := hE1
      clear hE1
      unfold nmF at cD
      unfold zero5 at cH
      unfold zero5 at cR
      go_enter Tryz.func61, Tryz.ntmps61
      go_wp2_with fail
      rw [show w.alloc (.cells #[.int .i64 0, .bool false, .string ⟨#[]⟩, .int .i64 0, .string ⟨#[]⟩] 30) = w0 from HW0.out.symm, show w.heap.size = g4 from HG4.out]
      refine (cD _).mono ?_
      rintro e w1 ⟨hb1, rfl⟩
      have B14 := HB0.out.later hb1
      have hbA := hb0.trans (hb1.mono (by rw [← HG4.out]; exact hb0.size))
      have BN := Bk.new w1 30 (nmF n1 false)
      have hbn : Below w1.heap.size w1 (w1.alloc (.cells (nmF n1 false) 30)) := (Below.refl _ w1).alloc (Nat.le_refl _) _
      have B24 := B14.later hbn
      have hl4 := B14.lt
      have hbX : g4 ≤ w1.heap.size := Nat.le_of_lt hl4
      obtain ⟨g10, hg10⟩ : ∃ g10, g10 = w1.heap.size := ⟨_, rfl⟩
      have hbB := hbA.trans (hbn.mono hbX)
      clear hbX
      unfold nmF at BN hbn hbB B24
      go_wp2_with fail
      obtain ⟨wa, hwa⟩ : ∃ wa, wa = w1.alloc (.cells #[.int .i64 n1.kind, .bool false, .string (str n1.num), .int .i64 n1.exp, .string (str n1.den)] 30) := ⟨_, rfl⟩
      rw [← hwa, ← hg10]
      rw [← hwa] at BN hbB B24
      rw [← hg10] at BN hl4
      clear hwa hbn B14 hb1 hg10
      refine (cH _).mono ?_
      rintro e w2 ⟨hb2, rfl⟩
      have C4 := B24.later hb2
      have C10 := BN.later hb2
      have hbC := hbB.trans (hb2.mono (by have := B24.lt; omega))
      have hl10 := C10.lt
      have ne1 : ¬ g4 = g10 := by omega
      have ne2 : ¬ g10 = g4 := by omega
      obtain ⟨g13, hg13⟩ : ∃ g13, g13 = w2.heap.size := ⟨_, rfl⟩
      have ne3 : ¬ g10 = g13 := by omega
      have ne4 : ¬ g13 = g10 := by omega
      have ne5 : ¬ g4 = g13 := by omega
      have ne6 : ¬ g13 = g4 := by omega
      have le13 : g4 ≤ g13 := by omega
      have le10 : g4 ≤ g10 := by omega
      have HG13 : Hid (g13 = w2.heap.size) := hg13
      have h13 : w2.heap.size = g13 := hg13.symm
      clear B24 BN hb2 hbB hg13
      have t0 := C10.cell 0 rfl
      have tf0 := C10.frozen 0
      have t1 := C10.cell 1 rfl
      have tf1 := C10.frozen 1
      have t2 := C10.cell 2 rfl
      have tf2 := C10.frozen 2
      have t3 := C10.cell 3 rfl
      have tf3 := C10.frozen 3
      have t4 := C10.cell 4 rfl
      have tf4 := C10.frozen 4
      clear h13
      go_wp2_with fail
      have hg13 := HG13.out
      try rw [← hg13]
      have D10 := C10
      have D4 := C4
      have hbD := hbC
      obtain ⟨w5, hw5⟩ : ∃ w5, w5 = w2 := ⟨_, rfl⟩
      rw [← hw5]
      rw [← hw5] at D10 D4 hbD hg13
      clear hw5
      have hbm : Below w5.heap.size w5 (w5.alloc (.cells #[.int .i64 0, .bool false, .string ⟨#[]⟩, .int .i64 0, .string ⟨#[]⟩] 30)) := (Below.refl _ w5).alloc (Nat.le_refl _) _
      have E13 := Bk.new w5 30 #[.int .i64 0, .bool false, .string ⟨#[]⟩, .int .i64 0, .string ⟨#[]⟩]
      rw [← hg13] at E13
      clear hg13 HG13
      have E10 := D10.later hbm
      have E4 := D4.later hbm
      have hbE := hbD.trans (hbm.mono (by have := D4.lt; omega))
      generalize w5.alloc (.cells #[.int .i64 0, .bool false, .string ⟨#[]⟩, .int .i64 0, .string ⟨#[]⟩] 30) = w6 at *
      refine (cR _).mono ?_
      rintro e w3 ⟨hb3, rfl⟩
      have F13 := E13.later hb3
      have F10 := E10.later hb3
      have F4 := E4.later hb3
      have hbF := hbE.trans (hb3.mono (by have := E4.lt; omega))
      clear E13 E10 E4 hb3 hbE D10 D4 hbD hbm C10 C4 hbC
      have x0 := F13.cell 0 rfl
      have xf0 := F13.frozen 0
      have x1 := F13.cell 1 rfl
      have xf1 := F13.frozen 1
      have x2 := F13.cell 2 rfl
      have xf2 := F13.frozen 2
      have x3 := F13.cell 3 rfl
      have xf3 := F13.frozen 3
      have x4 := F13.cell 4 rfl
      have xf4 := F13.frozen 4
      have y0 := F10.cell 0 rfl
      have yf0 := F10.frozen 0
      have y1 := F10.cell 1 rfl
      have yf1 := F10.frozen 1
      have y2 := F10.cell 2 rfl
      have yf2 := F10.frozen 2
      have y3 := F10.cell 3 rfl
      have yf3 := F10.frozen 3
      have y4 := F10.cell 4 rfl
      have yf4 := F10.frozen 4
      have z0 := F4.cell 0 rfl
      have zf0 := F4.frozen 0
      have z1 := F4.cell 1 rfl
      have zf1 := F4.frozen 1
      have z2 := F4.cell 2 rfl
      have zf2 := F4.frozen 2
      have z3 := F4.cell 3 rfl
      have zf3 := F4.frozen 3
      have z4 := F4.cell 4 rfl
      have zf4 := F4.frozen 4
      have HF4 : Hid (Bk w3 g4 30 zero5) := F4
      clear F4 F10 F13
      go_wp2
      have HBF : Hid (Below g4 w w3) := hbF
      refine bodyPost_ret (results_c3 rfl _ _ g4 30 (nmF n1 false) _ rfl (Bk.all5 (by (repeat (refine Bk.set_ne ?_ (by assumption))); exact HF4.out) _ _ _ _ _) Tryz.underlying30 rfl (by kernel_rfl)) rfl ?_
      refine ⟨?_, ?_⟩
      · rw [HG4.out]
        refine below_set (below_set (below_set (below_set (below_set ?_ (Nat.le_refl _) (by rw [HG4.out]; exact Nat.le_refl _)) (Nat.le_refl _) (by rw [HG4.out]; exact Nat.le_refl _)) (Nat.le_refl _) (by rw [HG4.out]; exact Nat.le_refl _)) (Nat.le_refl _) (by rw [HG4.out]; exact Nat.le_refl _)) (Nat.le_refl _) (by rw [HG4.out]; exact Nat.le_refl _)
        repeat (refine below_set ?_ (by omega) (by rw [HG4.out]; exact Nat.le_refl _))
        exact HBF.out
      · exact Or.inr ⟨p, HO.out, by rw [HN.out, HE1.out]; rfl⟩
    · skip
      have cD := fun w => (dec9_any s f 0 f false hs hkk hkb w).mono (fun e w' h => h.some hd)
      have cH := fun w => (hexa9_any s f 0 f false hs hkk hkb w).mono (fun e w' h => h.some hh)
      have cR := fun w => (rat9_any s f 0 f false hs hkk hkb w).mono (fun e w' h => h.none hr)
      have hng := hex_neg hh
      generalize hn0 : numR p = n1 at *
      generalize hn1 : numR q = n2 at *
      have HN : Hid (nmA (numR q) = nmF n2 false) := by unfold Hid; rw [hn1]; unfold nmA nmF; rw [← hn1]; show _ = #[_, _, _, _, _]; rw [← hng]; rfl
      clear hn0
      clear hn1 hng
      have hgt : ((f + p.stop : Nat) : Int) < ((f + q.stop : Nat) : Int) := by omega
      have HO : Hid _ := ho
      clear ho hd hh hr hkb
      generalize hE1 : f + p.stop = E1 at *
      generalize hE2 : f + q.stop = E2 at *
      have HE1 : Hid (f + p.stop = E1) := hE1
      clear hE1
      have HE2 : Hid (f + q.stop = E2) := hE2
      clear hE2
      unfold nmF at cD
      unfold nmF at cH
      unfold zero5 at cR
      go_enter Tryz.func61, Tryz.ntmps61
      go_wp2_with fail
      rw [show w.alloc (.cells #[.int .i64 0, .bool false, .string ⟨#[]⟩, .int .i64 0, .string ⟨#[]⟩] 30) = w0 from HW0.out.symm, show w.heap.size = g4 from HG4.out]
      refine (cD _).mono ?_
      rintro e w1 ⟨hb1, rfl⟩
      have B14 := HB0.out.later hb1
      have hbA := hb0.trans (hb1.mono (by rw [← HG4.out]; exact hb0.size))
      have BN := Bk.new w1 30 (nmF n1 false)
      have hbn : Below w1.heap.size w1 (w1.alloc (.cells (nmF n1 false) 30)) := (Below.refl _ w1).alloc (Nat.le_refl _) _
      have B24 := B14.later hbn
      have hl4 := B14.lt
      have hbX : g4 ≤ w1.heap.size := Nat.le_of_lt hl4
      obtain ⟨g10, hg10⟩ : ∃ g10, g10 = w1.heap.size := ⟨_, rfl⟩
      have hbB := hbA.trans (hbn.mono hbX)
      clear hbX
      unfold nmF at BN hbn hbB B24
      go_wp2_with fail
      obtain ⟨wa, hwa⟩ : ∃ wa, wa = w1.alloc (.cells #[.int .i64 n1.kind, .bool false, .string (str n1.num), .int .i64 n1.exp, .string (str n1.den)] 30) := ⟨_, rfl⟩
      rw [← hwa, ← hg10]
      rw [← hwa] at BN hbB B24
      rw [← hg10] at BN hl4
      clear hwa hbn B14 hb1 hg10
      refine (cH _).mono ?_
      rintro e w2 ⟨hb2, rfl⟩
      have C4 := B24.later hb2
      have C10 := BN.later hb2
      have hbC := hbB.trans (hb2.mono (by have := B24.lt; omega))
      have hl10 := C10.lt
      have ne1 : ¬ g4 = g10 := by omega
      have ne2 : ¬ g10 = g4 := by omega
      obtain ⟨g13, hg13⟩ : ∃ g13, g13 = w2.heap.size := ⟨_, rfl⟩
      have ne3 : ¬ g10 = g13 := by omega
      have ne4 : ¬ g13 = g10 := by omega
      have ne5 : ¬ g4 = g13 := by omega
      have ne6 : ¬ g13 = g4 := by omega
      have le13 : g4 ≤ g13 := by omega
      have le10 : g4 ≤ g10 := by omega
      have HG13 : Hid (g13 = w2.heap.size) := hg13
      have h13 : w2.heap.size = g13 := hg13.symm
      clear B24 BN hb2 hbB hg13
      have t0 := C10.cell 0 rfl
      have tf0 := C10.frozen 0
      have t1 := C10.cell 1 rfl
      have tf1 := C10.frozen 1
      have t2 := C10.cell 2 rfl
      have tf2 := C10.frozen 2
      have t3 := C10.cell 3 rfl
      have tf3 := C10.frozen 3
      have t4 := C10.cell 4 rfl
      have tf4 := C10.frozen 4
      have D10 := Bk.set (Bk.set (Bk.set (Bk.set (Bk.set C10 0 (.int .i64 n2.kind)) 1 (.bool false)) 2 (.string (str n2.num))) 3 (.int .i64 n2.exp)) 4 (.string (str n2.den))
      have T10 := Tn.all5 w2 g10 (.int .i64 n2.kind) (.bool false) (.string (str n2.num)) (.int .i64 n2.exp) (.string (str n2.den))
      have D4 := C4.tn T10 ne1
      have hbD := Tn.below hbC T10 (by omega) (by rw [HG4.out]; exact Nat.le_refl _)
      have HZ13 : Hid (w2.heap.size = (((((w2.setCell ⟨g10, 0, none⟩ (.int .i64 n2.kind)).setCell ⟨g10, 1, none⟩ (.bool false)).setCell ⟨g10, 2, none⟩ (.string (str n2.num))).setCell ⟨g10, 3, none⟩ (.int .i64 n2.exp)).setCell ⟨g10, 4, none⟩ (.string (str n2.den))).heap.size) := by simp [Hid, World.setCell]
      clear h13
      go_wp2_with fail
      have hg13 := HG13.out
      try rw [← hg13]
      rw [HZ13.out] at hg13
      clear HZ13
      generalize ((((w2.setCell ⟨g10, 0, none⟩ (.int .i64 n2.kind)).setCell ⟨g10, 1, none⟩ (.bool false)).setCell ⟨g10, 2, none⟩ (.string (str n2.num))).setCell ⟨g10, 3, none⟩ (.int .i64 n2.exp)).setCell ⟨g10, 4, none⟩ (.string (str n2.den)) = w5 at *
      have hbm : Below w5.heap.size w5 (w5.alloc (.cells #[.int .i64 n2.kind, .bool false, .string (str n2.num), .int .i64 n2.exp, .string (str n2.den)] 30)) := (Below.refl _ w5).alloc (Nat.le_refl _) _
      have E13 := Bk.new w5 30 #[.int .i64 n2.kind, .bool false, .string (str n2.num), .int .i64 n2.exp, .string (str n2.den)]
      rw [← hg13] at E13
      clear hg13 HG13
      have E10 := D10.later hbm
      have E4 := D4.later hbm
      have hbE := hbD.trans (hbm.mono (by have := D4.lt; omega))
      generalize w5.alloc (.cells #[.int .i64 n2.kind, .bool false, .string (str n2.num), .int .i64 n2.exp, .string (str n2.den)] 30) = w6 at *
      refine (cR _).mono ?_
      rintro e w3 ⟨hb3, rfl⟩
      have F13 := E13.later hb3
      have F10 := E10.later hb3
      have F4 := E4.later hb3
      have hbF := hbE.trans (hb3.mono (by have := E4.lt; omega))
      clear E13 E10 E4 hb3 hbE D10 D4 hbD hbm C10 C4 hbC
      have x0 := F13.cell 0 rfl
      have xf0 := F13.frozen 0
      have x1 := F13.cell 1 rfl
      have xf1 := F13.frozen 1
      have x2 := F13.cell 2 rfl
      have xf2 := F13.frozen 2
      have x3 := F13.cell 3 rfl
      have xf3 := F13.frozen 3
      have x4 := F13.cell 4 rfl
      have xf4 := F13.frozen 4
      have y0 := F10.cell 0 rfl
      have yf0 := F10.frozen 0
      have y1 := F10.cell 1 rfl
      have yf1 := F10.frozen 1
      have y2 := F10.cell 2 rfl
      have yf2 := F10.frozen 2
      have y3 := F10.cell 3 rfl
      have yf3 := F10.frozen 3
      have y4 := F10.cell 4 rfl
      have yf4 := F10.frozen 4
      have z0 := F4.cell 0 rfl
      have zf0 := F4.frozen 0
      have z1 := F4.cell 1 rfl
      have zf1 := F4.frozen 1
      have z2 := F4.cell 2 rfl
      have zf2 := F4.frozen 2
      have z3 := F4.cell 3 rfl
      have zf3 := F4.frozen 3
      have z4 := F4.cell 4 rfl
      have zf4 := F4.frozen 4
      have HF4 : Hid (Bk w3 g4 30 zero5) := F4
      clear F4 F10 F13
      go_wp2
      have HBF : Hid (Below g4 w w3) := hbF
      refine bodyPost_ret (results_c3 rfl _ _ g4 30 (nmF n2 false) _ rfl (Bk.all5 (by (repeat (refine Bk.set_ne ?_ (by assumption))); exact HF4.out) _ _ _ _ _) Tryz.underlying30 rfl (by kernel_rfl)) rfl ?_
      refine ⟨?_, ?_⟩
      · rw [HG4.out]
        refine below_set (below_set (below_set (below_set (below_set ?_ (Nat.le_refl _) (by rw [HG4.out]; exact Nat.le_refl _)) (Nat.le_refl _) (by rw [HG4.out]; exact Nat.le_refl _)) (Nat.le_refl _) (by rw [HG4.out]; exact Nat.le_refl _)) (Nat.le_refl _) (by rw [HG4.out]; exact Nat.le_refl _)) (Nat.le_refl _) (by rw [HG4.out]; exact Nat.le_refl _)
        repeat (refine below_set ?_ (by omega) (by rw [HG4.out]; exact Nat.le_refl _))
        exact HBF.out
      · exact Or.inr ⟨q, HO.out, by rw [HN.out, HE2.out]; rfl⟩
    · skip
      have cD := fun w => (dec9_any s f 0 f false hs hkk hkb w).mono (fun e w' h => h.some hd)
      have cH := fun w => (hexa9_any s f 0 f false hs hkk hkb w).mono (fun e w' h => h.none hh)
      have cR := fun w => (rat9_any s f 0 f false hs hkk hkb w).mono (fun e w' h => h.some hr)
      have hng := rat_neg hr
      generalize hn0 : numR p = n1 at *
      generalize hn1 : numR q = n2 at *
      have HN : Hid (nmA (numR q) = nmF n2 false) := by unfold Hid; rw [hn1]; unfold nmA nmF; rw [← hn1]; show _ = #[_, _, _, _, _]; rw [← hng]; rfl
      clear hn0
      clear hn1 hng
      have hgt : ((f + p.stop : Nat) : Int) < ((f + q.stop : Nat) : Int) := by omega
      have HO : Hid _ := ho
      clear ho hd hh hr hkb
      generalize hE1 : f + p.stop = E1 at *
      generalize hE2 : f + q.stop = E2 at *
      have HE1 : Hid (f + p.stop = E1) := hE1
      clear hE1
      have HE2 : Hid (f + q.stop = E2) := hE2
      clear hE2
      unfold nmF at cD
      unfold zero5 at cH
      unfold nmF at cR
      go_enter Tryz.func61, Tryz.ntmps61
      go_wp2_with fail
      rw [show w.alloc (.cells #[.int .i64 0, .bool false, .string ⟨#[]⟩, .int .i64 0, .string ⟨#[]⟩] 30) = w0 from HW0.out.symm, show w.heap.size = g4 from HG4.out]
      refine (cD _).mono ?_
      rintro e w1 ⟨hb1, rfl⟩
      have B14 := HB0.out.later hb1
      have hbA := hb0.trans (hb1.mono (by rw [← HG4.out]; exact hb0.size))
      have BN := Bk.new w1 30 (nmF n1 false)
      have hbn : Below w1.heap.size w1 (w1.alloc (.cells (nmF n1 false) 30)) := (Below.refl _ w1).alloc (Nat.le_refl _) _
      have B24 := B14.later hbn
      have hl4 := B14.lt
      have hbX : g4 ≤ w1.heap.size := Nat.le_of_lt hl4
      obtain ⟨g10, hg10⟩ : ∃ g10, g10 = w1.heap.size := ⟨_, rfl⟩
      have hbB := hbA.trans (hbn.mono hbX)
      clear hbX
      unfold nmF at BN hbn hbB B24
      go_wp2_with fail
      obtain ⟨wa, hwa⟩ : ∃ wa, wa = w1.alloc (.cells #[.int .i64 n1.kind, .bool false, .string (str n1.num), .int .i64 n1.exp, .string (str n1.den)] 30) := ⟨_, rfl⟩
      rw [← hwa, ← hg10]
      rw [← hwa] at BN hbB B24
      rw [← hg10] at BN hl4
      clear hwa hbn B14 hb1 hg10
      refine (cH _).mono ?_
      rintro e w2 ⟨hb2, rfl⟩
      have C4 := B24.later hb2
      have C10 := BN.later hb2
      have hbC := hbB.trans (hb2.mono (by have := B24.lt; omega))
      have hl10 := C10.lt
      have ne1 : ¬ g4 = g10 := by omega
      have ne2 : ¬ g10 = g4 := by omega
      obtain ⟨g13, hg13⟩ : ∃ g13, g13 = w2.heap.size := ⟨_, rfl⟩
      have ne3 : ¬ g10 = g13 := by omega
      have ne4 : ¬ g13 = g10 := by omega
      have ne5 : ¬ g4 = g13 := by omega
      have ne6 : ¬ g13 = g4 := by omega
      have le13 : g4 ≤ g13 := by omega
      have le10 : g4 ≤ g10 := by omega
      have HG13 : Hid (g13 = w2.heap.size) := hg13
      have h13 : w2.heap.size = g13 := hg13.symm
      clear B24 BN hb2 hbB hg13
      have t0 := C10.cell 0 rfl
      have tf0 := C10.frozen 0
      have t1 := C10.cell 1 rfl
      have tf1 := C10.frozen 1
      have t2 := C10.cell 2 rfl
      have tf2 := C10.frozen 2
      have t3 := C10.cell 3 rfl
      have tf3 := C10.frozen 3
      have t4 := C10.cell 4 rfl
      have tf4 := C10.frozen 4
      clear h13
      go_wp2_with fail
      have hg13 := HG13.out
      try rw [← hg13]
      have D10 := C10
      have D4 := C4
      have hbD := hbC
      obtain ⟨w5, hw5⟩ : ∃ w5, w5 = w2 := ⟨_, rfl⟩
      rw [← hw5]
      rw [← hw5] at D10 D4 hbD hg13
      clear hw5
      have hbm : Below w5.heap.size w5 (w5.alloc (.cells #[.int .i64 0, .bool false, .string ⟨#[]⟩, .int .i64 0, .string ⟨#[]⟩] 30)) := (Below.refl _ w5).alloc (Nat.le_refl _) _
      have E13 := Bk.new w5 30 #[.int .i64 0, .bool false, .string ⟨#[]⟩, .int .i64 0, .string ⟨#[]⟩]
      rw [← hg13] at E13
      clear hg13 HG13
      have E10 := D10.later hbm
      have E4 := D4.later hbm
      have hbE := hbD.trans (hbm.mono (by have := D4.lt; omega))
      generalize w5.alloc (.cells #[.int .i64 0, .bool false, .string ⟨#[]⟩, .int .i64 0, .string ⟨#[]⟩] 30) = w6 at *
      refine (cR _).mono ?_
      rintro e w3 ⟨hb3, rfl⟩
      have F13 := E13.later hb3
      have F10 := E10.later hb3
      have F4 := E4.later hb3
      have hbF := hbE.trans (hb3.mono (by have := E4.lt; omega))
      clear E13 E10 E4 hb3 hbE D10 D4 hbD hbm C10 C4 hbC
      have x0 := F13.cell 0 rfl
      have xf0 := F13.frozen 0
      have x1 := F13.cell 1 rfl
      have xf1 := F13.frozen 1
      have x2 := F13.cell 2 rfl
      have xf2 := F13.frozen 2
      have x3 := F13.cell 3 rfl
      have xf3 := F13.frozen 3
      have x4 := F13.cell 4 rfl
      have xf4 := F13.frozen 4
      have y0 := F10.cell 0 rfl
      have yf0 := F10.frozen 0
      have y1 := F10.cell 1 rfl
      have yf1 := F10.frozen 1
      have y2 := F10.cell 2 rfl
      have yf2 := F10.frozen 2
      have y3 := F10.cell 3 rfl
      have yf3 := F10.frozen 3
      have y4 := F10.cell 4 rfl
      have yf4 := F10.frozen 4
      have z0 := F4.cell 0 rfl
      have zf0 := F4.frozen 0
      have z1 := F4.cell 1 rfl
      have zf1 := F4.frozen 1
      have z2 := F4.cell 2 rfl
      have zf2 := F4.frozen 2
      have z3 := F4.cell 3 rfl
      have zf3 := F4.frozen 3
      have z4 := F4.cell 4 rfl
      have zf4 := F4.frozen 4
      go_upto_region 17 with (fail)
      have T13 := Tn.all5 w3 g13 (.int .i64 n2.kind) (.bool false) (.string (str n2.num)) (.int .i64 n2.exp) (.string (str n2.den))
      have G13 := Bk.all5 F13 (.int .i64 n2.kind) (.bool false) (.string (str n2.num)) (.int .i64 n2.exp) (.string (str n2.den))
      have G10 := F10.tn T13 ne3
      have G4 := F4.tn T13 ne5
      have hbG := Tn.below hbF T13 le13 (by rw [HG4.out]; exact Nat.le_refl _)
      clear x0 xf0 x1 xf1 x2 xf2 x3 xf3 x4 xf4 y0 yf0 y1 yf1 y2 yf2 y3 yf3 y4 yf4 z0 zf0 z1 zf1 z2 zf2 z3 zf3 z4 zf4 F4 F10 F13 hbF T13
      generalize ((((w3.setCell ⟨g13, 0, none⟩ (.int .i64 n2.kind)).setCell ⟨g13, 1, none⟩ (.bool false)).setCell ⟨g13, 2, none⟩ (.string (str n2.num))).setCell ⟨g13, 3, none⟩ (.int .i64 n2.exp)).setCell ⟨g13, 4, none⟩ (.string (str n2.den)) = w7 at *
      have x0 := G13.cell 0 rfl
      have xf0 := G13.frozen 0
      have x1 := G13.cell 1 rfl
      have xf1 := G13.frozen 1
      have x2 := G13.cell 2 rfl
      have xf2 := G13.frozen 2
      have x3 := G13.cell 3 rfl
      have xf3 := G13.frozen 3
      have x4 := G13.cell 4 rfl
      have xf4 := G13.frozen 4
      have y0 := G10.cell 0 rfl
      have yf0 := G10.frozen 0
      have y1 := G10.cell 1 rfl
      have yf1 := G10.frozen 1
      have y2 := G10.cell 2 rfl
      have yf2 := G10.frozen 2
      have y3 := G10.cell 3 rfl
      have yf3 := G10.frozen 3
      have y4 := G10.cell 4 rfl
      have yf4 := G10.frozen 4
      have z0 := G4.cell 0 rfl
      have zf0 := G4.frozen 0
      have z1 := G4.cell 1 rfl
      have zf1 := G4.frozen 1
      have z2 := G4.cell 2 rfl
      have zf2 := G4.frozen 2
      have z3 := G4.cell 3 rfl
      have zf3 := G4.frozen 3
      have z4 := G4.cell 4 rfl
      have zf4 := G4.frozen 4
      go_upto_region 24 with (fail)
      have T10 := (Tn.all5 w7 g10 (.int .i64 n2.kind) (.bool false) (.string (str n2.num)) (.int .i64 n2.exp) (.string (str n2.den))).set 1 (.bool false)
      have J10 := Bk.six G10 (.int .i64 n2.kind) (.bool false) (.string (str n2.num)) (.int .i64 n2.exp) (.string (str n2.den)) (.bool false)
      have J4 := G4.tn T10 ne1
      have hbJ := Tn.below hbG T10 le10 (by rw [HG4.out]; exact Nat.le_refl _)
      clear x0 xf0 x1 xf1 x2 xf2 x3 xf3 x4 xf4 y0 yf0 y1 yf1 y2 yf2 y3 yf3 y4 yf4 z0 zf0 z1 zf1 z2 zf2 z3 zf3 z4 zf4 G4 G10 G13 hbG T10
      generalize (((((w7.setCell ⟨g10, 0, none⟩ (.int .i64 n2.kind)).setCell ⟨g10, 1, none⟩ (.bool false)).setCell ⟨g10, 2, none⟩ (.string (str n2.num))).setCell ⟨g10, 3, none⟩ (.int .i64 n2.exp)).setCell ⟨g10, 4, none⟩ (.string (str n2.den))).setCell ⟨g10, 1, none⟩ (.bool false) = w8 at *
      have y0 := J10.cell 0 rfl
      have y1 := J10.cell 1 rfl
      have y2 := J10.cell 2 rfl
      have y3 := J10.cell 3 rfl
      have y4 := J10.cell 4 rfl
      have z0 := J4.cell 0 rfl
      have zf0 := J4.frozen 0
      have z1 := J4.cell 1 rfl
      have zf1 := J4.frozen 1
      have z2 := J4.cell 2 rfl
      have zf2 := J4.frozen 2
      have z3 := J4.cell 3 rfl
      have zf3 := J4.frozen 3
      have z4 := J4.cell 4 rfl
      have zf4 := J4.frozen 4
      have HF4 : Hid (Bk w8 g4 30 zero5) := J4
      have hbF := hbJ
      clear J4 J10 hbJ
      go_wp2
      have HBF : Hid (Below g4 w w8) := hbF
      refine bodyPost_ret (results_c3 rfl _ _ g4 30 (nmF n2 false) _ rfl (Bk.all5 (by (repeat (refine Bk.set_ne ?_ (by assumption))); exact HF4.out) _ _ _ _ _) Tryz.underlying30 rfl (by kernel_rfl)) rfl ?_
      refine ⟨?_, ?_⟩
      · rw [HG4.out]
        refine below_set (below_set (below_set (below_set (below_set ?_ (Nat.le_refl _) (by rw [HG4.out]; exact Nat.le_refl _)) (Nat.le_refl _) (by rw [HG4.out]; exact Nat.le_refl _)) (Nat.le_refl _) (by rw [HG4.out]; exact Nat.le_refl _)) (Nat.le_refl _) (by rw [HG4.out]; exact Nat.le_refl _)) (Nat.le_refl _) (by rw [HG4.out]; exact Nat.le_refl _)
        repeat (refine below_set ?_ (by omega) (by rw [HG4.out]; exact Nat.le_refl _))
        exact HBF.out
      · exact Or.inr ⟨q, HO.out, by rw [HN.out, HE2.out]; rfl⟩
end Go.Proofs.YtfgpjplfplbcdaaGreatDoor

/- Layer 9: the document's Scan. -/
namespace Go.Proofs.YtfgpjplfplbcdaaGreatDoor
open Go.ChangeShapes Go.WideShapes Go.ChangeAt Go.RowKit
open Lx
set_option linter.unusedVariables false
set_option maxHeartbeats 12800000 in
set_option maxRecDepth 100000 in
theorem rscan9_minus (s : ByteArray) (f : Nat) (hs : s.size ≤ 3000000) (hsm : s.size ≤ f + 65536) (hf : f ≤ s.size) (w : World) (hlt0 : f < s.size) (hch : (s[f]'hlt0) = 45) :
    Calls Tryz.prog 61 #[.string s, .int .i64 (f : Int)] w (RScanR w f (refAll true 1 (s.data.toList.drop (f + 1)))) := by
  have hb0' : Below w.heap.size w (w.alloc (.cells zero5 30)) := (Below.refl _ w).alloc (Nat.le_refl _) _
  have HB0' := Bk.new w 30 zero5
  obtain ⟨w0, hw0⟩ : ∃ w0, w0 = w.alloc (.cells zero5 30) := ⟨_, rfl⟩
  obtain ⟨g4, hg4⟩ : ∃ g4, w.heap.size = g4 := ⟨_, rfl⟩
  have HW0 : Hid (w0 = w.alloc (.cells zero5 30)) := hw0
  have HG4 : Hid (w.heap.size = g4) := hg4
  rw [← hw0] at hb0' HB0'
  rw [hg4] at hb0' HB0'
  have hb0 := hb0'
  have HB0 : Hid (Bk w0 g4 30 zero5) := HB0'
  clear hw0 hg4 hb0' HB0'
  have hfi : ¬ (f : Int) < 0 := by omega
  have hfj : ¬ (s.size : Int) < (f : Int) := by omega
  have hbig : ¬ (65536 : Int) < (s.size : Int) - (f : Int) := by omega
  have hkk : f + 1 ≤ s.size := by omega
  have hkb : f + 1 = f + 1 := rfl
  have hli : (f : Int) < (s.size : Int) := by omega
  have csg := sign9_any (s[f]'hlt0)
  rw [show ([43, 45] : B).contains (s[f]'hlt0) = true from by rw [hch]; rfl] at csg
  have h45 : (((s[f]'hlt0).toNat : Int) == 45) = true := by rw [hch]; rfl
  clear hch
  rcases all_three true 1 (s.data.toList.drop (f + 1)) with ⟨hd, hh, hr, ho⟩ | ⟨p, hd, hh, hr, ho⟩ | ⟨p, q, hd, hh, hr, hlt, ho⟩ | ⟨p, q, hd, hh, hr, hlt, ho⟩
  · skip
    have cD := fun w => (dec9_any s (f + 1) 1 f true hs hkk hkb w).mono (fun e w' h => h.none hd)
    have cH := fun w => (hexa9_any s (f + 1) 1 f true hs hkk hkb w).mono (fun e w' h => h.none hh)
    have cR := fun w => (rat9_any s (f + 1) 1 f true hs hkk hkb w).mono (fun e w' h => h.none hr)
    have HO : Hid _ := ho
    clear ho hd hh hr hkb
    unfold zero5 at cD
    unfold zero5 at cH
    unfold zero5 at cR
    go_enter Tryz.func61, Tryz.ntmps61
    go_wp2_with (go_at_call 72; refine (csg _).mono ?_; rintro e w' ⟨rfl, hw⟩; rw [hw])
    rw [show w.alloc (.cells #[.int .i64 0, .bool false, .string ⟨#[]⟩, .int .i64 0, .string ⟨#[]⟩] 30) = w0 from HW0.out.symm, show w.heap.size = g4 from HG4.out]
    refine (cD _).mono ?_
    rintro e w1 ⟨hb1, rfl⟩
    have B14 := HB0.out.later hb1
    have hbA := hb0.trans (hb1.mono (by rw [← HG4.out]; exact hb0.size))
    have BN := Bk.new w1 30 zero5
    have hbn : Below w1.heap.size w1 (w1.alloc (.cells zero5 30)) := (Below.refl _ w1).alloc (Nat.le_refl _) _
    have B24 := B14.later hbn
    have hl4 := B14.lt
    have hbX : g4 ≤ w1.heap.size := Nat.le_of_lt hl4
    obtain ⟨g10, hg10⟩ : ∃ g10, g10 = w1.heap.size := ⟨_, rfl⟩
    have hbB := hbA.trans (hbn.mono hbX)
    clear hbX
    unfold zero5 at BN hbn hbB B24
    go_wp2_with fail
    obtain ⟨wa, hwa⟩ : ∃ wa, wa = w1.alloc (.cells #[.int .i64 0, .bool false, .string ⟨#[]⟩, .int .i64 0, .string ⟨#[]⟩] 30) := ⟨_, rfl⟩
    rw [← hwa, ← hg10]
    rw [← hwa] at BN hbB B24
    rw [← hg10] at BN hl4
    clear hwa hbn B14 hb1 hg10
    refine (cH _).mono ?_
    rintro e w2 ⟨hb2, rfl⟩
    have C4 := B24.later hb2
    have C10 := BN.later hb2
    have hbC := hbB.trans (hb2.mono (by have := B24.lt; omega))
    have hl10 := C10.lt
    have ne1 : ¬ g4 = g10 := by omega
    have ne2 : ¬ g10 = g4 := by omega
    obtain ⟨g13, hg13⟩ : ∃ g13, g13 = w2.heap.size := ⟨_, rfl⟩
    have ne3 : ¬ g10 = g13 := by omega
    have ne4 : ¬ g13 = g10 := by omega
    have ne5 : ¬ g4 = g13 := by omega
    have ne6 : ¬ g13 = g4 := by omega
    have le13 : g4 ≤ g13 := by omega
    have le10 : g4 ≤ g10 := by omega
    have HG13 : Hid (g13 = w2.heap.size) := hg13
    have h13 : w2.heap.size = g13 := hg13.symm
    clear B24 BN hb2 hbB hg13
    have t0 := C10.cell 0 rfl
    have tf0 := C10.frozen 0
    have t1 := C10.cell 1 rfl
    have tf1 := C10.frozen 1
    have t2 := C10.cell 2 rfl
    have tf2 := C10.frozen 2
    have t3 := C10.cell 3 rfl
    have tf3 := C10.frozen 3
    have t4 := C10.cell 4 rfl
    have tf4 := C10.frozen 4
    clear h13
    go_wp2_with fail
    have hg13 := HG13.out
    try rw [← hg13]
    have D10 := C10
    have D4 := C4
    have hbD := hbC
    obtain ⟨w5, hw5⟩ : ∃ w5, w5 = w2 := ⟨_, rfl⟩
    rw [← hw5]
    rw [← hw5] at D10 D4 hbD hg13
    clear hw5
    have hbm : Below w5.heap.size w5 (w5.alloc (.cells #[.int .i64 0, .bool false, .string ⟨#[]⟩, .int .i64 0, .string ⟨#[]⟩] 30)) := (Below.refl _ w5).alloc (Nat.le_refl _) _
    have E13 := Bk.new w5 30 #[.int .i64 0, .bool false, .string ⟨#[]⟩, .int .i64 0, .string ⟨#[]⟩]
    rw [← hg13] at E13
    clear hg13 HG13
    have E10 := D10.later hbm
    have E4 := D4.later hbm
    have hbE := hbD.trans (hbm.mono (by have := D4.lt; omega))
    generalize w5.alloc (.cells #[.int .i64 0, .bool false, .string ⟨#[]⟩, .int .i64 0, .string ⟨#[]⟩] 30) = w6 at *
    refine (cR _).mono ?_
    rintro e w3 ⟨hb3, rfl⟩
    have F13 := E13.later hb3
    have F10 := E10.later hb3
    have F4 := E4.later hb3
    have hbF := hbE.trans (hb3.mono (by have := E4.lt; omega))
    clear E13 E10 E4 hb3 hbE D10 D4 hbD hbm C10 C4 hbC
    have x0 := F13.cell 0 rfl
    have xf0 := F13.frozen 0
    have x1 := F13.cell 1 rfl
    have xf1 := F13.frozen 1
    have x2 := F13.cell 2 rfl
    have xf2 := F13.frozen 2
    have x3 := F13.cell 3 rfl
    have xf3 := F13.frozen 3
    have x4 := F13.cell 4 rfl
    have xf4 := F13.frozen 4
    have y0 := F10.cell 0 rfl
    have yf0 := F10.frozen 0
    have y1 := F10.cell 1 rfl
    have yf1 := F10.frozen 1
    have y2 := F10.cell 2 rfl
    have yf2 := F10.frozen 2
    have y3 := F10.cell 3 rfl
    have yf3 := F10.frozen 3
    have y4 := F10.cell 4 rfl
    have yf4 := F10.frozen 4
    have z0 := F4.cell 0 rfl
    have zf0 := F4.frozen 0
    have z1 := F4.cell 1 rfl
    have zf1 := F4.frozen 1
    have z2 := F4.cell 2 rfl
    have zf2 := F4.frozen 2
    have z3 := F4.cell 3 rfl
    have zf3 := F4.frozen 3
    have z4 := F4.cell 4 rfl
    have zf4 := F4.frozen 4
    have HF4 : Hid (Bk w3 g4 30 zero5) := F4
    clear F4 F10 F13
    go_wp2
    have HBF : Hid (Below g4 w w3) := hbF
    refine bodyPost_ret (results_c3 rfl _ _ g4 30 (nmA nmZ) _ rfl (Bk.all5 (by (repeat (refine Bk.set_ne ?_ (by assumption))); exact HF4.out) _ _ _ _ _) Tryz.underlying30 rfl (by kernel_rfl)) rfl ?_
    refine ⟨?_, ?_⟩
    · rw [HG4.out]
      refine below_set (below_set (below_set (below_set (below_set ?_ (Nat.le_refl _) (by rw [HG4.out]; exact Nat.le_refl _)) (Nat.le_refl _) (by rw [HG4.out]; exact Nat.le_refl _)) (Nat.le_refl _) (by rw [HG4.out]; exact Nat.le_refl _)) (Nat.le_refl _) (by rw [HG4.out]; exact Nat.le_refl _)) (Nat.le_refl _) (by rw [HG4.out]; exact Nat.le_refl _)
      repeat (refine below_set ?_ (by omega) (by rw [HG4.out]; exact Nat.le_refl _))
      exact HBF.out
    · exact Or.inl ⟨HO.out, rfl⟩
  · skip
    have cD := fun w => (dec9_any s (f + 1) 1 f true hs hkk hkb w).mono (fun e w' h => h.some hd)
    have cH := fun w => (hexa9_any s (f + 1) 1 f true hs hkk hkb w).mono (fun e w' h => h.none hh)
    have cR := fun w => (rat9_any s (f + 1) 1 f true hs hkk hkb w).mono (fun e w' h => h.none hr)
    have hng := dec_neg hd
    generalize hn1 : numR p = n1 at *
    have HN : Hid (nmA (numR p) = nmF n1 true) := by unfold Hid; rw [hn1]; unfold nmA nmF; rw [← hn1]; show _ = #[_, _, _, _, _]; rw [← hng]; rfl
    clear hn1 hng
    have HO : Hid _ := ho
    clear ho hd hh hr hkb
    generalize hE1 : f + p.stop = E1 at *
    have HE1 : Hid (f + p.stop = E1) := hE1
    clear hE1
    unfold nmF at cD
    unfold zero5 at cH
    unfold zero5 at cR
    go_enter Tryz.func61, Tryz.ntmps61
    go_wp2_with (go_at_call 72; refine (csg _).mono ?_; rintro e w' ⟨rfl, hw⟩; rw [hw])
    rw [show w.alloc (.cells #[.int .i64 0, .bool false, .string ⟨#[]⟩, .int .i64 0, .string ⟨#[]⟩] 30) = w0 from HW0.out.symm, show w.heap.size = g4 from HG4.out]
    refine (cD _).mono ?_
    rintro e w1 ⟨hb1, rfl⟩
    have B14 := HB0.out.later hb1
    have hbA := hb0.trans (hb1.mono (by rw [← HG4.out]; exact hb0.size))
    have BN := Bk.new w1 30 (nmF n1 false)
    have hbn : Below w1.heap.size w1 (w1.alloc (.cells (nmF n1 false) 30)) := (Below.refl _ w1).alloc (Nat.le_refl _) _
    have B24 := B14.later hbn
    have hl4 := B14.lt
    have hbX : g4 ≤ w1.heap.size := Nat.le_of_lt hl4
    obtain ⟨g10, hg10⟩ : ∃ g10, g10 = w1.heap.size := ⟨_, rfl⟩
    have hbB := hbA.trans (hbn.mono hbX)
    clear hbX
    unfold nmF at BN hbn hbB B24
    go_wp2_with fail
    obtain ⟨wa, hwa⟩ : ∃ wa, wa = w1.alloc (.cells #[.int .i64 n1.kind, .bool false, .string (str n1.num), .int .i64 n1.exp, .string (str n1.den)] 30) := ⟨_, rfl⟩
    rw [← hwa, ← hg10]
    rw [← hwa] at BN hbB B24
    rw [← hg10] at BN hl4
    clear hwa hbn B14 hb1 hg10
    refine (cH _).mono ?_
    rintro e w2 ⟨hb2, rfl⟩
    have C4 := B24.later hb2
    have C10 := BN.later hb2
    have hbC := hbB.trans (hb2.mono (by have := B24.lt; omega))
    have hl10 := C10.lt
    have ne1 : ¬ g4 = g10 := by omega
    have ne2 : ¬ g10 = g4 := by omega
    obtain ⟨g13, hg13⟩ : ∃ g13, g13 = w2.heap.size := ⟨_, rfl⟩
    have ne3 : ¬ g10 = g13 := by omega
    have ne4 : ¬ g13 = g10 := by omega
    have ne5 : ¬ g4 = g13 := by omega
    have ne6 : ¬ g13 = g4 := by omega
    have le13 : g4 ≤ g13 := by omega
    have le10 : g4 ≤ g10 := by omega
    have HG13 : Hid (g13 = w2.heap.size) := hg13
    have h13 : w2.heap.size = g13 := hg13.symm
    clear B24 BN hb2 hbB hg13
    have t0 := C10.cell 0 rfl
    have tf0 := C10.frozen 0
    have t1 := C10.cell 1 rfl
    have tf1 := C10.frozen 1
    have t2 := C10.cell 2 rfl
    have tf2 := C10.frozen 2
    have t3 := C10.cell 3 rfl
    have tf3 := C10.frozen 3
    have t4 := C10.cell 4 rfl
    have tf4 := C10.frozen 4
    clear h13
    go_wp2_with fail
    have hg13 := HG13.out
    try rw [← hg13]
    have D10 := C10
    have D4 := C4
    have hbD := hbC
    obtain ⟨w5, hw5⟩ : ∃ w5, w5 = w2 := ⟨_, rfl⟩
    rw [← hw5]
    rw [← hw5] at D10 D4 hbD hg13
    clear hw5
    have hbm : Below w5.heap.size w5 (w5.alloc (.cells #[.int .i64 0, .bool false, .string ⟨#[]⟩, .int .i64 0, .string ⟨#[]⟩] 30)) := (Below.refl _ w5).alloc (Nat.le_refl _) _
    have E13 := Bk.new w5 30 #[.int .i64 0, .bool false, .string ⟨#[]⟩, .int .i64 0, .string ⟨#[]⟩]
    rw [← hg13] at E13
    clear hg13 HG13
    have E10 := D10.later hbm
    have E4 := D4.later hbm
    have hbE := hbD.trans (hbm.mono (by have := D4.lt; omega))
    generalize w5.alloc (.cells #[.int .i64 0, .bool false, .string ⟨#[]⟩, .int .i64 0, .string ⟨#[]⟩] 30) = w6 at *
    refine (cR _).mono ?_
    rintro e w3 ⟨hb3, rfl⟩
    have F13 := E13.later hb3
    have F10 := E10.later hb3
    have F4 := E4.later hb3
    have hbF := hbE.trans (hb3.mono (by have := E4.lt; omega))
    clear E13 E10 E4 hb3 hbE D10 D4 hbD hbm C10 C4 hbC
    have x0 := F13.cell 0 rfl
    have xf0 := F13.frozen 0
    have x1 := F13.cell 1 rfl
    have xf1 := F13.frozen 1
    have x2 := F13.cell 2 rfl
    have xf2 := F13.frozen 2
    have x3 := F13.cell 3 rfl
    have xf3 := F13.frozen 3
    have x4 := F13.cell 4 rfl
    have xf4 := F13.frozen 4
    have y0 := F10.cell 0 rfl
    have yf0 := F10.frozen 0
    have y1 := F10.cell 1 rfl
    have yf1 := F10.frozen 1
    have y2 := F10.cell 2 rfl
    have yf2 := F10.frozen 2
    have y3 := F10.cell 3 rfl
    have yf3 := F10.frozen 3
    have y4 := F10.cell 4 rfl
    have yf4 := F10.frozen 4
    have z0 := F4.cell 0 rfl
    have zf0 := F4.frozen 0
    have z1 := F4.cell 1 rfl
    have zf1 := F4.frozen 1
    have z2 := F4.cell 2 rfl
    have zf2 := F4.frozen 2
    have z3 := F4.cell 3 rfl
    have zf3 := F4.frozen 3
    have z4 := F4.cell 4 rfl
    have zf4 := F4.frozen 4
    have HF4 : Hid (Bk w3 g4 30 zero5) := F4
    clear F4 F10 F13
    go_wp2
    have HBF : Hid (Below g4 w w3) := hbF
    refine bodyPost_ret (results_c3 rfl _ _ g4 30 (nmF n1 true) _ rfl (Bk.all5 (by (repeat (refine Bk.set_ne ?_ (by assumption))); exact HF4.out) _ _ _ _ _) Tryz.underlying30 rfl (by kernel_rfl)) rfl ?_
    refine ⟨?_, ?_⟩
    · rw [HG4.out]
      refine below_set (below_set (below_set (below_set (below_set ?_ (Nat.le_refl _) (by rw [HG4.out]; exact Nat.le_refl _)) (Nat.le_refl _) (by rw [HG4.out]; exact Nat.le_refl _)) (Nat.le_refl _) (by rw [HG4.out]; exact Nat.le_refl _)) (Nat.le_refl _) (by rw [HG4.out]; exact Nat.le_refl _)) (Nat.le_refl _) (by rw [HG4.out]; exact Nat.le_refl _)
      repeat (refine below_set ?_ (by omega) (by rw [HG4.out]; exact Nat.le_refl _))
      exact HBF.out
    · exact Or.inr ⟨p, HO.out, by rw [HN.out, HE1.out]; rfl⟩
  · skip
    have cD := fun w => (dec9_any s (f + 1) 1 f true hs hkk hkb w).mono (fun e w' h => h.some hd)
    have cH := fun w => (hexa9_any s (f + 1) 1 f true hs hkk hkb w).mono (fun e w' h => h.some hh)
    have cR := fun w => (rat9_any s (f + 1) 1 f true hs hkk hkb w).mono (fun e w' h => h.none hr)
    have hng := hex_neg hh
    generalize hn0 : numR p = n1 at *
    generalize hn1 : numR q = n2 at *
    have HN : Hid (nmA (numR q) = nmF n2 true) := by unfold Hid; rw [hn1]; unfold nmA nmF; rw [← hn1]; show _ = #[_, _, _, _, _]; rw [← hng]; rfl
    clear hn0
    clear hn1 hng
    have hgt : ((f + p.stop : Nat) : Int) < ((f + q.stop : Nat) : Int) := by omega
    have HO : Hid _ := ho
    clear ho hd hh hr hkb
    generalize hE1 : f + p.stop = E1 at *
    generalize hE2 : f + q.stop = E2 at *
    have HE1 : Hid (f + p.stop = E1) := hE1
    clear hE1
    have HE2 : Hid (f + q.stop = E2) := hE2
    clear hE2
    unfold nmF at cD
    unfold nmF at cH
    unfold zero5 at cR
    go_enter Tryz.func61, Tryz.ntmps61
    go_wp2_with (go_at_call 72; refine (csg _).mono ?_; rintro e w' ⟨rfl, hw⟩; rw [hw])
    rw [show w.alloc (.cells #[.int .i64 0, .bool false, .string ⟨#[]⟩, .int .i64 0, .string ⟨#[]⟩] 30) = w0 from HW0.out.symm, show w.heap.size = g4 from HG4.out]
    refine (cD _).mono ?_
    rintro e w1 ⟨hb1, rfl⟩
    have B14 := HB0.out.later hb1
    have hbA := hb0.trans (hb1.mono (by rw [← HG4.out]; exact hb0.size))
    have BN := Bk.new w1 30 (nmF n1 false)
    have hbn : Below w1.heap.size w1 (w1.alloc (.cells (nmF n1 false) 30)) := (Below.refl _ w1).alloc (Nat.le_refl _) _
    have B24 := B14.later hbn
    have hl4 := B14.lt
    have hbX : g4 ≤ w1.heap.size := Nat.le_of_lt hl4
    obtain ⟨g10, hg10⟩ : ∃ g10, g10 = w1.heap.size := ⟨_, rfl⟩
    have hbB := hbA.trans (hbn.mono hbX)
    clear hbX
    unfold nmF at BN hbn hbB B24
    go_wp2_with fail
    obtain ⟨wa, hwa⟩ : ∃ wa, wa = w1.alloc (.cells #[.int .i64 n1.kind, .bool false, .string (str n1.num), .int .i64 n1.exp, .string (str n1.den)] 30) := ⟨_, rfl⟩
    rw [← hwa, ← hg10]
    rw [← hwa] at BN hbB B24
    rw [← hg10] at BN hl4
    clear hwa hbn B14 hb1 hg10
    refine (cH _).mono ?_
    rintro e w2 ⟨hb2, rfl⟩
    have C4 := B24.later hb2
    have C10 := BN.later hb2
    have hbC := hbB.trans (hb2.mono (by have := B24.lt; omega))
    have hl10 := C10.lt
    have ne1 : ¬ g4 = g10 := by omega
    have ne2 : ¬ g10 = g4 := by omega
    obtain ⟨g13, hg13⟩ : ∃ g13, g13 = w2.heap.size := ⟨_, rfl⟩
    have ne3 : ¬ g10 = g13 := by omega
    have ne4 : ¬ g13 = g10 := by omega
    have ne5 : ¬ g4 = g13 := by omega
    have ne6 : ¬ g13 = g4 := by omega
    have le13 : g4 ≤ g13 := by omega
    have le10 : g4 ≤ g10 := by omega
    have HG13 : Hid (g13 = w2.heap.size) := hg13
    have h13 : w2.heap.size = g13 := hg13.symm
    clear B24 BN hb2 hbB hg13
    have t0 := C10.cell 0 rfl
    have tf0 := C10.frozen 0
    have t1 := C10.cell 1 rfl
    have tf1 := C10.frozen 1
    have t2 := C10.cell 2 rfl
    have tf2 := C10.frozen 2
    have t3 := C10.cell 3 rfl
    have tf3 := C10.frozen 3
    have t4 := C10.cell 4 rfl
    have tf4 := C10.frozen 4
    have D10 := Bk.set (Bk.set (Bk.set (Bk.set (Bk.set C10 0 (.int .i64 n2.kind)) 1 (.bool false)) 2 (.string (str n2.num))) 3 (.int .i64 n2.exp)) 4 (.string (str n2.den))
    have T10 := Tn.all5 w2 g10 (.int .i64 n2.kind) (.bool false) (.string (str n2.num)) (.int .i64 n2.exp) (.string (str n2.den))
    have D4 := C4.tn T10 ne1
    have hbD := Tn.below hbC T10 (by omega) (by rw [HG4.out]; exact Nat.le_refl _)
    have HZ13 : Hid (w2.heap.size = (((((w2.setCell ⟨g10, 0, none⟩ (.int .i64 n2.kind)).setCell ⟨g10, 1, none⟩ (.bool false)).setCell ⟨g10, 2, none⟩ (.string (str n2.num))).setCell ⟨g10, 3, none⟩ (.int .i64 n2.exp)).setCell ⟨g10, 4, none⟩ (.string (str n2.den))).heap.size) := by simp [Hid, World.setCell]
    clear h13
    go_wp2_with fail
    have hg13 := HG13.out
    try rw [← hg13]
    rw [HZ13.out] at hg13
    clear HZ13
    generalize ((((w2.setCell ⟨g10, 0, none⟩ (.int .i64 n2.kind)).setCell ⟨g10, 1, none⟩ (.bool false)).setCell ⟨g10, 2, none⟩ (.string (str n2.num))).setCell ⟨g10, 3, none⟩ (.int .i64 n2.exp)).setCell ⟨g10, 4, none⟩ (.string (str n2.den)) = w5 at *
    have hbm : Below w5.heap.size w5 (w5.alloc (.cells #[.int .i64 n2.kind, .bool false, .string (str n2.num), .int .i64 n2.exp, .string (str n2.den)] 30)) := (Below.refl _ w5).alloc (Nat.le_refl _) _
    have E13 := Bk.new w5 30 #[.int .i64 n2.kind, .bool false, .string (str n2.num), .int .i64 n2.exp, .string (str n2.den)]
    rw [← hg13] at E13
    clear hg13 HG13
    have E10 := D10.later hbm
    have E4 := D4.later hbm
    have hbE := hbD.trans (hbm.mono (by have := D4.lt; omega))
    generalize w5.alloc (.cells #[.int .i64 n2.kind, .bool false, .string (str n2.num), .int .i64 n2.exp, .string (str n2.den)] 30) = w6 at *
    refine (cR _).mono ?_
    rintro e w3 ⟨hb3, rfl⟩
    have F13 := E13.later hb3
    have F10 := E10.later hb3
    have F4 := E4.later hb3
    have hbF := hbE.trans (hb3.mono (by have := E4.lt; omega))
    clear E13 E10 E4 hb3 hbE D10 D4 hbD hbm C10 C4 hbC
    have x0 := F13.cell 0 rfl
    have xf0 := F13.frozen 0
    have x1 := F13.cell 1 rfl
    have xf1 := F13.frozen 1
    have x2 := F13.cell 2 rfl
    have xf2 := F13.frozen 2
    have x3 := F13.cell 3 rfl
    have xf3 := F13.frozen 3
    have x4 := F13.cell 4 rfl
    have xf4 := F13.frozen 4
    have y0 := F10.cell 0 rfl
    have yf0 := F10.frozen 0
    have y1 := F10.cell 1 rfl
    have yf1 := F10.frozen 1
    have y2 := F10.cell 2 rfl
    have yf2 := F10.frozen 2
    have y3 := F10.cell 3 rfl
    have yf3 := F10.frozen 3
    have y4 := F10.cell 4 rfl
    have yf4 := F10.frozen 4
    have z0 := F4.cell 0 rfl
    have zf0 := F4.frozen 0
    have z1 := F4.cell 1 rfl
    have zf1 := F4.frozen 1
    have z2 := F4.cell 2 rfl
    have zf2 := F4.frozen 2
    have z3 := F4.cell 3 rfl
    have zf3 := F4.frozen 3
    have z4 := F4.cell 4 rfl
    have zf4 := F4.frozen 4
    have HF4 : Hid (Bk w3 g4 30 zero5) := F4
    clear F4 F10 F13
    go_wp2
    have HBF : Hid (Below g4 w w3) := hbF
    refine bodyPost_ret (results_c3 rfl _ _ g4 30 (nmF n2 true) _ rfl (Bk.all5 (by (repeat (refine Bk.set_ne ?_ (by assumption))); exact HF4.out) _ _ _ _ _) Tryz.underlying30 rfl (by kernel_rfl)) rfl ?_
    refine ⟨?_, ?_⟩
    · rw [HG4.out]
      refine below_set (below_set (below_set (below_set (below_set ?_ (Nat.le_refl _) (by rw [HG4.out]; exact Nat.le_refl _)) (Nat.le_refl _) (by rw [HG4.out]; exact Nat.le_refl _)) (Nat.le_refl _) (by rw [HG4.out]; exact Nat.le_refl _)) (Nat.le_refl _) (by rw [HG4.out]; exact Nat.le_refl _)) (Nat.le_refl _) (by rw [HG4.out]; exact Nat.le_refl _)
      repeat (refine below_set ?_ (by omega) (by rw [HG4.out]; exact Nat.le_refl _))
      exact HBF.out
    · exact Or.inr ⟨q, HO.out, by rw [HN.out, HE2.out]; rfl⟩
  · skip
    have cD := fun w => (dec9_any s (f + 1) 1 f true hs hkk hkb w).mono (fun e w' h => h.some hd)
    have cH := fun w => (hexa9_any s (f + 1) 1 f true hs hkk hkb w).mono (fun e w' h => h.none hh)
    have cR := fun w => (rat9_any s (f + 1) 1 f true hs hkk hkb w).mono (fun e w' h => h.some hr)
    have hng := rat_neg hr
    generalize hn0 : numR p = n1 at *
    generalize hn1 : numR q = n2 at *
    have HN : Hid (nmA (numR q) = nmF n2 true) := by unfold Hid; rw [hn1]; unfold nmA nmF; rw [← hn1]; show _ = #[_, _, _, _, _]; rw [← hng]; rfl
    clear hn0
    clear hn1 hng
    have hgt : ((f + p.stop : Nat) : Int) < ((f + q.stop : Nat) : Int) := by omega
    have HO : Hid _ := ho
    clear ho hd hh hr hkb
    generalize hE1 : f + p.stop = E1 at *
    generalize hE2 : f + q.stop = E2 at *
    have HE1 : Hid (f + p.stop = E1) := hE1
    clear hE1
    have HE2 : Hid (f + q.stop = E2) := hE2
    clear hE2
    unfold nmF at cD
    unfold zero5 at cH
    unfold nmF at cR
    go_enter Tryz.func61, Tryz.ntmps61
    go_wp2_with (go_at_call 72; refine (csg _).mono ?_; rintro e w' ⟨rfl, hw⟩; rw [hw])
    rw [show w.alloc (.cells #[.int .i64 0, .bool false, .string ⟨#[]⟩, .int .i64 0, .string ⟨#[]⟩] 30) = w0 from HW0.out.symm, show w.heap.size = g4 from HG4.out]
    refine (cD _).mono ?_
    rintro e w1 ⟨hb1, rfl⟩
    have B14 := HB0.out.later hb1
    have hbA := hb0.trans (hb1.mono (by rw [← HG4.out]; exact hb0.size))
    have BN := Bk.new w1 30 (nmF n1 false)
    have hbn : Below w1.heap.size w1 (w1.alloc (.cells (nmF n1 false) 30)) := (Below.refl _ w1).alloc (Nat.le_refl _) _
    have B24 := B14.later hbn
    have hl4 := B14.lt
    have hbX : g4 ≤ w1.heap.size := Nat.le_of_lt hl4
    obtain ⟨g10, hg10⟩ : ∃ g10, g10 = w1.heap.size := ⟨_, rfl⟩
    have hbB := hbA.trans (hbn.mono hbX)
    clear hbX
    unfold nmF at BN hbn hbB B24
    go_wp2_with fail
    obtain ⟨wa, hwa⟩ : ∃ wa, wa = w1.alloc (.cells #[.int .i64 n1.kind, .bool false, .string (str n1.num), .int .i64 n1.exp, .string (str n1.den)] 30) := ⟨_, rfl⟩
    rw [← hwa, ← hg10]
    rw [← hwa] at BN hbB B24
    rw [← hg10] at BN hl4
    clear hwa hbn B14 hb1 hg10
    refine (cH _).mono ?_
    rintro e w2 ⟨hb2, rfl⟩
    have C4 := B24.later hb2
    have C10 := BN.later hb2
    have hbC := hbB.trans (hb2.mono (by have := B24.lt; omega))
    have hl10 := C10.lt
    have ne1 : ¬ g4 = g10 := by omega
    have ne2 : ¬ g10 = g4 := by omega
    obtain ⟨g13, hg13⟩ : ∃ g13, g13 = w2.heap.size := ⟨_, rfl⟩
    have ne3 : ¬ g10 = g13 := by omega
    have ne4 : ¬ g13 = g10 := by omega
    have ne5 : ¬ g4 = g13 := by omega
    have ne6 : ¬ g13 = g4 := by omega
    have le13 : g4 ≤ g13 := by omega
    have le10 : g4 ≤ g10 := by omega
    have HG13 : Hid (g13 = w2.heap.size) := hg13
    have h13 : w2.heap.size = g13 := hg13.symm
    clear B24 BN hb2 hbB hg13
    have t0 := C10.cell 0 rfl
    have tf0 := C10.frozen 0
    have t1 := C10.cell 1 rfl
    have tf1 := C10.frozen 1
    have t2 := C10.cell 2 rfl
    have tf2 := C10.frozen 2
    have t3 := C10.cell 3 rfl
    have tf3 := C10.frozen 3
    have t4 := C10.cell 4 rfl
    have tf4 := C10.frozen 4
    clear h13
    go_wp2_with fail
    have hg13 := HG13.out
    try rw [← hg13]
    have D10 := C10
    have D4 := C4
    have hbD := hbC
    obtain ⟨w5, hw5⟩ : ∃ w5, w5 = w2 := ⟨_, rfl⟩
    rw [← hw5]
    rw [← hw5] at D10 D4 hbD hg13
    clear hw5
    have hbm : Below w5.heap.size w5 (w5.alloc (.cells #[.int .i64 0, .bool false, .string ⟨#[]⟩, .int .i64 0, .string ⟨#[]⟩] 30)) := (Below.refl _ w5).alloc (Nat.le_refl _) _
    have E13 := Bk.new w5 30 #[.int .i64 0, .bool false, .string ⟨#[]⟩, .int .i64 0, .string ⟨#[]⟩]
    rw [← hg13] at E13
    clear hg13 HG13
    have E10 := D10.later hbm
    have E4 := D4.later hbm
    have hbE := hbD.trans (hbm.mono (by have := D4.lt; omega))
    generalize w5.alloc (.cells #[.int .i64 0, .bool false, .string ⟨#[]⟩, .int .i64 0, .string ⟨#[]⟩] 30) = w6 at *
    refine (cR _).mono ?_
    rintro e w3 ⟨hb3, rfl⟩
    have F13 := E13.later hb3
    have F10 := E10.later hb3
    have F4 := E4.later hb3
    have hbF := hbE.trans (hb3.mono (by have := E4.lt; omega))
    clear E13 E10 E4 hb3 hbE D10 D4 hbD hbm C10 C4 hbC
    have x0 := F13.cell 0 rfl
    have xf0 := F13.frozen 0
    have x1 := F13.cell 1 rfl
    have xf1 := F13.frozen 1
    have x2 := F13.cell 2 rfl
    have xf2 := F13.frozen 2
    have x3 := F13.cell 3 rfl
    have xf3 := F13.frozen 3
    have x4 := F13.cell 4 rfl
    have xf4 := F13.frozen 4
    have y0 := F10.cell 0 rfl
    have yf0 := F10.frozen 0
    have y1 := F10.cell 1 rfl
    have yf1 := F10.frozen 1
    have y2 := F10.cell 2 rfl
    have yf2 := F10.frozen 2
    have y3 := F10.cell 3 rfl
    have yf3 := F10.frozen 3
    have y4 := F10.cell 4 rfl
    have yf4 := F10.frozen 4
    have z0 := F4.cell 0 rfl
    have zf0 := F4.frozen 0
    have z1 := F4.cell 1 rfl
    have zf1 := F4.frozen 1
    have z2 := F4.cell 2 rfl
    have zf2 := F4.frozen 2
    have z3 := F4.cell 3 rfl
    have zf3 := F4.frozen 3
    have z4 := F4.cell 4 rfl
    have zf4 := F4.frozen 4
    go_upto_region 17 with (fail)
    have T13 := Tn.all5 w3 g13 (.int .i64 n2.kind) (.bool false) (.string (str n2.num)) (.int .i64 n2.exp) (.string (str n2.den))
    have G13 := Bk.all5 F13 (.int .i64 n2.kind) (.bool false) (.string (str n2.num)) (.int .i64 n2.exp) (.string (str n2.den))
    have G10 := F10.tn T13 ne3
    have G4 := F4.tn T13 ne5
    have hbG := Tn.below hbF T13 le13 (by rw [HG4.out]; exact Nat.le_refl _)
    clear x0 xf0 x1 xf1 x2 xf2 x3 xf3 x4 xf4 y0 yf0 y1 yf1 y2 yf2 y3 yf3 y4 yf4 z0 zf0 z1 zf1 z2 zf2 z3 zf3 z4 zf4 F4 F10 F13 hbF T13
    generalize ((((w3.setCell ⟨g13, 0, none⟩ (.int .i64 n2.kind)).setCell ⟨g13, 1, none⟩ (.bool false)).setCell ⟨g13, 2, none⟩ (.string (str n2.num))).setCell ⟨g13, 3, none⟩ (.int .i64 n2.exp)).setCell ⟨g13, 4, none⟩ (.string (str n2.den)) = w7 at *
    have x0 := G13.cell 0 rfl
    have xf0 := G13.frozen 0
    have x1 := G13.cell 1 rfl
    have xf1 := G13.frozen 1
    have x2 := G13.cell 2 rfl
    have xf2 := G13.frozen 2
    have x3 := G13.cell 3 rfl
    have xf3 := G13.frozen 3
    have x4 := G13.cell 4 rfl
    have xf4 := G13.frozen 4
    have y0 := G10.cell 0 rfl
    have yf0 := G10.frozen 0
    have y1 := G10.cell 1 rfl
    have yf1 := G10.frozen 1
    have y2 := G10.cell 2 rfl
    have yf2 := G10.frozen 2
    have y3 := G10.cell 3 rfl
    have yf3 := G10.frozen 3
    have y4 := G10.cell 4 rfl
    have yf4 := G10.frozen 4
    have z0 := G4.cell 0 rfl
    have zf0 := G4.frozen 0
    have z1 := G4.cell 1 rfl
    have zf1 := G4.frozen 1
    have z2 := G4.cell 2 rfl
    have zf2 := G4.frozen 2
    have z3 := G4.cell 3 rfl
    have zf3 := G4.frozen 3
    have z4 := G4.cell 4 rfl
    have zf4 := G4.frozen 4
    go_upto_region 24 with (fail)
    have T10 := (Tn.all5 w7 g10 (.int .i64 n2.kind) (.bool false) (.string (str n2.num)) (.int .i64 n2.exp) (.string (str n2.den))).set 1 (.bool true)
    have J10 := Bk.six G10 (.int .i64 n2.kind) (.bool false) (.string (str n2.num)) (.int .i64 n2.exp) (.string (str n2.den)) (.bool true)
    have J4 := G4.tn T10 ne1
    have hbJ := Tn.below hbG T10 le10 (by rw [HG4.out]; exact Nat.le_refl _)
    clear x0 xf0 x1 xf1 x2 xf2 x3 xf3 x4 xf4 y0 yf0 y1 yf1 y2 yf2 y3 yf3 y4 yf4 z0 zf0 z1 zf1 z2 zf2 z3 zf3 z4 zf4 G4 G10 G13 hbG T10
    generalize (((((w7.setCell ⟨g10, 0, none⟩ (.int .i64 n2.kind)).setCell ⟨g10, 1, none⟩ (.bool false)).setCell ⟨g10, 2, none⟩ (.string (str n2.num))).setCell ⟨g10, 3, none⟩ (.int .i64 n2.exp)).setCell ⟨g10, 4, none⟩ (.string (str n2.den))).setCell ⟨g10, 1, none⟩ (.bool true) = w8 at *
    have y0 := J10.cell 0 rfl
    have y1 := J10.cell 1 rfl
    have y2 := J10.cell 2 rfl
    have y3 := J10.cell 3 rfl
    have y4 := J10.cell 4 rfl
    have z0 := J4.cell 0 rfl
    have zf0 := J4.frozen 0
    have z1 := J4.cell 1 rfl
    have zf1 := J4.frozen 1
    have z2 := J4.cell 2 rfl
    have zf2 := J4.frozen 2
    have z3 := J4.cell 3 rfl
    have zf3 := J4.frozen 3
    have z4 := J4.cell 4 rfl
    have zf4 := J4.frozen 4
    have HF4 : Hid (Bk w8 g4 30 zero5) := J4
    have hbF := hbJ
    clear J4 J10 hbJ
    go_wp2
    have HBF : Hid (Below g4 w w8) := hbF
    refine bodyPost_ret (results_c3 rfl _ _ g4 30 (nmF n2 true) _ rfl (Bk.all5 (by (repeat (refine Bk.set_ne ?_ (by assumption))); exact HF4.out) _ _ _ _ _) Tryz.underlying30 rfl (by kernel_rfl)) rfl ?_
    refine ⟨?_, ?_⟩
    · rw [HG4.out]
      refine below_set (below_set (below_set (below_set (below_set ?_ (Nat.le_refl _) (by rw [HG4.out]; exact Nat.le_refl _)) (Nat.le_refl _) (by rw [HG4.out]; exact Nat.le_refl _)) (Nat.le_refl _) (by rw [HG4.out]; exact Nat.le_refl _)) (Nat.le_refl _) (by rw [HG4.out]; exact Nat.le_refl _)) (Nat.le_refl _) (by rw [HG4.out]; exact Nat.le_refl _)
      repeat (refine below_set ?_ (by omega) (by rw [HG4.out]; exact Nat.le_refl _))
      exact HBF.out
    · exact Or.inr ⟨q, HO.out, by rw [HN.out, HE2.out]; rfl⟩
set_option maxHeartbeats 12800000 in
set_option maxRecDepth 100000 in
theorem rscan9_plus (s : ByteArray) (f : Nat) (hs : s.size ≤ 3000000) (hsm : s.size ≤ f + 65536) (hf : f ≤ s.size) (w : World) (hlt0 : f < s.size) (hch : (s[f]'hlt0) = 43) :
    Calls Tryz.prog 61 #[.string s, .int .i64 (f : Int)] w (RScanR w f (refAll false 1 (s.data.toList.drop (f + 1)))) := by
  have hb0' : Below w.heap.size w (w.alloc (.cells zero5 30)) := (Below.refl _ w).alloc (Nat.le_refl _) _
  have HB0' := Bk.new w 30 zero5
  obtain ⟨w0, hw0⟩ : ∃ w0, w0 = w.alloc (.cells zero5 30) := ⟨_, rfl⟩
  obtain ⟨g4, hg4⟩ : ∃ g4, w.heap.size = g4 := ⟨_, rfl⟩
  have HW0 : Hid (w0 = w.alloc (.cells zero5 30)) := hw0
  have HG4 : Hid (w.heap.size = g4) := hg4
  rw [← hw0] at hb0' HB0'
  rw [hg4] at hb0' HB0'
  have hb0 := hb0'
  have HB0 : Hid (Bk w0 g4 30 zero5) := HB0'
  clear hw0 hg4 hb0' HB0'
  have hfi : ¬ (f : Int) < 0 := by omega
  have hfj : ¬ (s.size : Int) < (f : Int) := by omega
  have hbig : ¬ (65536 : Int) < (s.size : Int) - (f : Int) := by omega
  have hkk : f + 1 ≤ s.size := by omega
  have hkb : f + 1 = f + 1 := rfl
  have hli : (f : Int) < (s.size : Int) := by omega
  have csg := sign9_any (s[f]'hlt0)
  rw [show ([43, 45] : B).contains (s[f]'hlt0) = true from by rw [hch]; rfl] at csg
  have h45 : (((s[f]'hlt0).toNat : Int) == 45) = false := by rw [hch]; rfl
  clear hch
  rcases all_three false 1 (s.data.toList.drop (f + 1)) with ⟨hd, hh, hr, ho⟩ | ⟨p, hd, hh, hr, ho⟩ | ⟨p, q, hd, hh, hr, hlt, ho⟩ | ⟨p, q, hd, hh, hr, hlt, ho⟩
  · skip
    have cD := fun w => (dec9_any s (f + 1) 1 f false hs hkk hkb w).mono (fun e w' h => h.none hd)
    have cH := fun w => (hexa9_any s (f + 1) 1 f false hs hkk hkb w).mono (fun e w' h => h.none hh)
    have cR := fun w => (rat9_any s (f + 1) 1 f false hs hkk hkb w).mono (fun e w' h => h.none hr)
    have HO : Hid _ := ho
    clear ho hd hh hr hkb
    unfold zero5 at cD
    unfold zero5 at cH
    unfold zero5 at cR
    go_enter Tryz.func61, Tryz.ntmps61
    go_wp2_with (go_at_call 72; refine (csg _).mono ?_; rintro e w' ⟨rfl, hw⟩; rw [hw])
    rw [show w.alloc (.cells #[.int .i64 0, .bool false, .string ⟨#[]⟩, .int .i64 0, .string ⟨#[]⟩] 30) = w0 from HW0.out.symm, show w.heap.size = g4 from HG4.out]
    refine (cD _).mono ?_
    rintro e w1 ⟨hb1, rfl⟩
    have B14 := HB0.out.later hb1
    have hbA := hb0.trans (hb1.mono (by rw [← HG4.out]; exact hb0.size))
    have BN := Bk.new w1 30 zero5
    have hbn : Below w1.heap.size w1 (w1.alloc (.cells zero5 30)) := (Below.refl _ w1).alloc (Nat.le_refl _) _
    have B24 := B14.later hbn
    have hl4 := B14.lt
    have hbX : g4 ≤ w1.heap.size := Nat.le_of_lt hl4
    obtain ⟨g10, hg10⟩ : ∃ g10, g10 = w1.heap.size := ⟨_, rfl⟩
    have hbB := hbA.trans (hbn.mono hbX)
    clear hbX
    unfold zero5 at BN hbn hbB B24
    go_wp2_with fail
    obtain ⟨wa, hwa⟩ : ∃ wa, wa = w1.alloc (.cells #[.int .i64 0, .bool false, .string ⟨#[]⟩, .int .i64 0, .string ⟨#[]⟩] 30) := ⟨_, rfl⟩
    rw [← hwa, ← hg10]
    rw [← hwa] at BN hbB B24
    rw [← hg10] at BN hl4
    clear hwa hbn B14 hb1 hg10
    refine (cH _).mono ?_
    rintro e w2 ⟨hb2, rfl⟩
    have C4 := B24.later hb2
    have C10 := BN.later hb2
    have hbC := hbB.trans (hb2.mono (by have := B24.lt; omega))
    have hl10 := C10.lt
    have ne1 : ¬ g4 = g10 := by omega
    have ne2 : ¬ g10 = g4 := by omega
    obtain ⟨g13, hg13⟩ : ∃ g13, g13 = w2.heap.size := ⟨_, rfl⟩
    have ne3 : ¬ g10 = g13 := by omega
    have ne4 : ¬ g13 = g10 := by omega
    have ne5 : ¬ g4 = g13 := by omega
    have ne6 : ¬ g13 = g4 := by omega
    have le13 : g4 ≤ g13 := by omega
    have le10 : g4 ≤ g10 := by omega
    have HG13 : Hid (g13 = w2.heap.size) := hg13
    have h13 : w2.heap.size = g13 := hg13.symm
    clear B24 BN hb2 hbB hg13
    have t0 := C10.cell 0 rfl
    have tf0 := C10.frozen 0
    have t1 := C10.cell 1 rfl
    have tf1 := C10.frozen 1
    have t2 := C10.cell 2 rfl
    have tf2 := C10.frozen 2
    have t3 := C10.cell 3 rfl
    have tf3 := C10.frozen 3
    have t4 := C10.cell 4 rfl
    have tf4 := C10.frozen 4
    clear h13
    go_wp2_with fail
    have hg13 := HG13.out
    try rw [← hg13]
    have D10 := C10
    have D4 := C4
    have hbD := hbC
    obtain ⟨w5, hw5⟩ : ∃ w5, w5 = w2 := ⟨_, rfl⟩
    rw [← hw5]
    rw [← hw5] at D10 D4 hbD hg13
    clear hw5
    have hbm : Below w5.heap.size w5 (w5.alloc (.cells #[.int .i64 0, .bool false, .string ⟨#[]⟩, .int .i64 0, .string ⟨#[]⟩] 30)) := (Below.refl _ w5).alloc (Nat.le_refl _) _
    have E13 := Bk.new w5 30 #[.int .i64 0, .bool false, .string ⟨#[]⟩, .int .i64 0, .string ⟨#[]⟩]
    rw [← hg13] at E13
    clear hg13 HG13
    have E10 := D10.later hbm
    have E4 := D4.later hbm
    have hbE := hbD.trans (hbm.mono (by have := D4.lt; omega))
    generalize w5.alloc (.cells #[.int .i64 0, .bool false, .string ⟨#[]⟩, .int .i64 0, .string ⟨#[]⟩] 30) = w6 at *
    refine (cR _).mono ?_
    rintro e w3 ⟨hb3, rfl⟩
    have F13 := E13.later hb3
    have F10 := E10.later hb3
    have F4 := E4.later hb3
    have hbF := hbE.trans (hb3.mono (by have := E4.lt; omega))
    clear E13 E10 E4 hb3 hbE D10 D4 hbD hbm C10 C4 hbC
    have x0 := F13.cell 0 rfl
    have xf0 := F13.frozen 0
    have x1 := F13.cell 1 rfl
    have xf1 := F13.frozen 1
    have x2 := F13.cell 2 rfl
    have xf2 := F13.frozen 2
    have x3 := F13.cell 3 rfl
    have xf3 := F13.frozen 3
    have x4 := F13.cell 4 rfl
    have xf4 := F13.frozen 4
    have y0 := F10.cell 0 rfl
    have yf0 := F10.frozen 0
    have y1 := F10.cell 1 rfl
    have yf1 := F10.frozen 1
    have y2 := F10.cell 2 rfl
    have yf2 := F10.frozen 2
    have y3 := F10.cell 3 rfl
    have yf3 := F10.frozen 3
    have y4 := F10.cell 4 rfl
    have yf4 := F10.frozen 4
    have z0 := F4.cell 0 rfl
    have zf0 := F4.frozen 0
    have z1 := F4.cell 1 rfl
    have zf1 := F4.frozen 1
    have z2 := F4.cell 2 rfl
    have zf2 := F4.frozen 2
    have z3 := F4.cell 3 rfl
    have zf3 := F4.frozen 3
    have z4 := F4.cell 4 rfl
    have zf4 := F4.frozen 4
    have HF4 : Hid (Bk w3 g4 30 zero5) := F4
    clear F4 F10 F13
    go_wp2
    have HBF : Hid (Below g4 w w3) := hbF
    refine bodyPost_ret (results_c3 rfl _ _ g4 30 (nmA nmZ) _ rfl (Bk.all5 (by (repeat (refine Bk.set_ne ?_ (by assumption))); exact HF4.out) _ _ _ _ _) Tryz.underlying30 rfl (by kernel_rfl)) rfl ?_
    refine ⟨?_, ?_⟩
    · rw [HG4.out]
      refine below_set (below_set (below_set (below_set (below_set ?_ (Nat.le_refl _) (by rw [HG4.out]; exact Nat.le_refl _)) (Nat.le_refl _) (by rw [HG4.out]; exact Nat.le_refl _)) (Nat.le_refl _) (by rw [HG4.out]; exact Nat.le_refl _)) (Nat.le_refl _) (by rw [HG4.out]; exact Nat.le_refl _)) (Nat.le_refl _) (by rw [HG4.out]; exact Nat.le_refl _)
      repeat (refine below_set ?_ (by omega) (by rw [HG4.out]; exact Nat.le_refl _))
      exact HBF.out
    · exact Or.inl ⟨HO.out, rfl⟩
  · skip
    have cD := fun w => (dec9_any s (f + 1) 1 f false hs hkk hkb w).mono (fun e w' h => h.some hd)
    have cH := fun w => (hexa9_any s (f + 1) 1 f false hs hkk hkb w).mono (fun e w' h => h.none hh)
    have cR := fun w => (rat9_any s (f + 1) 1 f false hs hkk hkb w).mono (fun e w' h => h.none hr)
    have hng := dec_neg hd
    generalize hn1 : numR p = n1 at *
    have HN : Hid (nmA (numR p) = nmF n1 false) := by unfold Hid; rw [hn1]; unfold nmA nmF; rw [← hn1]; show _ = #[_, _, _, _, _]; rw [← hng]; rfl
    clear hn1 hng
    have HO : Hid _ := ho
    clear ho hd hh hr hkb
    generalize hE1 : f + p.stop = E1 at *
    have HE1 : Hid (f + p.stop = E1) := hE1
    clear hE1
    unfold nmF at cD
    unfold zero5 at cH
    unfold zero5 at cR
    go_enter Tryz.func61, Tryz.ntmps61
    go_wp2_with (go_at_call 72; refine (csg _).mono ?_; rintro e w' ⟨rfl, hw⟩; rw [hw])
    rw [show w.alloc (.cells #[.int .i64 0, .bool false, .string ⟨#[]⟩, .int .i64 0, .string ⟨#[]⟩] 30) = w0 from HW0.out.symm, show w.heap.size = g4 from HG4.out]
    refine (cD _).mono ?_
    rintro e w1 ⟨hb1, rfl⟩
    have B14 := HB0.out.later hb1
    have hbA := hb0.trans (hb1.mono (by rw [← HG4.out]; exact hb0.size))
    have BN := Bk.new w1 30 (nmF n1 false)
    have hbn : Below w1.heap.size w1 (w1.alloc (.cells (nmF n1 false) 30)) := (Below.refl _ w1).alloc (Nat.le_refl _) _
    have B24 := B14.later hbn
    have hl4 := B14.lt
    have hbX : g4 ≤ w1.heap.size := Nat.le_of_lt hl4
    obtain ⟨g10, hg10⟩ : ∃ g10, g10 = w1.heap.size := ⟨_, rfl⟩
    have hbB := hbA.trans (hbn.mono hbX)
    clear hbX
    unfold nmF at BN hbn hbB B24
    go_wp2_with fail
    obtain ⟨wa, hwa⟩ : ∃ wa, wa = w1.alloc (.cells #[.int .i64 n1.kind, .bool false, .string (str n1.num), .int .i64 n1.exp, .string (str n1.den)] 30) := ⟨_, rfl⟩
    rw [← hwa, ← hg10]
    rw [← hwa] at BN hbB B24
    rw [← hg10] at BN hl4
    clear hwa hbn B14 hb1 hg10
    refine (cH _).mono ?_
    rintro e w2 ⟨hb2, rfl⟩
    have C4 := B24.later hb2
    have C10 := BN.later hb2
    have hbC := hbB.trans (hb2.mono (by have := B24.lt; omega))
    have hl10 := C10.lt
    have ne1 : ¬ g4 = g10 := by omega
    have ne2 : ¬ g10 = g4 := by omega
    obtain ⟨g13, hg13⟩ : ∃ g13, g13 = w2.heap.size := ⟨_, rfl⟩
    have ne3 : ¬ g10 = g13 := by omega
    have ne4 : ¬ g13 = g10 := by omega
    have ne5 : ¬ g4 = g13 := by omega
    have ne6 : ¬ g13 = g4 := by omega
    have le13 : g4 ≤ g13 := by omega
    have le10 : g4 ≤ g10 := by omega
    have HG13 : Hid (g13 = w2.heap.size) := hg13
    have h13 : w2.heap.size = g13 := hg13.symm
    clear B24 BN hb2 hbB hg13
    have t0 := C10.cell 0 rfl
    have tf0 := C10.frozen 0
    have t1 := C10.cell 1 rfl
    have tf1 := C10.frozen 1
    have t2 := C10.cell 2 rfl
    have tf2 := C10.frozen 2
    have t3 := C10.cell 3 rfl
    have tf3 := C10.frozen 3
    have t4 := C10.cell 4 rfl
    have tf4 := C10.frozen 4
    clear h13
    go_wp2_with fail
    have hg13 := HG13.out
    try rw [← hg13]
    have D10 := C10
    have D4 := C4
    have hbD := hbC
    obtain ⟨w5, hw5⟩ : ∃ w5, w5 = w2 := ⟨_, rfl⟩
    rw [← hw5]
    rw [← hw5] at D10 D4 hbD hg13
    clear hw5
    have hbm : Below w5.heap.size w5 (w5.alloc (.cells #[.int .i64 0, .bool false, .string ⟨#[]⟩, .int .i64 0, .string ⟨#[]⟩] 30)) := (Below.refl _ w5).alloc (Nat.le_refl _) _
    have E13 := Bk.new w5 30 #[.int .i64 0, .bool false, .string ⟨#[]⟩, .int .i64 0, .string ⟨#[]⟩]
    rw [← hg13] at E13
    clear hg13 HG13
    have E10 := D10.later hbm
    have E4 := D4.later hbm
    have hbE := hbD.trans (hbm.mono (by have := D4.lt; omega))
    generalize w5.alloc (.cells #[.int .i64 0, .bool false, .string ⟨#[]⟩, .int .i64 0, .string ⟨#[]⟩] 30) = w6 at *
    refine (cR _).mono ?_
    rintro e w3 ⟨hb3, rfl⟩
    have F13 := E13.later hb3
    have F10 := E10.later hb3
    have F4 := E4.later hb3
    have hbF := hbE.trans (hb3.mono (by have := E4.lt; omega))
    clear E13 E10 E4 hb3 hbE D10 D4 hbD hbm C10 C4 hbC
    have x0 := F13.cell 0 rfl
    have xf0 := F13.frozen 0
    have x1 := F13.cell 1 rfl
    have xf1 := F13.frozen 1
    have x2 := F13.cell 2 rfl
    have xf2 := F13.frozen 2
    have x3 := F13.cell 3 rfl
    have xf3 := F13.frozen 3
    have x4 := F13.cell 4 rfl
    have xf4 := F13.frozen 4
    have y0 := F10.cell 0 rfl
    have yf0 := F10.frozen 0
    have y1 := F10.cell 1 rfl
    have yf1 := F10.frozen 1
    have y2 := F10.cell 2 rfl
    have yf2 := F10.frozen 2
    have y3 := F10.cell 3 rfl
    have yf3 := F10.frozen 3
    have y4 := F10.cell 4 rfl
    have yf4 := F10.frozen 4
    have z0 := F4.cell 0 rfl
    have zf0 := F4.frozen 0
    have z1 := F4.cell 1 rfl
    have zf1 := F4.frozen 1
    have z2 := F4.cell 2 rfl
    have zf2 := F4.frozen 2
    have z3 := F4.cell 3 rfl
    have zf3 := F4.frozen 3
    have z4 := F4.cell 4 rfl
    have zf4 := F4.frozen 4
    have HF4 : Hid (Bk w3 g4 30 zero5) := F4
    clear F4 F10 F13
    go_wp2
    have HBF : Hid (Below g4 w w3) := hbF
    refine bodyPost_ret (results_c3 rfl _ _ g4 30 (nmF n1 false) _ rfl (Bk.all5 (by (repeat (refine Bk.set_ne ?_ (by assumption))); exact HF4.out) _ _ _ _ _) Tryz.underlying30 rfl (by kernel_rfl)) rfl ?_
    refine ⟨?_, ?_⟩
    · rw [HG4.out]
      refine below_set (below_set (below_set (below_set (below_set ?_ (Nat.le_refl _) (by rw [HG4.out]; exact Nat.le_refl _)) (Nat.le_refl _) (by rw [HG4.out]; exact Nat.le_refl _)) (Nat.le_refl _) (by rw [HG4.out]; exact Nat.le_refl _)) (Nat.le_refl _) (by rw [HG4.out]; exact Nat.le_refl _)) (Nat.le_refl _) (by rw [HG4.out]; exact Nat.le_refl _)
      repeat (refine below_set ?_ (by omega) (by rw [HG4.out]; exact Nat.le_refl _))
      exact HBF.out
    · exact Or.inr ⟨p, HO.out, by rw [HN.out, HE1.out]; rfl⟩
  · skip
    have cD := fun w => (dec9_any s (f + 1) 1 f false hs hkk hkb w).mono (fun e w' h => h.some hd)
    have cH := fun w => (hexa9_any s (f + 1) 1 f false hs hkk hkb w).mono (fun e w' h => h.some hh)
    have cR := fun w => (rat9_any s (f + 1) 1 f false hs hkk hkb w).mono (fun e w' h => h.none hr)
    have hng := hex_neg hh
    generalize hn0 : numR p = n1 at *
    generalize hn1 : numR q = n2 at *
    have HN : Hid (nmA (numR q) = nmF n2 false) := by unfold Hid; rw [hn1]; unfold nmA nmF; rw [← hn1]; show _ = #[_, _, _, _, _]; rw [← hng]; rfl
    clear hn0
    clear hn1 hng
    have hgt : ((f + p.stop : Nat) : Int) < ((f + q.stop : Nat) : Int) := by omega
    have HO : Hid _ := ho
    clear ho hd hh hr hkb
    generalize hE1 : f + p.stop = E1 at *
    generalize hE2 : f + q.stop = E2 at *
    have HE1 : Hid (f + p.stop = E1) := hE1
    clear hE1
    have HE2 : Hid (f + q.stop = E2) := hE2
    clear hE2
    unfold nmF at cD
    unfold nmF at cH
    unfold zero5 at cR
    go_enter Tryz.func61, Tryz.ntmps61
    go_wp2_with (go_at_call 72; refine (csg _).mono ?_; rintro e w' ⟨rfl, hw⟩; rw [hw])
    rw [show w.alloc (.cells #[.int .i64 0, .bool false, .string ⟨#[]⟩, .int .i64 0, .string ⟨#[]⟩] 30) = w0 from HW0.out.symm, show w.heap.size = g4 from HG4.out]
    refine (cD _).mono ?_
    rintro e w1 ⟨hb1, rfl⟩
    have B14 := HB0.out.later hb1
    have hbA := hb0.trans (hb1.mono (by rw [← HG4.out]; exact hb0.size))
    have BN := Bk.new w1 30 (nmF n1 false)
    have hbn : Below w1.heap.size w1 (w1.alloc (.cells (nmF n1 false) 30)) := (Below.refl _ w1).alloc (Nat.le_refl _) _
    have B24 := B14.later hbn
    have hl4 := B14.lt
    have hbX : g4 ≤ w1.heap.size := Nat.le_of_lt hl4
    obtain ⟨g10, hg10⟩ : ∃ g10, g10 = w1.heap.size := ⟨_, rfl⟩
    have hbB := hbA.trans (hbn.mono hbX)
    clear hbX
    unfold nmF at BN hbn hbB B24
    go_wp2_with fail
    obtain ⟨wa, hwa⟩ : ∃ wa, wa = w1.alloc (.cells #[.int .i64 n1.kind, .bool false, .string (str n1.num), .int .i64 n1.exp, .string (str n1.den)] 30) := ⟨_, rfl⟩
    rw [← hwa, ← hg10]
    rw [← hwa] at BN hbB B24
    rw [← hg10] at BN hl4
    clear hwa hbn B14 hb1 hg10
    refine (cH _).mono ?_
    rintro e w2 ⟨hb2, rfl⟩
    have C4 := B24.later hb2
    have C10 := BN.later hb2
    have hbC := hbB.trans (hb2.mono (by have := B24.lt; omega))
    have hl10 := C10.lt
    have ne1 : ¬ g4 = g10 := by omega
    have ne2 : ¬ g10 = g4 := by omega
    obtain ⟨g13, hg13⟩ : ∃ g13, g13 = w2.heap.size := ⟨_, rfl⟩
    have ne3 : ¬ g10 = g13 := by omega
    have ne4 : ¬ g13 = g10 := by omega
    have ne5 : ¬ g4 = g13 := by omega
    have ne6 : ¬ g13 = g4 := by omega
    have le13 : g4 ≤ g13 := by omega
    have le10 : g4 ≤ g10 := by omega
    have HG13 : Hid (g13 = w2.heap.size) := hg13
    have h13 : w2.heap.size = g13 := hg13.symm
    clear B24 BN hb2 hbB hg13
    have t0 := C10.cell 0 rfl
    have tf0 := C10.frozen 0
    have t1 := C10.cell 1 rfl
    have tf1 := C10.frozen 1
    have t2 := C10.cell 2 rfl
    have tf2 := C10.frozen 2
    have t3 := C10.cell 3 rfl
    have tf3 := C10.frozen 3
    have t4 := C10.cell 4 rfl
    have tf4 := C10.frozen 4
    have D10 := Bk.set (Bk.set (Bk.set (Bk.set (Bk.set C10 0 (.int .i64 n2.kind)) 1 (.bool false)) 2 (.string (str n2.num))) 3 (.int .i64 n2.exp)) 4 (.string (str n2.den))
    have T10 := Tn.all5 w2 g10 (.int .i64 n2.kind) (.bool false) (.string (str n2.num)) (.int .i64 n2.exp) (.string (str n2.den))
    have D4 := C4.tn T10 ne1
    have hbD := Tn.below hbC T10 (by omega) (by rw [HG4.out]; exact Nat.le_refl _)
    have HZ13 : Hid (w2.heap.size = (((((w2.setCell ⟨g10, 0, none⟩ (.int .i64 n2.kind)).setCell ⟨g10, 1, none⟩ (.bool false)).setCell ⟨g10, 2, none⟩ (.string (str n2.num))).setCell ⟨g10, 3, none⟩ (.int .i64 n2.exp)).setCell ⟨g10, 4, none⟩ (.string (str n2.den))).heap.size) := by simp [Hid, World.setCell]
    clear h13
    go_wp2_with fail
    have hg13 := HG13.out
    try rw [← hg13]
    rw [HZ13.out] at hg13
    clear HZ13
    generalize ((((w2.setCell ⟨g10, 0, none⟩ (.int .i64 n2.kind)).setCell ⟨g10, 1, none⟩ (.bool false)).setCell ⟨g10, 2, none⟩ (.string (str n2.num))).setCell ⟨g10, 3, none⟩ (.int .i64 n2.exp)).setCell ⟨g10, 4, none⟩ (.string (str n2.den)) = w5 at *
    have hbm : Below w5.heap.size w5 (w5.alloc (.cells #[.int .i64 n2.kind, .bool false, .string (str n2.num), .int .i64 n2.exp, .string (str n2.den)] 30)) := (Below.refl _ w5).alloc (Nat.le_refl _) _
    have E13 := Bk.new w5 30 #[.int .i64 n2.kind, .bool false, .string (str n2.num), .int .i64 n2.exp, .string (str n2.den)]
    rw [← hg13] at E13
    clear hg13 HG13
    have E10 := D10.later hbm
    have E4 := D4.later hbm
    have hbE := hbD.trans (hbm.mono (by have := D4.lt; omega))
    generalize w5.alloc (.cells #[.int .i64 n2.kind, .bool false, .string (str n2.num), .int .i64 n2.exp, .string (str n2.den)] 30) = w6 at *
    refine (cR _).mono ?_
    rintro e w3 ⟨hb3, rfl⟩
    have F13 := E13.later hb3
    have F10 := E10.later hb3
    have F4 := E4.later hb3
    have hbF := hbE.trans (hb3.mono (by have := E4.lt; omega))
    clear E13 E10 E4 hb3 hbE D10 D4 hbD hbm C10 C4 hbC
    have x0 := F13.cell 0 rfl
    have xf0 := F13.frozen 0
    have x1 := F13.cell 1 rfl
    have xf1 := F13.frozen 1
    have x2 := F13.cell 2 rfl
    have xf2 := F13.frozen 2
    have x3 := F13.cell 3 rfl
    have xf3 := F13.frozen 3
    have x4 := F13.cell 4 rfl
    have xf4 := F13.frozen 4
    have y0 := F10.cell 0 rfl
    have yf0 := F10.frozen 0
    have y1 := F10.cell 1 rfl
    have yf1 := F10.frozen 1
    have y2 := F10.cell 2 rfl
    have yf2 := F10.frozen 2
    have y3 := F10.cell 3 rfl
    have yf3 := F10.frozen 3
    have y4 := F10.cell 4 rfl
    have yf4 := F10.frozen 4
    have z0 := F4.cell 0 rfl
    have zf0 := F4.frozen 0
    have z1 := F4.cell 1 rfl
    have zf1 := F4.frozen 1
    have z2 := F4.cell 2 rfl
    have zf2 := F4.frozen 2
    have z3 := F4.cell 3 rfl
    have zf3 := F4.frozen 3
    have z4 := F4.cell 4 rfl
    have zf4 := F4.frozen 4
    have HF4 : Hid (Bk w3 g4 30 zero5) := F4
    clear F4 F10 F13
    go_wp2
    have HBF : Hid (Below g4 w w3) := hbF
    refine bodyPost_ret (results_c3 rfl _ _ g4 30 (nmF n2 false) _ rfl (Bk.all5 (by (repeat (refine Bk.set_ne ?_ (by assumption))); exact HF4.out) _ _ _ _ _) Tryz.underlying30 rfl (by kernel_rfl)) rfl ?_
    refine ⟨?_, ?_⟩
    · rw [HG4.out]
      refine below_set (below_set (below_set (below_set (below_set ?_ (Nat.le_refl _) (by rw [HG4.out]; exact Nat.le_refl _)) (Nat.le_refl _) (by rw [HG4.out]; exact Nat.le_refl _)) (Nat.le_refl _) (by rw [HG4.out]; exact Nat.le_refl _)) (Nat.le_refl _) (by rw [HG4.out]; exact Nat.le_refl _)) (Nat.le_refl _) (by rw [HG4.out]; exact Nat.le_refl _)
      repeat (refine below_set ?_ (by omega) (by rw [HG4.out]; exact Nat.le_refl _))
      exact HBF.out
    · exact Or.inr ⟨q, HO.out, by rw [HN.out, HE2.out]; rfl⟩
  · skip
    have cD := fun w => (dec9_any s (f + 1) 1 f false hs hkk hkb w).mono (fun e w' h => h.some hd)
    have cH := fun w => (hexa9_any s (f + 1) 1 f false hs hkk hkb w).mono (fun e w' h => h.none hh)
    have cR := fun w => (rat9_any s (f + 1) 1 f false hs hkk hkb w).mono (fun e w' h => h.some hr)
    have hng := rat_neg hr
    generalize hn0 : numR p = n1 at *
    generalize hn1 : numR q = n2 at *
    have HN : Hid (nmA (numR q) = nmF n2 false) := by unfold Hid; rw [hn1]; unfold nmA nmF; rw [← hn1]; show _ = #[_, _, _, _, _]; rw [← hng]; rfl
    clear hn0
    clear hn1 hng
    have hgt : ((f + p.stop : Nat) : Int) < ((f + q.stop : Nat) : Int) := by omega
    have HO : Hid _ := ho
    clear ho hd hh hr hkb
    generalize hE1 : f + p.stop = E1 at *
    generalize hE2 : f + q.stop = E2 at *
    have HE1 : Hid (f + p.stop = E1) := hE1
    clear hE1
    have HE2 : Hid (f + q.stop = E2) := hE2
    clear hE2
    unfold nmF at cD
    unfold zero5 at cH
    unfold nmF at cR
    go_enter Tryz.func61, Tryz.ntmps61
    go_wp2_with (go_at_call 72; refine (csg _).mono ?_; rintro e w' ⟨rfl, hw⟩; rw [hw])
    rw [show w.alloc (.cells #[.int .i64 0, .bool false, .string ⟨#[]⟩, .int .i64 0, .string ⟨#[]⟩] 30) = w0 from HW0.out.symm, show w.heap.size = g4 from HG4.out]
    refine (cD _).mono ?_
    rintro e w1 ⟨hb1, rfl⟩
    have B14 := HB0.out.later hb1
    have hbA := hb0.trans (hb1.mono (by rw [← HG4.out]; exact hb0.size))
    have BN := Bk.new w1 30 (nmF n1 false)
    have hbn : Below w1.heap.size w1 (w1.alloc (.cells (nmF n1 false) 30)) := (Below.refl _ w1).alloc (Nat.le_refl _) _
    have B24 := B14.later hbn
    have hl4 := B14.lt
    have hbX : g4 ≤ w1.heap.size := Nat.le_of_lt hl4
    obtain ⟨g10, hg10⟩ : ∃ g10, g10 = w1.heap.size := ⟨_, rfl⟩
    have hbB := hbA.trans (hbn.mono hbX)
    clear hbX
    unfold nmF at BN hbn hbB B24
    go_wp2_with fail
    obtain ⟨wa, hwa⟩ : ∃ wa, wa = w1.alloc (.cells #[.int .i64 n1.kind, .bool false, .string (str n1.num), .int .i64 n1.exp, .string (str n1.den)] 30) := ⟨_, rfl⟩
    rw [← hwa, ← hg10]
    rw [← hwa] at BN hbB B24
    rw [← hg10] at BN hl4
    clear hwa hbn B14 hb1 hg10
    refine (cH _).mono ?_
    rintro e w2 ⟨hb2, rfl⟩
    have C4 := B24.later hb2
    have C10 := BN.later hb2
    have hbC := hbB.trans (hb2.mono (by have := B24.lt; omega))
    have hl10 := C10.lt
    have ne1 : ¬ g4 = g10 := by omega
    have ne2 : ¬ g10 = g4 := by omega
    obtain ⟨g13, hg13⟩ : ∃ g13, g13 = w2.heap.size := ⟨_, rfl⟩
    have ne3 : ¬ g10 = g13 := by omega
    have ne4 : ¬ g13 = g10 := by omega
    have ne5 : ¬ g4 = g13 := by omega
    have ne6 : ¬ g13 = g4 := by omega
    have le13 : g4 ≤ g13 := by omega
    have le10 : g4 ≤ g10 := by omega
    have HG13 : Hid (g13 = w2.heap.size) := hg13
    have h13 : w2.heap.size = g13 := hg13.symm
    clear B24 BN hb2 hbB hg13
    have t0 := C10.cell 0 rfl
    have tf0 := C10.frozen 0
    have t1 := C10.cell 1 rfl
    have tf1 := C10.frozen 1
    have t2 := C10.cell 2 rfl
    have tf2 := C10.frozen 2
    have t3 := C10.cell 3 rfl
    have tf3 := C10.frozen 3
    have t4 := C10.cell 4 rfl
    have tf4 := C10.frozen 4
    clear h13
    go_wp2_with fail
    have hg13 := HG13.out
    try rw [← hg13]
    have D10 := C10
    have D4 := C4
    have hbD := hbC
    obtain ⟨w5, hw5⟩ : ∃ w5, w5 = w2 := ⟨_, rfl⟩
    rw [← hw5]
    rw [← hw5] at D10 D4 hbD hg13
    clear hw5
    have hbm : Below w5.heap.size w5 (w5.alloc (.cells #[.int .i64 0, .bool false, .string ⟨#[]⟩, .int .i64 0, .string ⟨#[]⟩] 30)) := (Below.refl _ w5).alloc (Nat.le_refl _) _
    have E13 := Bk.new w5 30 #[.int .i64 0, .bool false, .string ⟨#[]⟩, .int .i64 0, .string ⟨#[]⟩]
    rw [← hg13] at E13
    clear hg13 HG13
    have E10 := D10.later hbm
    have E4 := D4.later hbm
    have hbE := hbD.trans (hbm.mono (by have := D4.lt; omega))
    generalize w5.alloc (.cells #[.int .i64 0, .bool false, .string ⟨#[]⟩, .int .i64 0, .string ⟨#[]⟩] 30) = w6 at *
    refine (cR _).mono ?_
    rintro e w3 ⟨hb3, rfl⟩
    have F13 := E13.later hb3
    have F10 := E10.later hb3
    have F4 := E4.later hb3
    have hbF := hbE.trans (hb3.mono (by have := E4.lt; omega))
    clear E13 E10 E4 hb3 hbE D10 D4 hbD hbm C10 C4 hbC
    have x0 := F13.cell 0 rfl
    have xf0 := F13.frozen 0
    have x1 := F13.cell 1 rfl
    have xf1 := F13.frozen 1
    have x2 := F13.cell 2 rfl
    have xf2 := F13.frozen 2
    have x3 := F13.cell 3 rfl
    have xf3 := F13.frozen 3
    have x4 := F13.cell 4 rfl
    have xf4 := F13.frozen 4
    have y0 := F10.cell 0 rfl
    have yf0 := F10.frozen 0
    have y1 := F10.cell 1 rfl
    have yf1 := F10.frozen 1
    have y2 := F10.cell 2 rfl
    have yf2 := F10.frozen 2
    have y3 := F10.cell 3 rfl
    have yf3 := F10.frozen 3
    have y4 := F10.cell 4 rfl
    have yf4 := F10.frozen 4
    have z0 := F4.cell 0 rfl
    have zf0 := F4.frozen 0
    have z1 := F4.cell 1 rfl
    have zf1 := F4.frozen 1
    have z2 := F4.cell 2 rfl
    have zf2 := F4.frozen 2
    have z3 := F4.cell 3 rfl
    have zf3 := F4.frozen 3
    have z4 := F4.cell 4 rfl
    have zf4 := F4.frozen 4
    go_upto_region 17 with (fail)
    have T13 := Tn.all5 w3 g13 (.int .i64 n2.kind) (.bool false) (.string (str n2.num)) (.int .i64 n2.exp) (.string (str n2.den))
    have G13 := Bk.all5 F13 (.int .i64 n2.kind) (.bool false) (.string (str n2.num)) (.int .i64 n2.exp) (.string (str n2.den))
    have G10 := F10.tn T13 ne3
    have G4 := F4.tn T13 ne5
    have hbG := Tn.below hbF T13 le13 (by rw [HG4.out]; exact Nat.le_refl _)
    clear x0 xf0 x1 xf1 x2 xf2 x3 xf3 x4 xf4 y0 yf0 y1 yf1 y2 yf2 y3 yf3 y4 yf4 z0 zf0 z1 zf1 z2 zf2 z3 zf3 z4 zf4 F4 F10 F13 hbF T13
    generalize ((((w3.setCell ⟨g13, 0, none⟩ (.int .i64 n2.kind)).setCell ⟨g13, 1, none⟩ (.bool false)).setCell ⟨g13, 2, none⟩ (.string (str n2.num))).setCell ⟨g13, 3, none⟩ (.int .i64 n2.exp)).setCell ⟨g13, 4, none⟩ (.string (str n2.den)) = w7 at *
    have x0 := G13.cell 0 rfl
    have xf0 := G13.frozen 0
    have x1 := G13.cell 1 rfl
    have xf1 := G13.frozen 1
    have x2 := G13.cell 2 rfl
    have xf2 := G13.frozen 2
    have x3 := G13.cell 3 rfl
    have xf3 := G13.frozen 3
    have x4 := G13.cell 4 rfl
    have xf4 := G13.frozen 4
    have y0 := G10.cell 0 rfl
    have yf0 := G10.frozen 0
    have y1 := G10.cell 1 rfl
    have yf1 := G10.frozen 1
    have y2 := G10.cell 2 rfl
    have yf2 := G10.frozen 2
    have y3 := G10.cell 3 rfl
    have yf3 := G10.frozen 3
    have y4 := G10.cell 4 rfl
    have yf4 := G10.frozen 4
    have z0 := G4.cell 0 rfl
    have zf0 := G4.frozen 0
    have z1 := G4.cell 1 rfl
    have zf1 := G4.frozen 1
    have z2 := G4.cell 2 rfl
    have zf2 := G4.frozen 2
    have z3 := G4.cell 3 rfl
    have zf3 := G4.frozen 3
    have z4 := G4.cell 4 rfl
    have zf4 := G4.frozen 4
    go_upto_region 24 with (fail)
    have T10 := (Tn.all5 w7 g10 (.int .i64 n2.kind) (.bool false) (.string (str n2.num)) (.int .i64 n2.exp) (.string (str n2.den))).set 1 (.bool false)
    have J10 := Bk.six G10 (.int .i64 n2.kind) (.bool false) (.string (str n2.num)) (.int .i64 n2.exp) (.string (str n2.den)) (.bool false)
    have J4 := G4.tn T10 ne1
    have hbJ := Tn.below hbG T10 le10 (by rw [HG4.out]; exact Nat.le_refl _)
    clear x0 xf0 x1 xf1 x2 xf2 x3 xf3 x4 xf4 y0 yf0 y1 yf1 y2 yf2 y3 yf3 y4 yf4 z0 zf0 z1 zf1 z2 zf2 z3 zf3 z4 zf4 G4 G10 G13 hbG T10
    generalize (((((w7.setCell ⟨g10, 0, none⟩ (.int .i64 n2.kind)).setCell ⟨g10, 1, none⟩ (.bool false)).setCell ⟨g10, 2, none⟩ (.string (str n2.num))).setCell ⟨g10, 3, none⟩ (.int .i64 n2.exp)).setCell ⟨g10, 4, none⟩ (.string (str n2.den))).setCell ⟨g10, 1, none⟩ (.bool false) = w8 at *
    have y0 := J10.cell 0 rfl
    have y1 := J10.cell 1 rfl
    have y2 := J10.cell 2 rfl
    have y3 := J10.cell 3 rfl
    have y4 := J10.cell 4 rfl
    have z0 := J4.cell 0 rfl
    have zf0 := J4.frozen 0
    have z1 := J4.cell 1 rfl
    have zf1 := J4.frozen 1
    have z2 := J4.cell 2 rfl
    have zf2 := J4.frozen 2
    have z3 := J4.cell 3 rfl
    have zf3 := J4.frozen 3
    have z4 := J4.cell 4 rfl
    have zf4 := J4.frozen 4
    have HF4 : Hid (Bk w8 g4 30 zero5) := J4
    have hbF := hbJ
    clear J4 J10 hbJ
    go_wp2
    have HBF : Hid (Below g4 w w8) := hbF
    refine bodyPost_ret (results_c3 rfl _ _ g4 30 (nmF n2 false) _ rfl (Bk.all5 (by (repeat (refine Bk.set_ne ?_ (by assumption))); exact HF4.out) _ _ _ _ _) Tryz.underlying30 rfl (by kernel_rfl)) rfl ?_
    refine ⟨?_, ?_⟩
    · rw [HG4.out]
      refine below_set (below_set (below_set (below_set (below_set ?_ (Nat.le_refl _) (by rw [HG4.out]; exact Nat.le_refl _)) (Nat.le_refl _) (by rw [HG4.out]; exact Nat.le_refl _)) (Nat.le_refl _) (by rw [HG4.out]; exact Nat.le_refl _)) (Nat.le_refl _) (by rw [HG4.out]; exact Nat.le_refl _)) (Nat.le_refl _) (by rw [HG4.out]; exact Nat.le_refl _)
      repeat (refine below_set ?_ (by omega) (by rw [HG4.out]; exact Nat.le_refl _))
      exact HBF.out
    · exact Or.inr ⟨q, HO.out, by rw [HN.out, HE2.out]; rfl⟩
end Go.Proofs.YtfgpjplfplbcdaaGreatDoor


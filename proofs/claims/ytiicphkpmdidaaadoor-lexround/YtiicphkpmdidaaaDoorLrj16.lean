import Derived.Lib.ConvBytes
import Derived.Lib.AtoiErrMem
import Derived.Below
import Derived.BigQuiet
import Derived.ChangeOld
import Derived.Deep.LoopGhost
import Derived.Deep.QuietTactic
import Derived.Deep.RegionHeld3
import Derived.Deep.RegionWith
import Derived.Deep.WholeRow
import Derived.KernelRfl
import Derived.Laws.BitsAllLaws
import Derived.Laws.CopyRow
import Derived.Laws.EntriesVeiled
import Derived.Laws.Externs
import Derived.Laws.IdiomCopy
import Derived.Laws.IdiomRangeMap
import Derived.Laws.RangeString
import Derived.Laws.ResultCell
import Derived.Laws.Runes
import Derived.Laws.Strings3
import Derived.Lib.AsciiSet
import Derived.Lib.BufferRead
import Derived.Lib.Bytealg
import Derived.Lib.IndexBytes
import Derived.Lib.Strings
import Derived.Lib.TrimByte
import Derived.Lib.Walk
import Derived.OpenShut
import Derived.OwnWalk
import Derived.ProofKit
import Derived.ShutString
import Derived.WalkKit
import Derived.WalkLawsBesides
import Derived.WalkSpells
import Derived.Test.YtiicphkpmdidaaaDoorLrj5
import Derived.Test.YtiicphkpmdidaaaDoorLrj12
/- plumblaw09: bare. -/
namespace Go.Proofs.YtiicphkpmdidaaaDoor
open Go.ChangeShapes Go.WideShapes Go.ChangeAt Go.RowKit
open Lx
set_option linter.unusedVariables false
namespace Lx
/-- these bytes lie in block g, and may be written -/
def BW (w : World) (g : Nat) (l : B) : Prop := g < w.heap.size ∧ (∀ j, j < l.length → w.cell? ⟨g, j, none⟩ = some (.int .u8 ((l.getD j 0).toNat : Int))) ∧ ∀ j, j < l.length → w.frozen? ⟨g, j, none⟩ = false
theorem BW.set {w : World} {g : Nat} {l : B} (h : BW w g l) {j : Nat} (hj : j < l.length) (x : UInt8) : BW (w.setCell ⟨g, j, none⟩ (.int .u8 (x.toNat : Int))) g (l.set j x) := by
  refine ⟨by simpa [World.setCell] using h.1, fun i hi => ?_, fun i hi => ?_⟩
  · rw [List.length_set] at hi
    by_cases e : i = j
    · subst e
      rw [World.cell?_setCell_same _ _ _ (h.2.1 i hi)]
      simp [List.getD_eq_getElem?_getD, hi]
    · rw [World.cell?_setCell_other _ _ _ _ (by simp), h.2.1 i hi]
      simp [List.getD_eq_getElem?_getD, Ne.symm e]
  · rw [List.length_set] at hi
    rw [World.frozen?_setCell]; exact h.2.2 i hi
theorem BW.conv {w : World} {g cap n : Nat} {l : B} (h : BW w g l) (hn : n = l.length) : (convert 45 9 (.slice (some ⟨g, 0, none⟩) n cap)).run Tryd.prog w = .ok (.string (str l)) w := by
  subst hn
  refine run_convert_bytes_back (P := Tryd.prog) w 45 9 5 ⟨g, 0, none⟩ cap l Tryd.underlying45 Tryd.underlying5 Tryd.underlying9 (fun j hj => ?_)
  have ea : (⟨g, 0, none⟩ : Addr).add j = ⟨g, j, none⟩ := by
    unfold Addr.add
    by_cases hi0 : j = 0
    · subst hi0; simp
    · simp [hi0]
  rw [ea, h.2.1 j hj, List.getD_eq_getElem?_getD, List.getElem?_eq_getElem hj]
  rfl
theorem conv_text9 (w : World) (t : ByteArray) : ∃ (cap : Nat) (w' : World), (convert 9 45 (.string t)).run Tryd.prog w = .ok (.slice (some ⟨w.heap.size, 0, none⟩) t.size cap) w' ∧ BW w' w.heap.size t.data.toList ∧ Below w.heap.size w w' := by
  refine ⟨_, _, Lib.run_convert_string_bytes (P := Tryd.prog) w 9 45 5 t (u := .string) Tryd.underlying9 Tryd.underlying45 Tryd.underlying5, ⟨by rw [Lib.bytesWorld_size]; omega, fun j hj => ?_, fun j hj => ?_⟩, Lib.bytesWorld_below w 5 t⟩
  · exact Lib.bytesWorld_cell w 5 t j (by rw [Lib.size_eq]; exact hj)
  · rw [← Lib.size_eq] at hj
    unfold World.frozen?
    rw [Lib.bytesWorld_at_new]
    have l : t.size ≤ (Lib.bytesCells w 5 t).size := by
      unfold Lib.bytesCells
      have : t.data.size = t.size := rfl
      simp
    simp
    omega
/-- the first j in small letters -/
def lows (l : B) (j : Nat) : B := (l.take j).map lowF ++ l.drop j
theorem lows_len (l : B) (j : Nat) : (lows l j).length = l.length := by unfold lows; simp; omega
theorem lows_get {l : B} {j : Nat} (h : j < l.length) : (lows l j).getD j 0 = l.getD j 0 := by
  unfold lows
  rw [List.getD_eq_getElem?_getD, List.getElem?_append_right (by simp; omega), List.getElem?_drop]
  have : j + (j - ((l.take j).map lowF).length) = j := by simp; omega
  rw [this, List.getD_eq_getElem?_getD]
theorem lows_set {l : B} {j : Nat} (h : j < l.length) : (lows l j).set j (lowF (l.getD j 0)) = lows l (j + 1) := by
  have hl : ((l.take j).map lowF).length = j := by simp; omega
  unfold lows
  rw [List.set_append_right _ _ (by omega), hl, Nat.sub_self, List.drop_eq_getElem_cons h, List.set_cons_zero, List.take_add_one, List.getElem?_eq_getElem h, List.getD_eq_getElem?_getD, List.getElem?_eq_getElem h, List.map_append, List.append_assoc]
  rfl
theorem lows_skip {l : B} {j : Nat} (h : j < l.length) (hx : lowF (l.getD j 0) = l.getD j 0) : lows l j = lows l (j + 1) := by
  rw [← lows_set h, hx]
  have e := lows_get h
  rw [← e]
  apply List.ext_getElem?
  intro i
  by_cases q : i = j
  · subst q
    have hi : i < (lows l i).length := by rw [lows_len]; exact h
    rw [List.getElem?_set_self hi, List.getD_eq_getElem?_getD, List.getElem?_eq_getElem hi]
    rfl
  · rw [List.getElem?_set_ne (Ne.symm q)]
theorem lows_all (l : B) : lows l l.length = l.map lowF := by unfold lows; simp
end Lx
set_option maxHeartbeats 3200000 in
set_option maxRecDepth 100000 in
theorem lawBare9_any (s : ByteArray) (hs : s.size ≤ 100000) (w : World) :
    Calls Tryd.prog 21 #[.string s] w fun e w' => e = .returned (.string (str (bareR s.data.toList))) ∧ Below w.heap.size w w' := by
  go_enter Tryd.func21, Tryd.ntmps21
  go_wp2
  go_loop [0] (fun v => ∃ k : Nat, k ≤ s.size ∧ v = .string (str (s.data.toList.drop k)) ∧ Hid (∀ (j : Nat) b, j < k → s.data.toList[j]? = some b → ([48] : B).contains b = true)) (fun v => Lib.strSize v)
  case atStart => exact ⟨0, Nat.zero_le _, by rw [List.drop_zero, str_of], fun j b hj => absurd hj (Nat.not_lt_zero _)⟩
  case round =>
    obtain ⟨k, hk, rfl, hc⟩ := hrel
    have hts : (str (s.data.toList.drop k)).size = s.size - k := by rw [str_size, List.length_drop, ← Lib.size_eq]
    by_cases hz : k < s.size ∧ ∃ h : k < s.size, (s[k]'h) = 48
    · obtain ⟨h0, _, hin⟩ := hz
      have hp : 0 < (str (s.data.toList.drop k)).size := by omega
      have hx := str_head h0 hp
      have hx1 := ext_one h0
      have HK : Hid (s.data.toList[k]? = some (s[k]'h0)) := Lib.data_getElem? s k h0
      generalize hq : (s[k]'h0) = x at *
      have hi : (0 : Int) < ((s.size - k : Nat) : Int) := by omega
      generalize ht : str (s.data.toList.drop k) = t at hts hp hx hx1 ⊢
      have HI : Hid (([48] : B).contains x = true) := by rw [hin]; simp [Hid]
      have hb : ((x.toNat : Int) == 48) = true := by rw [hin]; rfl
      clear ht hq hin
      go_wp2
      refine ⟨⟨k + 1, by omega, rfl, fun j b hj hb => ?_⟩, ?_⟩
      · by_cases e : j = k
        · subst e
          rw [HK.out] at hb; rw [← Option.some.inj hb]; exact HI
        · exact hc.out j b (by omega) hb
      · show Lib.strSize (.string _) < Lib.strSize (.string _)
        simp only [Lib.strSize]
        rw [str_size, List.length_drop, ← Lib.size_eq]
        omega
    · have hd : trimL [48] s.data.toList = s.data.toList.drop k := dropWhile_at s.data.toList [48] k (by rw [← Lib.size_eq]; exact hk) hc.out (fun b hb => by
        by_cases h0 : k < s.size
        · rw [Lib.data_getElem? s k h0] at hb
          rw [← Option.some.inj hb]
          have : ¬ (s[k]'h0) = 48 := fun q => hz ⟨h0, h0, q⟩
          simpa using this
        · rw [List.getElem?_eq_none (by rw [← Lib.size_eq]; omega)] at hb; cases hb)
      have HD : Hid (bareR s.data.toList = (s.data.toList.drop k).map lowF) := by
        have : bareR s.data.toList = (trimL [48] s.data.toList).map lowF := rfl
        show _ = _
        rw [this, hd]
      clear hd hc
      obtain ⟨cap, w1, hcv, hbw, hbl⟩ := conv_text9 w (str (s.data.toList.drop k))
      rw [str_list] at hbw
      have hll : (s.data.toList.drop k).length = s.size - k := by rw [List.length_drop, ← Lib.size_eq]
      obtain ⟨g, hg⟩ : ∃ g, g = w.heap.size := ⟨_, rfl⟩
      have HG : Hid (w.heap.size ≤ g) := by show _ ≤ _; omega
      rw [← hg] at hcv hbw
      clear hg
      have hcond : (0 < s.size - k ∧ ∃ x : UInt8, (∀ h, (str (s.data.toList.drop k))[0]'h = x) ∧ ((x.toNat : Int) == 48) = false) ∨ ¬ 0 < s.size - k := by
        by_cases h0 : k < s.size
        · left
          refine ⟨by omega, _, fun h => str_head h0 h, ?_⟩
          have : ¬ (s[k]'h0) = 48 := fun q => hz ⟨h0, h0, q⟩
          exact beq_eq_false_iff_ne.2 fun e => this (UInt8.toNat_inj.1 (by show (s[k]'h0).toNat = 48; omega))
        · right; omega
      clear hz
      generalize str (s.data.toList.drop k) = t at *
      generalize s.data.toList.drop k = l at *
      generalize hm : s.size - k = m at *
      have hmb : (m : Int) ≤ 100000 := by omega
      rcases hcond with ⟨hp, x, hx, hb⟩ | hp
      · have hi : (0 : Int) < (m : Int) := by omega
        have hpt : 0 < t.size := by omega
        have hx0 := hx hpt
        clear hx
        go_wp2
        go_loopw [4] (fun i wr => ∃ j : Nat, i = .int .i64 (j : Int) ∧ j ≤ m ∧ BW wr g (lows l j) ∧ In g (g + 1) w1 wr) (fun i _ => m - (RowKit.intOf i).toNat)
        case atStart => exact ⟨0, rfl, Nat.zero_le _, by have : lows l 0 = l := by (unfold lows; simp)
                                                         rw [this]; exact hbw, In.refl _ _ _⟩
        case round =>
          obtain ⟨j, rfl, hj, hou, hin⟩ := hrel
          by_cases hlt : j < m
          · have hjl : j < l.length := by omega
            have hdj : decide ((j : Int) < (m : Int)) = true := by simp; omega
            have hce := hou.2.1 j (by rw [lows_len]; omega)
            have hfz := hou.2.2 j (by rw [lows_len]; omega)
            rw [lows_get hjl] at hce
            have hF := lowF_intb (l.getD j 0)
            have hset := hou.set (j := j) (by rw [lows_len]; omega) (lowF (l.getD j 0))
            rw [lows_set hjl] at hset
            have HSK : Hid (lowF (l.getD j 0) = l.getD j 0 → BW wr g (lows l (j + 1))) := fun q => by rw [← lows_skip hjl q]; exact hou
            have hu8 : ((l.getD j 0).toNat : Int) < 256 := by have := UInt8.toNat_lt (l.getD j 0); omega
            have HSK2 : Hid (((lowF (l.getD j 0)).toNat : Int) = ((l.getD j 0).toNat : Int) → BW wr g (lows l (j + 1))) := fun q => HSK.out (UInt8.toNat_inj.1 (by omega))
            have hu0 : 0 ≤ ((l.getD j 0).toNat : Int) := by omega
            clear hou hbw HSK
            generalize ((lowF (l.getD j 0)).toNat : Int) = F at *
            generalize ((l.getD j 0).toNat : Int) = c at *
            by_cases h1 : 65 ≤ c
            · by_cases h2 : c ≤ 70
              · rw [if_pos ⟨h1, h2⟩] at hF
                subst hF
                have d1 : decide (c ≥ 65) = true := by simp; omega
                have d1' : decide (65 ≤ c) = true := by simp; omega
                have d2 : decide (c ≤ 70) = true := by simp; omega
                clear HSK2
                go_wp2
                go_roundw
                case rel => exact ⟨j + 1, by go_num, by omega, hset, hin.set1 _ _⟩
                case measure => simp [RowKit.intOf]; omega
              · rw [if_neg (by omega)] at hF
                have HN : Hid _ := HSK2.out hF
                have d1 : decide (c ≥ 65) = true := by simp; omega
                have d1' : decide (65 ≤ c) = true := by simp; omega
                have d2 : decide (c ≤ 70) = false := by simp; omega
                clear HSK2 hset hF
                go_wp2
                go_roundw
                case rel => exact ⟨j + 1, by go_num, by omega, HN.out, hin⟩
                case measure => simp [RowKit.intOf]; omega
            · rw [if_neg (by omega)] at hF
              have HN : Hid _ := HSK2.out hF
              have d1 : decide (c ≥ 65) = false := by simp; omega
              have d1' : decide (65 ≤ c) = false := by simp; omega
              clear HSK2 hset hF
              go_wp2
              go_roundw
              case rel => exact ⟨j + 1, by go_num, by omega, HN.out, hin⟩
              case measure => simp [RowKit.intOf]; omega
          · have hjm : j = l.length := by omega
            have hdj : decide ((j : Int) < (m : Int)) = false := by simp; omega
            rw [hjm, lows_all] at hou
            have hc2 := hou.conv (cap := cap) (n := m) (by rw [List.length_map]; omega)
            rw [← HD.out] at hc2
            have hb2 := hbl.trans ((hin.below (Nat.le_of_lt hbw.1)).mono HG.out)
            have HB2 : Hid (Below w.heap.size w wr) := hb2
            clear hb2 hou hin hjm hbw
            go_wp2
            go_ret
            exact ⟨rfl, HB2.out⟩
      · have hi : ¬ (0 : Int) < (m : Int) := by omega
        go_wp2
        go_loopw [4] (fun i wr => ∃ j : Nat, i = .int .i64 (j : Int) ∧ j ≤ m ∧ BW wr g (lows l j) ∧ In g (g + 1) w1 wr) (fun i _ => m - (RowKit.intOf i).toNat)
        case atStart => exact ⟨0, rfl, Nat.zero_le _, by have : lows l 0 = l := by (unfold lows; simp)
                                                         rw [this]; exact hbw, In.refl _ _ _⟩
        case round =>
          obtain ⟨j, rfl, hj, hou, hin⟩ := hrel
          by_cases hlt : j < m
          · exfalso; omega
          · have hjm : j = l.length := by omega
            have hdj : decide ((j : Int) < (m : Int)) = false := by simp; omega
            rw [hjm, lows_all] at hou
            have hc2 := hou.conv (cap := cap) (n := m) (by rw [List.length_map]; omega)
            rw [← HD.out] at hc2
            have hb2 := hbl.trans ((hin.below (Nat.le_of_lt hbw.1)).mono HG.out)
            have HB2 : Hid (Below w.heap.size w wr) := hb2
            clear hb2 hou hin hjm hbw
            go_wp2
            go_ret
            exact ⟨rfl, HB2.out⟩
end Go.Proofs.YtiicphkpmdidaaaDoor


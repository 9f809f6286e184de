import Derived.Lib.ConvBytes
import Derived.Lib.AtoiErrMem
import Derived.Below
import Derived.BigQuiet
import Derived.ChangeOld
import Derived.Deep.CutRange
import Derived.Deep.LoopGhost
import Derived.Deep.QuietTactic
import Derived.Deep.RegionHeld3
import Derived.Deep.RegionWith
import Derived.Deep.WholeRow
import Derived.KernelRfl
import Derived.LaidEql
import Derived.Laws.BitsAllLaws
import Derived.Laws.CopyRow
import Derived.Laws.EntriesVeiled
import Derived.Laws.Externs
import Derived.Laws.IdiomCopy
import Derived.Laws.IdiomRangeMap
import Derived.Laws.RangeString
import Derived.Laws.ResultCell
import Derived.Laws.Runes
import Derived.Laws.Strings3
import Derived.Lib.AsciiSet
import Derived.Lib.Bytealg
import Derived.Lib.IndexBytes
import Derived.Lib.Strings
import Derived.Lib.TrimByte
import Derived.Lib.Walk
import Derived.OpenShut
import Derived.OwnWalk
import Derived.ProofKit
import Derived.RowKitTokens
import Derived.Shelf.Strconv.Clone
import Derived.Shelf.Strings.OnBuilder
import Derived.ShutString
import Derived.Stop.Asserts
import Derived.WalkKit
import Derived.WalkLawsBesides
import Derived.WalkSpells
import Derived.Test.YtfgpjplfplbcdaaGreatDoorPb8
import Derived.Test.YtfgpjplfplbcdaaGreatDoorPb18
/- Layer 18: the document's small pieces. -/
namespace Go.Proofs.YtfgpjplfplbcdaaGreatDoor
open Go.ChangeShapes Go.WideShapes Go.ChangeAt Go.RowKit
open Lx Tk
set_option linter.unusedVariables false
namespace Tk
/-- these bytes lie in block g, and may be written -/
def BW8 (w : World) (g : Nat) (l : B) : Prop := g < w.heap.size ∧ (∀ j, j < l.length → w.cell? ⟨g, j, none⟩ = some (.int .u8 ((l.getD j 0).toNat : Int))) ∧ ∀ j, j < l.length → w.frozen? ⟨g, j, none⟩ = false
theorem BW8.set {w : World} {g : Nat} {l : B} (h : BW8 w g l) {j : Nat} (hj : j < l.length) (x : UInt8) : BW8 (w.setCell ⟨g, j, none⟩ (.int .u8 (x.toNat : Int))) g (l.set j x) := by
  refine ⟨by simpa [World.setCell] using h.1, fun i hi => ?_, fun i hi => ?_⟩
  · rw [List.length_set] at hi
    by_cases e : i = j
    · subst e
      rw [World.cell?_setCell_same _ _ _ (h.2.1 i hi)]
      simp [List.getD_eq_getElem?_getD, hi]
    · rw [World.cell?_setCell_other _ _ _ _ (by simp), h.2.1 i hi]
      simp [List.getD_eq_getElem?_getD, Ne.symm e]
  · rw [List.length_set] at hi
    rw [World.frozen?_setCell]; exact h.2.2 i hi
theorem BW8.conv {w : World} {g cap n : Nat} {l : B} (h : BW8 w g l) (hn : n = l.length) : (convert 63 9 (.slice (some ⟨g, 0, none⟩) n cap)).run Tryz.prog w = .ok (.string (str l)) w := by
  subst hn
  refine run_convert_bytes_back (P := Tryz.prog) w 63 9 5 ⟨g, 0, none⟩ cap l Tryz.underlying63 Tryz.underlying5 Tryz.underlying9 (fun j hj => ?_)
  have ea : (⟨g, 0, none⟩ : Addr).add j = ⟨g, j, none⟩ := by
    unfold Addr.add
    by_cases hi0 : j = 0
    · subst hi0; simp
    · simp [hi0]
  rw [ea, h.2.1 j hj, List.getD_eq_getElem?_getD, List.getElem?_eq_getElem hj]
  rfl
theorem conv_text18 (w : World) (t : ByteArray) : ∃ (cap : Nat) (w' : World), (convert 9 63 (.string t)).run Tryz.prog w = .ok (.slice (some ⟨w.heap.size, 0, none⟩) t.size cap) w' ∧ BW8 w' w.heap.size t.data.toList ∧ Below w.heap.size w w' := by
  refine ⟨_, _, Lib.run_convert_string_bytes (P := Tryz.prog) w 9 63 5 t (u := .string) Tryz.underlying9 Tryz.underlying63 Tryz.underlying5, ⟨by rw [Lib.bytesWorld_size]; omega, fun j hj => ?_, fun j hj => ?_⟩, Lib.bytesWorld_below w 5 t⟩
  · exact Lib.bytesWorld_cell w 5 t j (by rw [Lib.size_eq]; exact hj)
  · rw [← Lib.size_eq] at hj
    unfold World.frozen?
    rw [Lib.bytesWorld_at_new]
    have l : t.size ≤ (Lib.bytesCells w 5 t).size := by
      unfold Lib.bytesCells
      have : t.data.size = t.size := rfl
      simp
    simp
    omega
/-- the first j turned -/
def ups (l : B) (j : Nat) : B := (l.take j).map upB ++ l.drop j
theorem ups_len (l : B) (j : Nat) : (ups l j).length = l.length := by unfold ups; simp; omega
theorem ups_get {l : B} {j : Nat} (h : j < l.length) : (ups l j).getD j 0 = l.getD j 0 := by
  unfold ups
  rw [List.getD_eq_getElem?_getD, List.getElem?_append_right (by simp; omega), List.getElem?_drop]
  have : j + (j - ((l.take j).map upB).length) = j := by simp; omega
  rw [this, List.getD_eq_getElem?_getD]
theorem ups_set {l : B} {j : Nat} (h : j < l.length) : (ups l j).set j (upB (l.getD j 0)) = ups l (j + 1) := by
  have hl : ((l.take j).map upB).length = j := by simp; omega
  unfold ups
  rw [List.set_append_right _ _ (by omega), hl, Nat.sub_self, List.drop_eq_getElem_cons h, List.set_cons_zero, List.take_add_one, List.getElem?_eq_getElem h, List.getD_eq_getElem?_getD, List.getElem?_eq_getElem h, List.map_append, List.append_assoc]
  rfl
theorem ups_skip {l : B} {j : Nat} (h : j < l.length) (hx : upB (l.getD j 0) = l.getD j 0) : ups l j = ups l (j + 1) := by
  rw [← ups_set h, hx]
  have e := ups_get h
  rw [← e]
  apply List.ext_getElem?
  intro i
  by_cases q : i = j
  · subst q
    have hi : i < (ups l i).length := by rw [ups_len]; exact h
    rw [List.getElem?_set_self hi, List.getD_eq_getElem?_getD, List.getElem?_eq_getElem hi]
    rfl
  · rw [List.getElem?_set_ne (Ne.symm q)]
theorem ups_all (l : B) : ups l l.length = l.map upB := by unfold ups; simp
end Tk
set_option maxHeartbeats 1600000 in
set_option maxRecDepth 100000 in
theorem rblank18_any (x : UInt8) (w : World) :
    Calls Tryz.prog 58 #[.int .u8 x.toNat] w fun e w' => e = .returned (.bool (isBl x)) ∧ w' = w := by
  have conc : ∀ k : UInt8, (k = 32 ∨ k = 9 ∨ k = 10 ∨ k = 13) → Calls Tryz.prog 58 #[.int .u8 k.toNat] w fun e w' => e = .returned (.bool (isBl k)) ∧ w' = w := by
    intro k hk
    rcases hk with rfl | rfl | rfl | rfl
    all_goals
      go_enter Tryz.func58, Tryz.ntmps58
      go_wp2
      go_ret
      exact ⟨rfl, rfl⟩
  by_cases n1 : x = 32; · exact conc x (by simp [n1])
  by_cases n2 : x = 9; · exact conc x (by simp [n2])
  by_cases n3 : x = 10; · exact conc x (by simp [n3])
  by_cases n4 : x = 13; · exact conc x (by simp [n4])
  have e : isBl x = false := by unfold isBl; simp [n1, n2, n3, n4]
  rw [e]
  have z1 : ((x.toNat : Int) == 32) = false := u8_ne n1
  have z2 : ((x.toNat : Int) == 9) = false := u8_ne n2
  have z3 : ((x.toNat : Int) == 10) = false := u8_ne n3
  have z4 : ((x.toNat : Int) == 13) = false := u8_ne n4
  clear e n1 n2 n3 n4 conc
  go_enter Tryz.func58, Tryz.ntmps58
  go_wp2
  go_ret
  exact ⟨rfl, rfl⟩
set_option maxHeartbeats 1600000 in
set_option maxRecDepth 100000 in
theorem rletter18_any (x : UInt8) (w : World) :
    Calls Tryz.prog 59 #[.int .u8 x.toNat] w fun e w' => e = .returned (.bool (isLt x)) ∧ w' = w := by
  have e2 : isLt x = ((decide ((65 : Int) ≤ (x.toNat : Int)) && decide ((x.toNat : Int) ≤ 90)) || (decide ((97 : Int) ≤ (x.toNat : Int)) && decide ((x.toNat : Int) ≤ 122))) := by
    unfold isLt
    congr 1 <;> (congr 1 <;> (rw [decide_eq_decide]; omega))
  rw [e2]
  clear e2
  by_cases h1 : (65 : Int) ≤ (x.toNat : Int) <;> by_cases h2 : (x.toNat : Int) ≤ 90 <;> by_cases h3 : (97 : Int) ≤ (x.toNat : Int) <;> by_cases h4 : (x.toNat : Int) ≤ 122
  all_goals first
  | (exfalso; omega)
  | (go_enter Tryz.func59, Tryz.ntmps59
     go_wp2
     go_ret
     refine ⟨?_, rfl⟩
     show Ending.returned (Value.bool _) = Ending.returned (Value.bool _)
     first
     | rfl
     | (congr 2; done)
     | (congr 2; simp; done)
     | (congr 2; simp; omega))
set_option maxHeartbeats 1600000 in
set_option maxRecDepth 100000 in
theorem rshut18_any (s : ByteArray) (k : Nat) (hk : k ≤ s.size) (w : World) :
    Calls Tryz.prog 62 #[.string s, .int .i64 (k : Int)] w fun e w' => e = .returned (.bool (shutB (s.data.toList.drop k))) ∧ w' = w := by
  by_cases h : k = s.size
  · have d : ((k : Int) == (s.size : Int)) = true := by rw [h]; simp
    rw [drop_nil_of (by omega)]
    clear h
    go_enter Tryz.func62, Tryz.ntmps62
    go_wp2
    go_ret
    exact ⟨rfl, rfl⟩
  · have hlt : k < s.size := by omega
    have d : ((k : Int) == (s.size : Int)) = false := by rw [beq_eq_false_iff_ne]; omega
    rw [drop_cons_of hlt]
    have hi : (k : Int) < (s.size : Int) := by omega
    have c1 := rblank18_any (s[k]'hlt)
    have e1 := beq_u8 (s[k]'hlt) 44
    have e2 := beq_u8 (s[k]'hlt) 40
    have e3 := beq_u8 (s[k]'hlt) 41
    change (((s[k]'hlt).toNat : Int) == 44) = _ at e1
    change (((s[k]'hlt).toNat : Int) == 40) = _ at e2
    change (((s[k]'hlt).toNat : Int) == 41) = _ at e3
    show Calls _ _ _ _ fun e w' => e = .returned (.bool (isBl (s[k]'hlt) || (s[k]'hlt) == 44 || (s[k]'hlt) == 40 || (s[k]'hlt) == 41)) ∧ w' = w
    generalize isBl (s[k]'hlt) = bb at *
    generalize ((s[k]'hlt) == 44) = b1 at *
    generalize ((s[k]'hlt) == 40) = b2 at *
    generalize ((s[k]'hlt) == 41) = b3 at *
    clear h
    cases bb <;> cases b1 <;> cases b2
    all_goals
      go_enter Tryz.func62, Tryz.ntmps62
      go_wp2_with (go_at_call 58; refine (c1 _).mono ?_; rintro e w' ⟨rfl, rfl⟩)
      go_ret
      exact ⟨by first | rfl | simp, rfl⟩
set_option maxHeartbeats 3200000 in
set_option maxRecDepth 100000 in
theorem rword18_any (l : B) (hl : l.length ≤ 100000000) (w : World) :
    Calls Tryz.prog 60 #[.string (str l)] w fun e w' => e = .returned (.string (str (l.map upB))) ∧ Below w.heap.size w w' := by
  obtain ⟨cap, w1, hcv, hbw, hb1⟩ := conv_text18 w (str l)
  rw [str_size, str_list] at *
  generalize hg : w.heap.size = g at *
  generalize str l = S at *
  have HBW : Hid (BW8 w1 g l) := hbw
  have HB1 : Hid (Below g w w1) := hb1
  clear hbw hb1
  go_enter Tryz.func60, Tryz.ntmps60
  go_wp2
  go_loopw [4] (fun iv wr => ∃ i : Nat, iv = .int .i64 (i : Int) ∧ i ≤ l.length ∧ Hid (BW8 wr g (ups l i)) ∧ Hid (Below g w wr)) (fun i _ => l.length - (RowKit.intOf i).toNat)
  case atStart => exact ⟨0, rfl, Nat.zero_le _, by show BW8 _ _ _; unfold ups; simpa using HBW.out, HB1⟩
  case round =>
    obtain ⟨i, rfl, hi, HW, HB⟩ := hrel
    by_cases hlt : i < l.length
    · have hii : (i : Int) < (l.length : Int) := by omega
      have hl9 : i < (ups l i).length := by rw [ups_len]; exact hlt
      have p := HW.out.2.1 i hl9
      rw [ups_get hlt] at p
      have fz := HW.out.2.2 i hl9
      have hset := HW.out.set hl9 (upB (l.getD i 0))
      rw [ups_set hlt] at hset
      have hskip := ups_skip (l := l) hlt
      generalize l.getD i 0 = x at *
      have hx := UInt8.toNat_lt x
      by_cases h97 : 97 ≤ x.toNat
      · have d97 : (97 : Int) ≤ (x.toNat : Int) := by omega
        have eu : ((upB x).toNat : Int) = (x.toNat : Int) - 32 := by
          unfold upB
          rw [if_pos h97, UInt8.toNat_sub_of_le _ _ (by rw [UInt8.le_iff_toNat_le]; show 32 ≤ x.toNat; omega)]
          show ((x.toNat - 32 : Nat) : Int) = _
          omega
        rw [eu] at hset
        have HS : Hid _ := hset
        have HTn : Hid (Below g w (wr.setCell ⟨g, i, none⟩ (.int .u8 ((x.toNat : Int) - 32)))) := Tn.below HB.out ((Tn.refl g wr).set i _) (Nat.le_refl _) (by rw [← hg]; exact Nat.le_refl _)
        clear hset hskip eu h97 HW HB
        go_wp2
        go_roundw
        case rel => exact ⟨i + 1, by go_num, by omega, HS, HTn⟩
        case measure => simp [RowKit.intOf]; omega
      · have d97 : ¬ (97 : Int) ≤ (x.toNat : Int) := by omega
        have eu : upB x = x := by unfold upB; rw [if_neg h97]
        have HS : Hid (BW8 wr g (ups l (i + 1))) := by rw [← hskip eu]; exact HW.out
        clear hset hskip eu h97 HW
        go_wp2
        go_roundw
        case rel => exact ⟨i + 1, by go_num, by omega, HS, HB⟩
        case measure => simp [RowKit.intOf]; omega
    · have hii : ¬ (i : Int) < (l.length : Int) := by omega
      have hie : i = l.length := by omega
      subst hie
      have hc := HW.out.conv (cap := cap) (n := l.length) (by rw [ups_len])
      rw [ups_all] at hc
      clear HW
      go_wp2
      go_ret
      exact ⟨rfl, HB.out⟩
end Go.Proofs.YtfgpjplfplbcdaaGreatDoor


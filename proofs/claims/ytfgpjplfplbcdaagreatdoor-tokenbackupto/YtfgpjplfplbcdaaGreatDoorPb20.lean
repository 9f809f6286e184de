import Derived.Below
import Derived.BigQuiet
import Derived.ChangeOld
import Derived.Deep.CutRange
import Derived.Deep.LoopGhost
import Derived.Deep.QuietTactic
import Derived.Deep.RegionHeld3
import Derived.Deep.RegionWith
import Derived.Deep.WholeRow
import Derived.KernelRfl
import Derived.LaidEql
import Derived.Laws.BitsAllLaws
import Derived.Laws.CopyRow
import Derived.Laws.EntriesVeiled
import Derived.Laws.Externs
import Derived.Laws.IdiomCopy
import Derived.Laws.IdiomRangeMap
import Derived.Laws.RangeString
import Derived.Laws.ResultCell
import Derived.Laws.Runes
import Derived.Laws.Strings3
import Derived.Lib.AsciiSet
import Derived.Lib.BufferRead
import Derived.Lib.Bytealg
import Derived.Lib.IndexBytes
import Derived.Lib.Strings
import Derived.Lib.TrimByte
import Derived.Lib.Walk
import Derived.OpenShut
import Derived.OwnWalk
import Derived.ProofKit
import Derived.RowKitTokens
import Derived.Shelf.Strconv.Clone
import Derived.Shelf.Strings.OnBuilder
import Derived.ShutString
import Derived.Stop.Asserts
import Derived.WalkKit
import Derived.WalkLawsBesides
import Derived.WalkSpells
import Derived.Test.YtfgpjplfplbcdaaGreatDoorPb16
import Derived.Test.YtfgpjplfplbcdaaGreatDoorPb17
import Derived.Test.YtfgpjplfplbcdaaGreatDoorPb18
/- Layer 9: Scan and Parse, the program's and the document's, by one answer. -/
namespace Go.Proofs.YtfgpjplfplbcdaaGreatDoor
open Go.ChangeShapes Go.WideShapes Go.ChangeAt Go.RowKit
open Lx
set_option linter.unusedVariables false
set_option maxHeartbeats 3200000 in
set_option maxRecDepth 100000 in
theorem rscan9_out (s : ByteArray) (fr : Int) (h : fr < 0 ∨ (s.size : Int) < fr) (w : World) :
    Calls Tryz.prog 61 #[.string s, .int .i64 fr] w fun e w' => e = .returned (.tuple #[.agg (nmA nmZ), .int .i64 0, .int .i64 90, .int .i64 fr]) ∧ Below w.heap.size w w' := by
  have b0 := Bk.new w 30 zero5
  have hb0 : Below w.heap.size w (w.alloc (.cells zero5 30)) := (Below.refl _ w).alloc (Nat.le_refl _) _
  have HB : Hid (Bk (w.alloc (.cells zero5 30)) w.heap.size 30 zero5) := b0
  clear b0
  by_cases h1 : fr < 0
  · have d1 : decide (fr < 0) = true := by simp; omega
    go_enter Tryz.func61, Tryz.ntmps61
    go_wp2
    refine bodyPost_ret (results_c3 rfl _ _ w.heap.size 30 (nmA nmZ) _ rfl HB.out Tryz.underlying30 rfl (by kernel_rfl)) rfl ?_
    exact ⟨rfl, hb0⟩
  · have h2 : (s.size : Int) < fr := by omega
    have d1 : decide (fr < 0) = false := by simp; omega
    have d2 : decide ((s.size : Int) < fr) = true := by simp; omega
    have d2' : decide (fr > (s.size : Int)) = true := by simp; omega
    clear h
    go_enter Tryz.func61, Tryz.ntmps61
    go_wp2
    refine bodyPost_ret (results_c3 rfl _ _ w.heap.size 30 (nmA nmZ) _ rfl HB.out Tryz.underlying30 rfl (by kernel_rfl)) rfl ?_
    exact ⟨rfl, hb0⟩
theorem rscan9_small (s : ByteArray) (hs : s.size ≤ 3000000) (f : Nat) (hf : f ≤ s.size) (hsm : s.size ≤ f + 65536) (w : World) :
    Calls Tryz.prog 61 #[.string s, .int .i64 (f : Int)] w (RScanR w f (refScanL (s.data.toList.drop f))) := by
  by_cases hsg : fst [43, 45] (s.data.toList.drop f) = true
  · have hlt : f < s.size := by
      apply Decidable.byContradiction
      intro hc
      rw [drop_nil_of (by omega)] at hsg
      simp [fst] at hsg
    have hdc := drop_cons_of hlt
    rw [hdc] at hsg
    have hc : (s[f]'hlt) = 43 ∨ (s[f]'hlt) = 45 := by simpa [fst] using hsg
    rcases hc with hc | hc
    · have e1 : refScanL (s.data.toList.drop f) = refAll false 1 (s.data.toList.drop (f + 1)) := by
        unfold refScanL
        rw [hdc, hc]; rfl
      rw [e1]
      exact rscan9_plus s f hs hsm hf w hlt hc
    · have e1 : refScanL (s.data.toList.drop f) = refAll true 1 (s.data.toList.drop (f + 1)) := by
        unfold refScanL
        rw [hdc, hc]; rfl
      rw [e1]
      exact rscan9_minus s f hs hsm hf w hlt hc
  · have hsg' : fst [43, 45] (s.data.toList.drop f) = false := by
      cases hq : fst [43, 45] (s.data.toList.drop f)
      · rfl
      · exact absurd hq hsg
    have e1 : refScanL (s.data.toList.drop f) = refAll false 0 (s.data.toList.drop f) := by
      unfold refScanL
      rw [hsg']; rfl
    rw [e1]
    exact rscan9_no s f hs hsm hf w hsg'
theorem rscan9_long (s0 s : ByteArray) (hs : s.size ≤ 3000000) (hs0 : s0.size ≤ 3000000) (f : Nat) (hbg : f + 65536 < s0.size) (hcut : s0.extract 0 (f + 65536) = s) (hf : f ≤ s.size) (w : World) :
    Calls Tryz.prog 61 #[.string s0, .int .i64 (f : Int)] w (RScanR w f (refScanL (s.data.toList.drop f))) := by
  by_cases hsg : fst [43, 45] (s.data.toList.drop f) = true
  · have hlt : f < s.size := by
      apply Decidable.byContradiction
      intro hc
      rw [drop_nil_of (by omega)] at hsg
      simp [fst] at hsg
    have hdc := drop_cons_of hlt
    rw [hdc] at hsg
    have hc : (s[f]'hlt) = 43 ∨ (s[f]'hlt) = 45 := by simpa [fst] using hsg
    rcases hc with hc | hc
    · have e1 : refScanL (s.data.toList.drop f) = refAll false 1 (s.data.toList.drop (f + 1)) := by
        unfold refScanL
        rw [hdc, hc]; rfl
      rw [e1]
      exact rscan9_plusL s0 s f hs hs0 hbg hcut hf w hlt hc
    · have e1 : refScanL (s.data.toList.drop f) = refAll true 1 (s.data.toList.drop (f + 1)) := by
        unfold refScanL
        rw [hdc, hc]; rfl
      rw [e1]
      exact rscan9_minusL s0 s f hs hs0 hbg hcut hf w hlt hc
  · have hsg' : fst [43, 45] (s.data.toList.drop f) = false := by
      cases hq : fst [43, 45] (s.data.toList.drop f)
      · rfl
      · exact absurd hq hsg
    have e1 : refScanL (s.data.toList.drop f) = refAll false 0 (s.data.toList.drop f) := by
      unfold refScanL
      rw [hsg']; rfl
    rw [e1]
    exact rscan9_noL s0 s f hs hs0 hbg hcut hf w hsg'
theorem rscan9_all (s : ByteArray) (hs : s.size ≤ 2000000) (fr : Int) (w : World) :
    Calls Tryz.prog 61 #[.string s, .int .i64 fr] w fun e w' => e = .returned (.tuple #[.agg (nmA (scN s fr)), .int .i64 (scT s fr), .int .i64 (scC s fr), .int .i64 (scP s fr)]) ∧ Below w.heap.size w w' := by
  by_cases h : fr < 0 ∨ (s.size : Int) < fr
  · refine (rscan9_out s fr h w).mono ?_
    rintro e w' ⟨rfl, hb⟩
    have hno : ¬ scOk s fr := fun q => by
      obtain ⟨q0, q1, q2⟩ := q
      omega
    unfold scN scT scC scP
    rw [if_neg hno, if_neg hno, if_neg hno, if_neg hno]
    exact ⟨rfl, hb⟩
  · obtain ⟨f, rfl⟩ : ∃ f : Nat, fr = f := ⟨fr.toNat, by omega⟩
    have hf : f ≤ s.size := by omega
    have key : Calls Tryz.prog 61 #[.string s, .int .i64 (f : Int)] w (RScanR w f (refScanL ((s.data.toList.drop f).take 65536))) := by
      by_cases hsm : s.size ≤ f + 65536
      · have htk : (s.data.toList.drop f).take 65536 = s.data.toList.drop f := List.take_of_length_le (by rw [List.length_drop, ← Lib.size_eq]; omega)
        rw [htk]
        exact rscan9_small s (by omega) f hf hsm w
      · have e2 : (s.data.toList.drop f).take 65536 = (s.extract 0 (f + 65536)).data.toList.drop f := by
          rw [ext_str, str_list, List.drop_zero, Nat.sub_zero, List.drop_take, Nat.add_sub_cancel_left]
        have hsz : (s.extract 0 (f + 65536)).size = f + 65536 := by rw [ext_str, str_size, List.drop_zero, Nat.sub_zero, List.length_take, ← Lib.size_eq]; omega
        rw [e2]
        exact rscan9_long s (s.extract 0 (f + 65536)) (by omega) (by omega) f (by omega) rfl (by omega) w
    rw [scan_eq] at key
    have hp : longestL ((s.data.toList.drop f).take 65536) = scanP s.data.toList f := rfl
    have hns := num_same (ok_longest ((s.data.toList.drop f).take 65536)) (by rw [List.length_take]; omega)
    rw [hp] at key hns
    refine key.mono ?_
    rintro e w' ⟨hb, ⟨ho, rfl⟩ | ⟨p, ho, rfl⟩⟩
    · have hk : (scanP s.data.toList f).kind = 0 := by
        unfold optOf at ho
        split at ho
        · assumption
        · cases ho
      have hno : ¬ scOk s (f : Int) := fun q => q.2.2 (by rw [Int.toNat_natCast]; exact hk)
      unfold scN scT scC scP
      rw [if_neg hno, if_neg hno, if_neg hno, if_neg hno]
      exact ⟨rfl, hb⟩
    · unfold optOf at ho
      split at ho
      · cases ho
      · rename_i hk
        obtain rfl := Option.some.inj ho
        have hyes : scOk s (f : Int) := ⟨by omega, by omega, by rw [Int.toNat_natCast]; exact hk⟩
        unfold scN scT scC scP
        rw [if_pos hyes, if_pos hyes, if_pos hyes, if_pos hyes, Int.toNat_natCast, hns]
        exact ⟨by simp, hb⟩
end Go.Proofs.YtfgpjplfplbcdaaGreatDoor


/- Layer 9: Scan and Parse, the program's and the document's, by one answer. -/
import Derived.Test.YthibemoincgemabGreatDoorLexRj
import Derived.Test.YthibemoincgemabGreatDoorLexParse
import Derived.Test.YthibemoincgemabGreatDoorBaseF
namespace Go.Proofs.YthibemoincgemabGreatDoor
open Go.ChangeShapes Go.WideShapes Go.ChangeAt Go.RowKit
open Lx
set_option linter.unusedVariables false
namespace Lx
/-- is there a numeral at this place? -/
def scOk (s : ByteArray) (fr : Int) : Prop := 0 ≤ fr ∧ fr ≤ (s.size : Int) ∧ (scanP s.data.toList fr.toNat).kind ≠ 0
instance (s : ByteArray) (fr : Int) : Decidable (scOk s fr) := by unfold scOk; infer_instance
def scN (s : ByteArray) (fr : Int) : Nm := if scOk s fr then Lx.numOf (scanP s.data.toList fr.toNat) else nmZ
def scT (s : ByteArray) (fr : Int) : Int := if scOk s fr then fr + (scanP s.data.toList fr.toNat).stop else 0
def scC (s : ByteArray) (fr : Int) : Int := if scOk s fr then 0 else 90
def scP (s : ByteArray) (fr : Int) : Int := if scOk s fr then -1 else fr
def paN (s : ByteArray) : Nm := if scOk s 0 ∧ (scanP s.data.toList 0).stop = s.size then Lx.numOf (scanP s.data.toList 0) else nmZ
def paC (s : ByteArray) : Int := if scOk s 0 then (if (scanP s.data.toList 0).stop = s.size then 0 else trl (s.get! (scanP s.data.toList 0).stop)) else 90
def paP (s : ByteArray) : Int := if scOk s 0 then (if (scanP s.data.toList 0).stop = s.size then -1 else (scanP s.data.toList 0).stop) else 0
/-- an error value that says this -/
def ErrIs (w : World) (er : Value) (c p : Int) : Prop := (c = 0 ∧ er = .nilIface) ∨ (c ≠ 0 ∧ ∃ g, er = .iface 91 (.pointer (some ⟨g, 0, none⟩)) ∧ FaultAt w g p c)
theorem trl_ne (c : UInt8) : trl c ≠ 0 := by unfold trl; split <;> (try split) <;> omega
end Lx
theorem scan9_all (s : ByteArray) (hs : s.size ≤ maxLen) (fr : Int) (w : World) :
    Calls Tryz.prog 7 #[.string s, .int .i64 fr] w fun e w' => ∃ er, e = .returned (.tuple #[.agg (nmA (scN s fr)), .int .i64 (scT s fr), er]) ∧ ErrIs w' er (scC s fr) (scP s fr) ∧ Below w.heap.size w w' := by
  have h : Calls Tryz.prog 7 #[.string s, .int .i64 fr] w (ScanR w s fr) := by
    by_cases h : fr < 0 ∨ (s.size : Int) < fr
    · exact scan_out s fr h w
    · obtain ⟨f, rfl⟩ : ∃ f : Nat, fr = f := ⟨fr.toNat, by omega⟩
      exact scan_in s hs f (by omega) w
  refine h.mono ?_
  rintro e w' ⟨⟨g, rfl, hF, _, _, hn⟩ | ⟨h0, h1, hk, rfl⟩, hb⟩
  · have hno : ¬ scOk s fr := fun q => by
      obtain ⟨q0, q1, q2⟩ := q
      rcases hn with hn | hn | hn
      · omega
      · omega
      · exact q2 hn
    unfold scN scT scC scP
    rw [if_neg hno, if_neg hno, if_neg hno, if_neg hno]
    exact ⟨_, rfl, Or.inr ⟨by omega, g, rfl, hF⟩, hb⟩
  · have hyes : scOk s fr := ⟨h0, h1, hk⟩
    unfold scN scT scC scP
    rw [if_pos hyes, if_pos hyes, if_pos hyes, if_pos hyes]
    exact ⟨_, rfl, Or.inl ⟨rfl, rfl⟩, hb⟩
theorem parse9_all (s : ByteArray) (hs : s.size ≤ maxLen) (w : World) :
    Calls Tryz.prog 9 #[.string s] w fun e w' => ∃ er, e = .returned (.tuple #[.agg (nmA (paN s)), er]) ∧ ErrIs w' er (paC s) (paP s) ∧ Below w.heap.size w w' := by
  refine (parse9_any s hs w).mono ?_
  have ok : scOk s 0 ↔ (scanP s.data.toList 0).kind ≠ 0 := ⟨fun h => h.2.2, fun h => ⟨by omega, by omega, h⟩⟩
  rintro e w' ⟨⟨g, at_, c, rfl, hF, _, _, hn⟩ | ⟨hk, hst, rfl⟩, hb⟩
  · rcases hn with ⟨hk, rfl, rfl⟩ | ⟨hk, hlt, rfl, rfl⟩
    · have hno : ¬ scOk s 0 := fun q => (ok.mp q) hk
      unfold paN paC paP
      rw [if_neg (fun q => hno q.1), if_neg hno, if_neg hno]
      exact ⟨_, rfl, Or.inr ⟨by omega, g, rfl, hF⟩, hb⟩
    · have hyes : scOk s 0 := ok.mpr hk
      have hne : ¬ (scanP s.data.toList 0).stop = s.size := by omega
      unfold paN paC paP
      rw [if_neg (fun q => hne q.2), if_pos hyes, if_neg hne, if_pos hyes, if_neg hne, Na.get_byte hlt]
      exact ⟨_, rfl, Or.inr ⟨trl_ne _, g, rfl, hF⟩, hb⟩
  · have hyes : scOk s 0 := ok.mpr hk
    unfold paN paC paP
    rw [if_pos ⟨hyes, hst⟩, if_pos hyes, if_pos hst, if_pos hyes, if_pos hst]
    exact ⟨_, rfl, Or.inl ⟨rfl, rfl⟩, hb⟩
set_option maxHeartbeats 3200000 in
set_option maxRecDepth 100000 in
theorem rscan9_out (s : ByteArray) (fr : Int) (h : fr < 0 ∨ (s.size : Int) < fr) (w : World) :
    Calls Tryz.prog 12 #[.string s, .int .i64 fr] w fun e w' => e = .returned (.tuple #[.agg (nmA nmZ), .int .i64 0, .int .i64 90, .int .i64 fr]) ∧ Below w.heap.size w w' := by
  have b0 := Bk.new w 26 zero5
  have hb0 : Below w.heap.size w (w.alloc (.cells zero5 26)) := (Below.refl _ w).alloc (Nat.le_refl _) _
  have HB : Hid (Bk (w.alloc (.cells zero5 26)) w.heap.size 26 zero5) := b0
  clear b0
  by_cases h1 : fr < 0
  · have d1 : decide (fr < 0) = true := by simp; omega
    go_enter Tryz.func12, Tryz.ntmps12
    go_wp2
    refine bodyPost_ret (results_c3 rfl _ _ w.heap.size 26 (nmA nmZ) _ rfl HB.out Tryz.underlying26 rfl (by kernel_rfl)) rfl ?_
    exact ⟨rfl, hb0⟩
  · have h2 : (s.size : Int) < fr := by omega
    have d1 : decide (fr < 0) = false := by simp; omega
    have d2 : decide ((s.size : Int) < fr) = true := by simp; omega
    have d2' : decide (fr > (s.size : Int)) = true := by simp; omega
    clear h
    go_enter Tryz.func12, Tryz.ntmps12
    go_wp2
    refine bodyPost_ret (results_c3 rfl _ _ w.heap.size 26 (nmA nmZ) _ rfl HB.out Tryz.underlying26 rfl (by kernel_rfl)) rfl ?_
    exact ⟨rfl, hb0⟩
theorem rscan9_all (s : ByteArray) (hs : s.size ≤ 10000) (fr : Int) (w : World) :
    Calls Tryz.prog 12 #[.string s, .int .i64 fr] w fun e w' => e = .returned (.tuple #[.agg (nmA (scN s fr)), .int .i64 (scT s fr), .int .i64 (scC s fr), .int .i64 (scP s fr)]) ∧ Below w.heap.size w w' := by
  by_cases h : fr < 0 ∨ (s.size : Int) < fr
  · refine (rscan9_out s fr h w).mono ?_
    rintro e w' ⟨rfl, hb⟩
    have hno : ¬ scOk s fr := fun q => by
      obtain ⟨q0, q1, q2⟩ := q
      omega
    unfold scN scT scC scP
    rw [if_neg hno, if_neg hno, if_neg hno, if_neg hno]
    exact ⟨rfl, hb⟩
  · obtain ⟨f, rfl⟩ : ∃ f : Nat, fr = f := ⟨fr.toNat, by omega⟩
    have hf : f ≤ s.size := by omega
    have key : Calls Tryz.prog 12 #[.string s, .int .i64 (f : Int)] w (RScanR w f (refScanL (s.data.toList.drop f))) := by
      by_cases hsg : fst [43, 45] (s.data.toList.drop f) = true
      · have hlt : f < s.size := by
          apply Decidable.byContradiction
          intro hc
          rw [drop_nil_of (by omega)] at hsg
          simp [fst] at hsg
        have hdc := drop_cons_of hlt
        rw [hdc] at hsg
        have hc : (s[f]'hlt) = 43 ∨ (s[f]'hlt) = 45 := by simpa [fst] using hsg
        rcases hc with hc | hc
        · have e1 : refScanL (s.data.toList.drop f) = refAll false 1 (s.data.toList.drop (f + 1)) := by
            unfold refScanL
            rw [hdc, hc]; rfl
          rw [e1]
          exact rscan9_plus s f hs hf w hlt hc
        · have e1 : refScanL (s.data.toList.drop f) = refAll true 1 (s.data.toList.drop (f + 1)) := by
            unfold refScanL
            rw [hdc, hc]; rfl
          rw [e1]
          exact rscan9_minus s f hs hf w hlt hc
      · have hsg' : fst [43, 45] (s.data.toList.drop f) = false := by
          cases hq : fst [43, 45] (s.data.toList.drop f)
          · rfl
          · exact absurd hq hsg
        have e1 : refScanL (s.data.toList.drop f) = refAll false 0 (s.data.toList.drop f) := by
          unfold refScanL
          rw [hsg']; rfl
        rw [e1]
        exact rscan9_no s f hs hf w hsg'
    rw [scan_eq] at key
    have htk : (s.data.toList.drop f).take 65536 = s.data.toList.drop f := List.take_of_length_le (by rw [List.length_drop, ← Lib.size_eq]; omega)
    have hp : longestL (s.data.toList.drop f) = scanP s.data.toList f := by unfold scanP; rw [htk]
    have hns := num_same (ok_longest (s.data.toList.drop f)) (by rw [List.length_drop, ← Lib.size_eq]; omega)
    rw [hp] at key hns
    refine key.mono ?_
    rintro e w' ⟨hb, ⟨ho, rfl⟩ | ⟨p, ho, rfl⟩⟩
    · have hk : (scanP s.data.toList f).kind = 0 := by
        unfold optOf at ho
        split at ho
        · assumption
        · cases ho
      have hno : ¬ scOk s (f : Int) := fun q => q.2.2 (by rw [Int.toNat_natCast]; exact hk)
      unfold scN scT scC scP
      rw [if_neg hno, if_neg hno, if_neg hno, if_neg hno]
      exact ⟨rfl, hb⟩
    · unfold optOf at ho
      split at ho
      · cases ho
      · rename_i hk
        obtain rfl := Option.some.inj ho
        have hyes : scOk s (f : Int) := ⟨by omega, by omega, by rw [Int.toNat_natCast]; exact hk⟩
        unfold scN scT scC scP
        rw [if_pos hyes, if_pos hyes, if_pos hyes, if_pos hyes, Int.toNat_natCast, hns]
        exact ⟨by simp, hb⟩
set_option maxHeartbeats 3200000 in
set_option maxRecDepth 100000 in
theorem told9_any {w : World} {er : Value} {c p : Int} (h : ErrIs w er c p) (hE : ErrVar w) :
    Calls Tryz.prog 11 #[er, .int .i64 c, .int .i64 p] w fun e w' => e = .returned (.bool true) ∧ Below w.heap.size w w' := by
  rcases h with ⟨rfl, rfl⟩ | ⟨hc, g, rfl, hF⟩
  · go_enter Tryz.func11, Tryz.ntmps11
    go_wp2
    go_ret
    exact ⟨rfl, Below.refl _ _⟩
  · have z : (c == 0) = false := by simpa using hc
    have h1 := codeFault_any hF hE
    go_enter Tryz.func11, Tryz.ntmps11
    go_wp2_with fail
    refine h1.mono ?_
    rintro e w1 ⟨rfl, hB⟩
    have h2 := placeFault_any (hF.later hB) (hE.later hB)
    clear h1
    go_wp2_with fail
    refine h2.mono ?_
    rintro e w2 ⟨rfl, hb⟩
    have hB := hB.trans (hb.mono hB.size)
    clear h2 hb
    go_wp2
    go_ret
    exact ⟨by simp, hB⟩
/-- the text's first 300 bytes -/
def cutB (s : ByteArray) : ByteArray := if 300 < s.size then s.extract 0 300 else s
theorem cut9_any (s : ByteArray) (w : World) :
    Calls Tryz.prog 10 #[.string s] w fun e w' => ∃ t : ByteArray, e = .returned (.string t) ∧ t.size ≤ 300 ∧ t = cutB s ∧ w = w' := by
  unfold cutB
  by_cases h : 300 < s.size
  · rw [if_pos h]
    have d : decide ((s.size : Int) > 300) = true := by simp; omega
    have d' : decide ((300 : Int) < (s.size : Int)) = true := by simp; omega
    have hl : (300 : Int) ≤ (s.size : Int) := by omega
    go_enter Tryz.func10, Tryz.ntmps10
    go_wp2
    go_ret
    refine ⟨_, rfl, ?_, rfl, rfl⟩
    rw [ext_str, str_size, List.length_take]; omega
  · rw [if_neg h]
    have d : decide ((s.size : Int) > 300) = false := by simp; omega
    have d' : decide ((300 : Int) < (s.size : Int)) = false := by simp; omega
    go_enter Tryz.func10, Tryz.ntmps10
    go_wp2
    go_ret
    exact ⟨_, rfl, by omega, rfl, rfl⟩
end Go.Proofs.YthibemoincgemabGreatDoor

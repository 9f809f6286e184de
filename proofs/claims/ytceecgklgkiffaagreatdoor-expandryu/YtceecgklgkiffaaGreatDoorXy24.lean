import Derived.Below
import Derived.BigQuiet
import Derived.ChangeOld
import Derived.Deep.DeepCutAuto
import Derived.Deep.DeepFit
import Derived.Deep.LoopGhost
import Derived.Deep.QuietTactic
import Derived.Deep.RegionHeld3
import Derived.Deep.RegionHeldLaw
import Derived.Deep.RegionLaw
import Derived.Deep.RegionWith
import Derived.Defers
import Derived.KernelRfl
import Derived.Laws.BitsAllLaws
import Derived.Laws.CopyRow
import Derived.Laws.EntriesVeiled
import Derived.Laws.IdiomCopy
import Derived.Laws.IdiomRangeMap
import Derived.Laws.IdiomStrings
import Derived.Laws.RangeAny
import Derived.Laws.ResultCell
import Derived.Laws.Strings3
import Derived.Lib.AtoiErrMem
import Derived.Lib.BytesEntry
import Derived.Lib.ConvBytes
import Derived.Lib.IndexBytes
import Derived.Lib.MakeNoZero
import Derived.Lib.OthersKept
import Derived.Lib.Strings
import Derived.Lib.TrimByte
import Derived.Lib.Walk
import Derived.OpenShut
import Derived.Orders
import Derived.OwnWalk
import Derived.ProofKit
import Derived.Recover
import Derived.Scope
import Derived.ShutString
import Derived.WalkKit
import Derived.WalkLawsBesides
import Derived.WalkMore
import Derived.WalkSpells
import Derived.Test.YtceecgklgkiffaaGreatDoorXy20
import Derived.Test.YtceecgklgkiffaaGreatDoorXy22
import Derived.Test.YtceecgklgkiffaaGreatDoorXy23
/- Layer 13: the walk of ExpandRyu. -/
namespace Go.Proofs.YtceecgklgkiffaaGreatDoor
open Go.ChangeShapes Go.WideShapes Go.ChangeAt Go.RowKit
open Na Ar Ry Ep
set_option linter.unusedVariables false
theorem text1_any {D m : Nat} (hD : D < 18446744073709551616) (h : (D = 0 ∧ m = 1) ∨ (1 ≤ m ∧ 10 ^ (m - 1) ≤ D ∧ D < 10 ^ m)) (w : World) :
    Calls Tryz.prog 21 #[.slice (some ⟨w.heap.size, 0, none⟩) 1 1, .int .i64 10] (w.alloc (.cells #[.int .u64 (D : Int)] 22)) fun e w' => e = .returned (.tuple #[.string ⟨(dg m D).toArray⟩, .int .i64 0]) ∧ Below w.heap.size w w' := by
  have hr := rowC_one w (D : Int) 22
  have hw : Ws [(D : Int)] := fun x hx => by
    have : x = (D : Int) := by simpa using hx
    rw [this]
    omega
  have hn : num [(D : Int)] = (D : Int) := (Nm.one (x := (D : Int)) (by first | omega | (unfold U; omega))).num
  have hba := alloc_below (w := w) (.cells #[.int .u64 (D : Int)] 22)
  rcases h with ⟨rfl, rfl⟩ | ⟨h1, h2, h3⟩
  · refine (textZero_any hr hw (by omega) (by omega) (by omega) hn).mono ?_
    rintro e w' ⟨rfl, hb⟩
    exact ⟨rfl, hba.trans (hb.mono hba.size)⟩
  · have hp : 0 < 10 ^ (m - 1) := Nat.pow_pos (by omega)
    have hl : Lt (D : Int) 1 := ⟨by omega, by omega⟩
    have hll := hl.len
    refine (text_any hr hw (by omega) (by omega) (by omega) (by rw [hn]; omega) (by rw [hn]; omega)).mono ?_
    rintro e w' ⟨t, rfl, ht, hb⟩
    have ht' := text10 ht hn h1 h2 h3
    have : t = ⟨(dg m D).toArray⟩ := by
      apply ByteArray.ext
      rw [← ht']
    exact ⟨by rw [this], hba.trans (hb.mono hba.size)⟩
set_option maxHeartbeats 3200000 in
set_option maxRecDepth 100000 in
theorem ryu13_go {b : Int} {TS : ByteArray} {E D : Int} (hu : U b) (hX : ∀ w, Calls Tryz.prog 19 #[.int .u64 b] w fun e w' => e = .returned (.tuple #[.string TS, .int .i64 E, .int .i64 0]) ∧ Below w.heap.size w w')
    (hY : ∀ w, Calls Tryz.prog 20 #[.int .u64 b] w fun e w' => e = .returned (.tuple #[.int .u64 D, .int .i64 E, .int .i64 0]) ∧ Below w.heap.size w w')
    (hF : ∀ w, Calls Tryz.prog 10 #[.int .u64 b] w fun e w' => e = .returned (.bool true) ∧ w' = w)
    (hT : ∀ w, Calls Tryz.prog 21 #[.slice (some ⟨w.heap.size, 0, none⟩) 1 1, .int .i64 10] (w.alloc (.cells #[.int .u64 D] 22)) fun e w' => e = .returned (.tuple #[.string TS, .int .i64 0]) ∧ Below w.heap.size w w') {w : World} :
    Calls Tryz.prog 6 #[.int .u64 b] w fun r w' => r = .returned (.bool true) ∧ Below w.heap.size w w' := by
  have hA := alive13_any
  go_enter Tryz.func6, Tryz.ntmps6
  go_wp2_with fail
  refine (hX w).mono ?_
  rintro e w1 ⟨rfl, hb1⟩
  go_wp2_with fail
  refine (hY w1).mono ?_
  rintro e w2 ⟨rfl, hb2⟩
  have hB2 := hb1.trans (hb2.mono hb1.size)
  go_wp2_with fail
  refine (hA w2).mono ?_
  rintro e w3 ⟨rfl, hb3⟩
  have hB3 := hB2.trans (hb3.mono hB2.size)
  go_wp2_with fail
  refine (hF w3).mono ?_
  rintro e w4 ⟨rfl, rfl⟩
  go_wp2_with fail
  refine (hT _).mono ?_
  rintro e w5 ⟨rfl, hb5⟩
  have hB5 := hB3.trans (hb5.mono hB3.size)
  clear hX hY hF hT hA hb1 hb2 hb3 hb5 hB2 hB3
  go_wp2
  go_ret
  exact ⟨rfl, hB5⟩
set_option maxHeartbeats 3200000 in
set_option maxRecDepth 100000 in
theorem ryu13_walk {b : Int} (hu : U b) {w : World} :
    Calls Tryz.prog 6 #[.int .u64 b] w fun r w' => r = .returned (.bool true) ∧ Below w.heap.size w w' := by
  have hF := finite13_any hu
  by_cases hf : ef b = 2047
  · have hX := fun w => exShort_inf hu hf w
    have hY := fun w => rshort_inf hu hf w
    have hA := alive13_any
    have da : decide (ef b ≠ 2047) = false := by simp [hf]
    rw [da] at hF
    clear da hf
    go_enter Tryz.func6, Tryz.ntmps6
    go_wp2_with fail
    refine (hX w).mono ?_
    rintro e w1 ⟨rfl, hb1⟩
    go_wp2_with fail
    refine (hY w1).mono ?_
    rintro e w2 ⟨rfl, hb2⟩
    have hB2 := hb1.trans (hb2.mono hb1.size)
    go_wp2_with fail
    refine (hA w2).mono ?_
    rintro e w3 ⟨rfl, hb3⟩
    have hB3 := hB2.trans (hb3.mono hB2.size)
    go_wp2_with fail
    refine (hF w3).mono ?_
    rintro e w4 ⟨rfl, rfl⟩
    go_wp2_with fail
    refine (hA _).mono ?_
    rintro e w5 ⟨rfl, hb5⟩
    have hB5 := hB3.trans (hb5.mono hB3.size)
    clear hX hY hF hA hb1 hb2 hb3 hb5 hB2 hB3
    go_wp2
    go_ret
    exact ⟨rfl, hB5⟩
  · have da : decide (ef b ≠ 2047) = true := by simp [hf]
    rw [da] at hF
    have hm := mg_low hf
    by_cases h0 : mg b = 0
    · have hz : szA b = 0 := by rw [← szA_mg, h0]; rfl
      exact ryu13_go hu (fun w => exShort_zero hu hf hz w) (fun w => rshort_zero hu hf h0 w) hF (fun w => text1_any (D := 0) (m := 1) (by omega) (Or.inl ⟨rfl, rfl⟩) w)
    · have hp : 0 < mg b := by omega
      have S := sh_is hp hm.2
      obtain ⟨D, hD⟩ := Int.eq_ofNat_of_zero_le (Int.le_of_lt S.r0)
      have hD0 : 0 < D := by have := S.r0; omega
      have hD9 : D < 18446744073709551616 := by have := S.r1; omega
      obtain ⟨m, g1, g2, g3⟩ := digits_of D hD0
      have hX : ∀ w, Calls Tryz.prog 19 #[.int .u64 b] w fun e w' => e = .returned (.tuple #[.string ⟨(dg m D).toArray⟩, .int .i64 (shE (mg b)), .int .i64 0]) ∧ Below w.heap.size w w' := fun w => by
        refine (exShort_fin hu hf rfl hp w).mono ?_
        rintro e w' ⟨m', D', E', rfl, ⟨k1, _, k3, k4⟩, hx, hb⟩
        obtain ⟨q1, q2⟩ := exS_is hp hm.2 hx
        have hDD : D' = D := by omega
        subst hDD
        have hmm := digits_uniq k3 k4 g2 g3 k1 g1
        subst hmm
        exact ⟨by rw [q2], hb⟩
      have hY := fun w => rshort_fin hu hf h0 w
      rw [hD] at hY
      exact ryu13_go hu hX hY hF (fun w => text1_any hD9 (Or.inr ⟨g1, g2, g3⟩) w)
end Go.Proofs.YtceecgklgkiffaaGreatDoor


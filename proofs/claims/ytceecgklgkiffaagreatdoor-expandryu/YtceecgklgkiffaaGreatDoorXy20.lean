import Derived.Deep.RegionHeld3
import Derived.Below
import Derived.BigQuiet
import Derived.ChangeOld
import Derived.Deep.DeepCutAuto
import Derived.Deep.LoopGhost
import Derived.Deep.QuietTactic
import Derived.Deep.RegionWith
import Derived.KernelRfl
import Derived.Laws.BitsAllLaws
import Derived.Laws.CopyRow
import Derived.Laws.EntriesVeiled
import Derived.Laws.IdiomCopy
import Derived.Laws.IdiomRangeMap
import Derived.Laws.IdiomStrings
import Derived.Laws.RangeAny
import Derived.Laws.ResultCell
import Derived.Laws.Strings3
import Derived.Lib.OthersKept
import Derived.Lib.Strings
import Derived.Lib.TrimByte
import Derived.Lib.Walk
import Derived.OpenShut
import Derived.OwnWalk
import Derived.ProofKit
import Derived.Scope
import Derived.ShutString
import Derived.WalkKit
import Derived.WalkLawsBesides
import Derived.WalkMore
import Derived.WalkSpells
import Derived.Test.YtceecgklgkiffaaGreatDoorXy2
import Derived.Test.YtceecgklgkiffaaGreatDoorXy18
import Derived.Test.YtceecgklgkiffaaGreatDoorXy19
/- package ryu: whole ones, least, greatest; the span; Shortest. -/
namespace Go.Proofs.YtceecgklgkiffaaGreatDoor
open Go.ChangeShapes Go.WideShapes Go.ChangeAt Go.RowKit
open Na Ar Ry
set_option linter.unusedVariables false
set_option maxHeartbeats 1600000 in
set_option maxRecDepth 100000 in
theorem rwhole_any {i c : Nat} (hi : i < 2046) (h0 : 0 < c) (hc : c ≤ 36028797018963968) (w : World) :
    Calls Tryz.prog 100 #[scV12 i, .int .u64 (c : Int)] w fun e w' => e = .returned (.bool (decide (c * ryN i % ryD i = 0))) ∧ Below w.heap.size w w' := by
  have f := scale_facts hi
  have ft0 := f.t0
  have ft1 := f.t1
  clear f
  have uc : U (c : Int) := by unfold U; omega
  have hz := zerosW_bd uc
  have hZ : ∀ w, Calls Tryz.prog 142 #[.int .u64 (c : Int)] w fun e w' => e = .returned (.int .i64 (zerosW (c : Int))) ∧ w' = w := fun w => (zeros_any uc w).mono (by
    rintro e w' ⟨n, rfl, hw, rfl⟩; exact ⟨rfl, hw.symm⟩)
  have hF : ∀ w, Calls Tryz.prog 143 #[.int .u64 (c : Int), .int .i64 ((ryT i : Int) - 400)] w fun e w' => e = .returned (.bool (decide (5 ^ ((ryT i : Int) - 400).toNat ∣ c))) ∧ w' = w := fun w => (fives_any (c := c) (by omega) (n := (ryT i : Int) - 400) (by omega) (by omega) w).mono (by
    rintro e w' ⟨rfl, hw⟩; exact ⟨rfl, hw.symm⟩)
  have hW : (decide (c * ryN i % ryD i = 0)) = (decide (zerosW (c : Int) ≥ (ryT i : Int) - 400 - ((i : Int) - 1076)) && decide (5 ^ ((ryT i : Int) - 400).toNat ∣ c)) := by
    rw [Bool.eq_iff_iff, Bool.and_eq_true, decide_eq_true_eq, decide_eq_true_eq, decide_eq_true_eq]
    exact whole_is h0 (by omega)
  rw [hW]
  have hb0 := alloc_below (w := w) (.cells (scC i) 139)
  unfold scV12 scC at *
  have x0 : -325 ≤ (ryT i : Int) - 400 := by omega
  have x1 : (ryT i : Int) - 400 ≤ 290 := by omega
  have y0 : -1076 ≤ (i : Int) - 1076 := by omega
  have y1 : (i : Int) - 1076 ≤ 1000 := by omega
  generalize decide (5 ^ ((ryT i : Int) - 400).toNat ∣ c) = fv at *
  generalize (ryT i : Int) - 400 = X at *
  generalize (i : Int) - 1076 = Y at *
  generalize zerosW (c : Int) = Z at *
  obtain ⟨z0, z1⟩ := hz
  clear hW ft0 ft1
  cases hg : decide (Z ≥ X - Y)
  · have hg' : decide (X - Y ≤ Z) = false := hg
    go_enter Tryz.func100, Tryz.ntmps100
    go_wp2
    go_quiet ((first | (go_at_call 142; exact Calls.quiet_of_same (hZ _)) | (go_at_call 143; exact Calls.quiet_of_same (hF _))))
    go_wp2
    go_ret
    exact ⟨rfl, below_drewN hb0 _⟩
  · have hg' : decide (X - Y ≤ Z) = true := hg
    go_enter Tryz.func100, Tryz.ntmps100
    go_wp2
    go_quiet ((first | (go_at_call 142; exact Calls.quiet_of_same (hZ _)) | (go_at_call 143; exact Calls.quiet_of_same (hF _))))
    go_wp2
    go_ret
    exact ⟨rfl, below_drewN hb0 _⟩
set_option maxHeartbeats 1600000 in
set_option maxRecDepth 100000 in
theorem rleast_any {i c : Nat} (hi : i < 2046) (h0 : 0 < c) (hc : c ≤ 36028797018963968) (t : Bool) (w : World) :
    Calls Tryz.prog 96 #[scV12 i, .int .u64 (c : Int), .bool t] w fun e w' => e = .returned (.int .u64 (leN t (c * ryN i) (ryD i) : Int)) ∧ Below w.heap.size w w' := by
  have hW := fun w => rwhole_any hi h0 hc w
  have hF := fun w => rfloor_any hi hc w
  have hl := floor_lt hi hc
  have t0 := Bk.new w 139 (scC i)
  have hb0 := alloc_below (w := w) (.cells (scC i) 139)
  unfold leN
  unfold scV12 scC at *
  generalize hR : c * ryN i / ryD i = R at *
  generalize hB : decide (c * ryN i % ryD i = 0) = b at *
  generalize (ryV i : Int) / 18446744073709551616 = H at *
  generalize (ryV i : Int) % 18446744073709551616 = O at *
  generalize (ryT i : Int) - 400 = X at *
  generalize (i : Int) - 1076 = Y at *
  generalize (ryS i : Int) = S at *
  obtain ⟨x0, x1, x2, x3, x4⟩ := (⟨t0.cell 0 rfl, t0.cell 1 rfl, t0.cell 2 rfl, t0.cell 3 rfl, t0.cell 4 rfl⟩ : _ ∧ _ ∧ _ ∧ _ ∧ _)
  clear hR hB
  cases t
  · go_enter Tryz.func96, Tryz.ntmps96
    go_wp2_with fail
    refine (hF _).mono ?_
    rintro e w1 ⟨rfl, hb1⟩
    have B1 := hb0.trans (hb1.mono hb0.size)
    clear x0 x1 x2 x3 x4 hF hW
    go_wp2
    go_ret
    exact ⟨by simp, B1⟩
  · go_enter Tryz.func96, Tryz.ntmps96
    go_wp2_with fail
    refine (hW _).mono ?_
    rintro e w1 ⟨rfl, hb1⟩
    have B1 := hb0.trans (hb1.mono hb0.size)
    have t1 := t0.later hb1
    clear x0 x1 x2 x3 x4 hW
    obtain ⟨x0, x1, x2, x3, x4⟩ := (⟨t1.cell 0 rfl, t1.cell 1 rfl, t1.cell 2 rfl, t1.cell 3 rfl, t1.cell 4 rfl⟩ : _ ∧ _ ∧ _ ∧ _ ∧ _)
    cases b
    · go_wp2_with fail
      refine (hF _).mono ?_
      rintro e w2 ⟨rfl, hb2⟩
      have B2 := B1.trans (hb2.mono B1.size)
      clear x0 x1 x2 x3 x4 hF
      go_wp2
      go_ret
      exact ⟨by simp, B2⟩
    · go_wp2_with fail
      refine (hF _).mono ?_
      rintro e w2 ⟨rfl, hb2⟩
      have B2 := B1.trans (hb2.mono B1.size)
      clear x0 x1 x2 x3 x4 hF
      go_wp2
      go_ret
      exact ⟨by simp, B2⟩
set_option maxHeartbeats 1600000 in
set_option maxRecDepth 100000 in
theorem rgreat_any {i c : Nat} (hi : i < 2046) (h0 : 0 < c) (hc : c ≤ 36028797018963968) (t : Bool) (w : World) :
    Calls Tryz.prog 98 #[scV12 i, .int .u64 (c : Int), .bool t] w fun e w' => e = .returned (.int .u64 (grN t (c * ryN i) (ryD i) : Int)) ∧ Below w.heap.size w w' := by
  have hW := fun w => rwhole_any hi h0 hc w
  have hF := fun w => rfloor_any hi hc w
  have hl := floor_lt hi hc
  have hg := floor_ge hi h0
  have t0 := Bk.new w 139 (scC i)
  have hb0 := alloc_below (w := w) (.cells (scC i) 139)
  unfold grN
  unfold scV12 scC at *
  generalize hR : c * ryN i / ryD i = R at *
  generalize hB : decide (c * ryN i % ryD i = 0) = b at *
  generalize (ryV i : Int) / 18446744073709551616 = H at *
  generalize (ryV i : Int) % 18446744073709551616 = O at *
  generalize (ryT i : Int) - 400 = X at *
  generalize (i : Int) - 1076 = Y at *
  generalize (ryS i : Int) = S at *
  obtain ⟨x0, x1, x2, x3, x4⟩ := (⟨t0.cell 0 rfl, t0.cell 1 rfl, t0.cell 2 rfl, t0.cell 3 rfl, t0.cell 4 rfl⟩ : _ ∧ _ ∧ _ ∧ _ ∧ _)
  clear hR hB
  cases t
  · go_enter Tryz.func98, Tryz.ntmps98
    go_wp2_with fail
    refine (hW _).mono ?_
    rintro e w1 ⟨rfl, hb1⟩
    have B1 := hb0.trans (hb1.mono hb0.size)
    have t1 := t0.later hb1
    clear x0 x1 x2 x3 x4 hW
    obtain ⟨x0, x1, x2, x3, x4⟩ := (⟨t1.cell 0 rfl, t1.cell 1 rfl, t1.cell 2 rfl, t1.cell 3 rfl, t1.cell 4 rfl⟩ : _ ∧ _ ∧ _ ∧ _ ∧ _)
    cases b
    · go_wp2_with fail
      refine (hF _).mono ?_
      rintro e w2 ⟨rfl, hb2⟩
      have B2 := B1.trans (hb2.mono B1.size)
      clear x0 x1 x2 x3 x4 hF
      go_wp2
      go_ret
      exact ⟨by simp, B2⟩
    · go_wp2_with fail
      refine (hF _).mono ?_
      rintro e w2 ⟨rfl, hb2⟩
      have B2 := B1.trans (hb2.mono B1.size)
      clear x0 x1 x2 x3 x4 hF
      go_wp2
      go_ret
      exact ⟨by simp; omega, B2⟩
  · go_enter Tryz.func98, Tryz.ntmps98
    go_wp2_with fail
    refine (hF _).mono ?_
    rintro e w1 ⟨rfl, hb1⟩
    have B1 := hb0.trans (hb1.mono hb0.size)
    clear x0 x1 x2 x3 x4 hF hW
    go_wp2
    go_ret
    exact ⟨by simp, B1⟩
end Go.Proofs.YtceecgklgkiffaaGreatDoor

/- package ryu: the span of a pattern; Shortest. -/
namespace Go.Proofs.YtceecgklgkiffaaGreatDoor
open Go.ChangeShapes Go.WideShapes Go.ChangeAt Go.RowKit
open Na Ar Ry
set_option linter.unusedVariables false
theorem at_base {f : FuncId} {args : Array Value} {v : Value} (h : ∀ w, Calls Tryz.prog f args w fun e w' => e = .returned v ∧ Below w.heap.size w w') (w0 w1 : World) (hb : Below w0.heap.size w0 w1) :
    Calls Tryz.prog f args w1 fun e w' => e = .returned v ∧ Below w0.heap.size w0 w' ∧ Below w1.heap.size w1 w' :=
  (h w1).mono (by rintro e w' ⟨rfl, h2⟩; exact ⟨rfl, hb.trans (h2.mono hb.size), h2⟩)
set_option maxHeartbeats 3200000 in
set_option maxRecDepth 100000 in
theorem spanOf_any {m i : Nat} (hm0 : 0 < m) (hm : m < 9007199254740992) (hi : i < 2046) {x : Int} (hx : x = (i : Int) - 1074) (w : World) :
    Calls Tryz.prog 50 #[.int .u64 (m : Int), .int .i64 x] w fun e w' => e = .returned (spV (s0R m i)) ∧ Below w.heap.size w w' := by
  have hdn := dn_cases m i
  have hS := fun w => scaleOf_any hi (t := x - 2) (by omega) w
  have hRe : ∀ w, Calls Tryz.prog 97 #[.int .u64 (m : Int), .int .i64 x] w fun e w' => e = .returned (.int .u64 (dnR m i : Int)) ∧ w' = w := fun w => (reach_any (m := m) hx w).mono (by rintro e w' ⟨rfl, h⟩; exact ⟨rfl, h.symm⟩)
  have e1 : 4 * (m : Int) - (dnR m i : Int) = ((4 * m - dnR m i : Nat) : Int) := by omega
  have e2 : 4 * (m : Int) + 2 = ((4 * m + 2 : Nat) : Int) := by omega
  have e3 : 4 * (m : Int) = ((4 * m : Nat) : Int) := by omega
  have hL := fun w => rleast_any hi (c := 4 * m - dnR m i) (by omega) (by omega) (evR m) w
  have hG := fun w => rgreat_any hi (c := 4 * m + 2) (by omega) (by omega) (evR m) w
  have hF := fun w => rfloor_any hi (c := 4 * m) (by omega) w
  have hW := fun w => rwhole_any hi (c := 4 * m) (by omega) (by omega) w
  rw [← e1] at hL
  rw [← e2] at hG
  rw [← e3] at hF hW
  have hE : (((m : Int) % 2) == 0) = evR m := by
    unfold evR; rw [Bool.eq_iff_iff, beq_iff_eq, decide_eq_true_eq]; omega
  have hfin : spC (s0R m i) = #[.int .u64 (leN (evR m) ((4 * m - dnR m i) * ryN i) (ryD i) : Int), .int .u64 (grN (evR m) ((4 * m + 2) * ryN i) (ryD i) : Int), .int .u64 ((4 * m * ryN i / ryD i : Nat) : Int), .int .u64 0, .bool (!decide (4 * m * ryN i % ryD i = 0)), .int .i64 ((ryT i : Int) - 400)] := rfl
  unfold spV
  rw [hfin]
  clear hfin e1 e2 e3
  have d0 : 0 ≤ (dnR m i : Int) := by omega
  have d1 : (dnR m i : Int) ≤ 2 := by omega
  unfold scV12 scC at *
  generalize (dnR m i : Int) = dn at *
  generalize (leN (evR m) ((4 * m - dnR m i) * ryN i) (ryD i) : Int) = LO at *
  generalize (grN (evR m) ((4 * m + 2) * ryN i) (ryD i) : Int) = HI at *
  generalize ((4 * m * ryN i / ryD i : Nat) : Int) = OW at *
  generalize decide (4 * m * ryN i % ryD i = 0) = WH at *
  generalize evR m = tk at *
  generalize (ryV i : Int) / 18446744073709551616 = H at *
  generalize (ryV i : Int) % 18446744073709551616 = O at *
  generalize (ryT i : Int) - 400 = X at *
  generalize (i : Int) - 1076 = Y at *
  generalize (ryS i : Int) = S at *
  have t0 : Bk (w.alloc (.cells #[.int .u64 0, .int .u64 0, .int .u64 0, .int .u64 0, .bool false, .int .i64 0] 90)) w.heap.size 90 #[.int .u64 0, .int .u64 0, .int .u64 0, .int .u64 0, .bool false, .int .i64 0] := Bk.new _ _ _
  have hb0 : Below w.heap.size w (w.alloc (.cells #[.int .u64 0, .int .u64 0, .int .u64 0, .int .u64 0, .bool false, .int .i64 0] 90)) := alloc_below _
  have xb0 : -1074 ≤ x := by omega
  have xb1 : x ≤ 971 := by omega
  have mb0 : 1 ≤ (m : Int) := by omega
  have mb1 : (m : Int) < 9007199254740992 := by omega
  have HwL : Hid (IntKind.u64.wrap (4 * (m : Int) - dn) = 4 * (m : Int) - dn) := by show _ = _; rw [wrapU]; omega
  have HwG : Hid (IntKind.u64.wrap (4 * (m : Int) + 2) = 4 * (m : Int) + 2) := by show _ = _; rw [wrapU]; omega
  have H0 : Hid (Bk (w.alloc (.cells #[.int .u64 0, .int .u64 0, .int .u64 0, .int .u64 0, .bool false, .int .i64 0] 90)) w.heap.size 90 #[.int .u64 0, .int .u64 0, .int .u64 0, .int .u64 0, .bool false, .int .i64 0]) := t0
  have HB : Hid (Below w.heap.size w (w.alloc (.cells #[.int .u64 0, .int .u64 0, .int .u64 0, .int .u64 0, .bool false, .int .i64 0] 90))) := hb0
  clear t0 hb0 hx hdn hi hm0 hm
  go_enter Tryz.func50, Tryz.ntmps50
  go_wp2_with fail
  refine (hS _).mono ?_
  rintro e w1 ⟨rfl, hb1⟩
  clear hS
  have K0 := (H0.out.later hb1).later (alloc_below (w := w1) (.cells #[.int .i64 Y, .int .i64 X, .int .u64 H, .int .u64 O, .int .i64 S] 139))
  have B1 := HB.out.trans (hb1.mono HB.out.size)
  have B2 : Below w.heap.size w (w1.alloc (.cells #[.int .i64 Y, .int .i64 X, .int .u64 H, .int .u64 O, .int .i64 S] 139)) := B1.alloc B1.size _
  have K1 := Bk.new w1 139 #[.int .i64 Y, .int .i64 X, .int .u64 H, .int .u64 O, .int .i64 S]
  obtain ⟨w2, hw2⟩ : ∃ w2, w2 = w1.alloc (.cells #[.int .i64 Y, .int .i64 X, .int .u64 H, .int .u64 O, .int .i64 S] 139) := ⟨_, rfl⟩
  obtain ⟨g1, hg1⟩ : ∃ g1, g1 = w1.heap.size := ⟨_, rfl⟩
  obtain ⟨g0, hg0⟩ : ∃ g0, g0 = w.heap.size := ⟨_, rfl⟩
  rw [← hw2, ← hg0] at K0
  rw [← hw2] at B2
  rw [← hw2, ← hg1] at K1
  have hcl : ∀ w', Below w2.heap.size w2 w' → (w'.cell? ⟨g1, 0, none⟩ = some (.int .i64 Y) ∧ w'.cell? ⟨g1, 1, none⟩ = some (.int .i64 X) ∧ w'.cell? ⟨g1, 2, none⟩ = some (.int .u64 H) ∧ w'.cell? ⟨g1, 3, none⟩ = some (.int .u64 O) ∧ w'.cell? ⟨g1, 4, none⟩ = some (.int .i64 S)) ∧
      (w'.cell? ⟨g0, 0, none⟩ = some (.int .u64 0) ∧ w'.cell? ⟨g0, 1, none⟩ = some (.int .u64 0) ∧ w'.cell? ⟨g0, 2, none⟩ = some (.int .u64 0) ∧ w'.cell? ⟨g0, 3, none⟩ = some (.int .u64 0) ∧ w'.cell? ⟨g0, 4, none⟩ = some (.bool false) ∧ w'.cell? ⟨g0, 5, none⟩ = some (.int .i64 0)) ∧
      (w'.frozen? ⟨g0, 0, none⟩ = false ∧ w'.frozen? ⟨g0, 1, none⟩ = false ∧ w'.frozen? ⟨g0, 2, none⟩ = false ∧ w'.frozen? ⟨g0, 3, none⟩ = false ∧ w'.frozen? ⟨g0, 4, none⟩ = false ∧ w'.frozen? ⟨g0, 5, none⟩ = false) := fun w' h => by
    have a := K1.later h
    have b := K0.later h
    exact ⟨⟨a.cell 0 rfl, a.cell 1 rfl, a.cell 2 rfl, a.cell 3 rfl, a.cell 4 rfl⟩, ⟨b.cell 0 rfl, b.cell 1 rfl, b.cell 2 rfl, b.cell 3 rfl, b.cell 4 rfl, b.cell 5 rfl⟩, ⟨b.frozen 0, b.frozen 1, b.frozen 2, b.frozen 3, b.frozen 4, b.frozen 5⟩⟩
  have hL' := at_base hL w2
  have hG' := at_base hG w2
  have hF' := at_base hF w2
  have hW' := at_base hW w2
  clear hL hG hF hW H0 HB
  go_wp2_with fail
  rw [← hw2, ← hg1, ← hg0]
  have HG0 : Hid (g0 = w.heap.size) := hg0
  have hlt : w.heap.size + 1 ≤ w1.heap.size := by have := hb1.size; simpa using this
  have ng : ¬ g0 = g1 := by omega
  have ng' : ¬ g1 = g0 := by omega
  clear hw2 hg1 hg0
  obtain ⟨⟨x0, x1, x2, x3, x4⟩, ⟨v0, v1, v2, v3, v4, v5⟩, ⟨f0, f1, f2, f3, f4, f5⟩⟩ := hcl w2 (Below.refl _ _)
  go_region_held3 (fun w' => w'.cell? ⟨g1, 0, none⟩ = some (.int .i64 Y) ∧ w'.cell? ⟨g1, 1, none⟩ = some (.int .i64 X) ∧ w'.cell? ⟨g1, 2, none⟩ = some (.int .u64 H) ∧ w'.cell? ⟨g1, 3, none⟩ = some (.int .u64 O) ∧ w'.cell? ⟨g1, 4, none⟩ = some (.int .i64 S)) (go_keep) (first | (go_at_call 97; refine (hRe _).mono ?_; rintro e wR ⟨rfl, hwR⟩; rw [hwR]) | (go_at_call 96; (try rw [HwL.out]); refine (hL' _ (by first | exact Below.refl _ _ | exact below_drewN (Below.refl _ _) _)).mono ?_; rintro e wA ⟨rfl, hBA, hbA⟩; clear x0 x1 x2 x3 x4 v0 v1 v2 v3 v4 v5 f0 f1 f2 f3 f4 f5; obtain ⟨⟨x0, x1, x2, x3, x4⟩, ⟨v0, v1, v2, v3, v4, v5⟩, ⟨f0, f1, f2, f3, f4, f5⟩⟩ := hcl wA hBA) | (go_at_call 98; (try rw [HwG.out]); refine (hG' _ (by first | exact hBA | exact below_drewN hBA _)).mono ?_; rintro e wB ⟨rfl, hBB, hbB⟩; clear x0 x1 x2 x3 x4 v0 v1 v2 v3 v4 v5 f0 f1 f2 f3 f4 f5; obtain ⟨⟨x0, x1, x2, x3, x4⟩, ⟨v0, v1, v2, v3, v4, v5⟩, ⟨f0, f1, f2, f3, f4, f5⟩⟩ := hcl wB hBB) | (go_at_call 99; refine (hF' _ (by first | exact hBB | exact below_drewN hBB _)).mono ?_; rintro e wC ⟨rfl, hBC, hbC⟩; clear x0 x1 x2 x3 x4 v0 v1 v2 v3 v4 v5 f0 f1 f2 f3 f4 f5; obtain ⟨⟨x0, x1, x2, x3, x4⟩, ⟨v0, v1, v2, v3, v4, v5⟩, ⟨f0, f1, f2, f3, f4, f5⟩⟩ := hcl wC hBC) | (go_at_call 100; refine (hW' _ (by first | exact hBC | exact below_drewN hBC _)).mono ?_; rintro e wD ⟨rfl, hBD, hbD⟩; clear x0 x1 x2 x3 x4 v0 v1 v2 v3 v4 v5 f0 f1 f2 f3 f4 f5; obtain ⟨⟨x0, x1, x2, x3, x4⟩, ⟨v0, v1, v2, v3, v4, v5⟩, ⟨f0, f1, f2, f3, f4, f5⟩⟩ := hcl wD hBD))
  go_wp2
  refine bodyPost_ret (results_cell_row rfl _ _ g0 90 _ (0, 0) _ rfl (Bk.all6 (K0.later hBD) _ _ _ _ _ _) Tryz.underlying90 rfl (by kernel_rfl)) rfl ?_
  have hg0 := HG0.out
  have hB9 := B2.trans (hBD.mono B2.size)
  refine ⟨rfl, ?_⟩
  exact below_cell (below_cell (below_cell (below_cell (below_cell (below_cell hB9 (by omega) (by omega)) (by omega) (by omega)) (by omega) (by omega)) (by omega) (by omega)) (by omega) (by omega)) (by omega) (by omega)
namespace Ry
theorem s0_bd {m i : Nat} (hm0 : 0 < m) (hm : m < 9007199254740992) (hi : i < 2046) : SpB 20 (s0R m i) := by
  have s := s0_is hm0 hi
  have dc := dn_cases m i
  have dp := ryD_pos i
  have f := scale_facts hi
  have ft := f.t1
  have fl := f.lo
  have hN : 0 < ryN i := by omega
  have hc : (s0R m i).high ≤ (4 * m + 2) * ryN i / ryD i := by
    show grN _ _ _ ≤ _
    unfold grN
    split
    · exact Nat.sub_le _ _
    · exact Nat.le_refl _
  have hc2 := floor_lt hi (c := 4 * m + 2) (by omega)
  have ho := floor_lt hi (c := 4 * m) (by omega)
  have e0 : (s0R m i).own = 4 * m * ryN i / ryD i := rfl
  have e1 : (s0R m i).last = 0 := rfl
  have e2 : (s0R m i).tens = ryT i := rfl
  have e20 : (10 : Nat) ^ 20 = 100000000000000000000 := rfl
  have g4 : dnR m i * ryN i ≤ 2 * ryN i := Nat.mul_le_mul_right _ (by omega)
  have eL : (4 * m - dnR m i) * ryN i = 4 * m * ryN i - dnR m i * ryN i := Nat.sub_mul _ _ _
  have eH : (4 * m + 2) * ryN i = 4 * m * ryN i + 2 * ryN i := Nat.add_mul _ _ _
  have gm : 4 * ryN i ≤ 4 * m * ryN i := Nat.mul_le_mul_right _ (by omega)
  have h1 : 1 ≤ (s0R m i).low := by
    rcases Nat.eq_zero_or_pos (s0R m i).low with z | z
    · have := (s.lo 0).mpr (by omega)
      rw [Nat.zero_mul] at this
      unfold Ls at this
      have p : 0 < (4 * m - dnR m i) * ryN i := Nat.mul_pos (by omega) hN
      split at this <;> omega
    · exact z
  have h2 : (s0R m i).low ≤ (s0R m i).high := by
    obtain ⟨y, q, q'⟩ := room (t := evR m) (L := (4 * m - dnR m i) * ryN i) (H := (4 * m + 2) * ryN i) dp (by rw [eL, eH]; omega)
    exact Nat.le_trans ((s.lo y).mp q) ((s.hi y).mp q')
  clear f s
  exact ⟨h1, h2, by rw [e20]; omega, by omega, by omega, by omega, by omega⟩
theorem sp_mg {b : Int} (h : U b) : spM (mg b) = spM b ∧ spX (mg b) = spX b ∧ ef (mg b) = ef b := by
  have e1 : ef (mg b) = ef b := by unfold ef mg; omega
  have e2 : fr (mg b) = fr b := by unfold fr mg; omega
  unfold spM spX
  rw [e1, e2]
  exact ⟨rfl, rfl, rfl⟩
end Ry
theorem rshort_inf {b : Int} (hu : U b) (hf : ef b = 2047) (w : World) :
    Calls Tryz.prog 20 #[.int .u64 b] w fun e w' => e = .returned (.tuple #[.int .u64 0, .int .i64 0, .int .i64 120]) ∧ Below w.heap.size w w' := by
  have hS := fun w => f6Split_any hu w
  have e1 : fiE b = 60 := by unfold fiE; rw [if_pos hf]
  rw [e1] at hS
  go_enter Tryz.func20, Tryz.ntmps20
  go_wp2_with fail
  refine (hS _).mono ?_
  rintro e w1 ⟨rfl, rfl⟩
  go_wp2
  refine bodyPost_ret (v := .tuple #[.int .u64 0, .int .i64 0, .int .i64 120]) (by simp [results, Tryz.results20, go_sem]) rfl ?_
  exact ⟨rfl, Below.refl _ _⟩
theorem rshort_zero {b : Int} (hu : U b) (hf : ef b ≠ 2047) (h0 : mg b = 0) (w : World) :
    Calls Tryz.prog 20 #[.int .u64 b] w fun e w' => e = .returned (.tuple #[.int .u64 0, .int .i64 0, .int .i64 0]) ∧ Below w.heap.size w w' := by
  have hS := fun w => f6Split_any hu w
  have e1 : fiE b = 0 := by unfold fiE; rw [if_neg hf]
  have e2 : spM b = 0 := (num_zero hu hf).mpr h0
  rw [e1, e2] at hS
  go_enter Tryz.func20, Tryz.ntmps20
  go_wp2_with fail
  refine (hS _).mono ?_
  rintro e w1 ⟨rfl, rfl⟩
  go_wp2
  refine bodyPost_ret (v := .tuple #[.int .u64 0, .int .i64 0, .int .i64 0]) (by simp [results, Tryz.results20, go_sem]) rfl ?_
  exact ⟨rfl, Below.refl _ _⟩
set_option maxHeartbeats 3200000 in
set_option maxRecDepth 100000 in
theorem rshort_fin {b : Int} (hu : U b) (hf : ef b ≠ 2047) (h0 : mg b ≠ 0) (w : World) :
    Calls Tryz.prog 20 #[.int .u64 b] w fun e w' => e = .returned (.tuple #[.int .u64 (shD (mg b)), .int .i64 (shE (mg b)), .int .i64 0]) ∧ Below w.heap.size w w' := by
  have hS := fun w => f6Split_any hu w
  have e1 : fiE b = 0 := by unfold fiE; rw [if_neg hf]
  have p0 : 0 < mg b := by have := (mg_bd b).1; omega
  have p1 : mg b ≤ mostP := by
    have := mg_bd b
    have := ef_bd b
    have := fr_bd b
    have := mg_parts b
    unfold mostP
    omega
  obtain ⟨q1, q2, q3, q4, q5, q6, -, -, -⟩ := parts_of p0 p1
  obtain ⟨m1, m2, m3⟩ := sp_mg hu
  rw [m1] at q4
  rw [m2] at q5
  rw [e1, ← q4] at hS
  have nz : (((mP (mg b) : Nat) : Int) == 0) = false := beq_no (by omega)
  have hSp := fun w => spanOf_any q1 q2 q3 (x := spX b) (by omega) w
  have bd := s0_bd q1 q2 q3
  have hSh := fun w => shortest_any (n := 20) (Nat.le_refl _) bd w
  obtain ⟨k, bk⟩ := go_bd 20 _ bd
  have hNe := fun w => rnearest_any (s := goS 20 (s0R (mP (mg b)) (iP (mg b)))) (by have := bk.lh; have := bk.hh; omega) bk.ow w
  have r1 : shD (mg b) = (neS (goS 20 (s0R (mP (mg b)) (iP (mg b)))) : Int) := rfl
  have r2 : shE (mg b) = ((goS 20 (s0R (mP (mg b)) (iP (mg b)))).tens : Int) - 400 := rfl
  rw [r1, r2]
  have bt := bk.te
  generalize goS 20 (s0R (mP (mg b)) (iP (mg b))) = S at *
  generalize hs0 : s0R (mP (mg b)) (iP (mg b)) = S0 at *
  generalize (mP (mg b) : Int) = M at *
  generalize spS b = sb at *
  generalize spX b = X at *
  clear r1 r2 bd bk q1 q2 q3 q4 q5 q6 p0 p1 m1 m2 m3 e1 hs0 h0 hf
  unfold spV spC at *
  generalize (neS S : Int) = R at *
  go_enter Tryz.func20, Tryz.ntmps20
  go_wp2_with fail
  refine (hS _).mono ?_
  rintro e w1 ⟨rfl, rfl⟩
  clear hS
  go_wp2_with fail
  refine (hSp _).mono ?_
  rintro e w1 ⟨rfl, hb1⟩
  clear hSp
  go_wp2_with fail
  refine (hSh _).mono ?_
  rintro e w2 ⟨rfl, hb2⟩
  clear hSh
  have B2 := hb1.trans (hb2.mono hb1.size)
  have K := Bk.new w2 90 (spC S)
  have B3 : Below w.heap.size w (w2.alloc (.cells (spC S) 90)) := B2.alloc B2.size _
  unfold spC at K B3
  obtain ⟨w3, hw3⟩ : ∃ w3, w3 = w2.alloc (.cells #[.int .u64 (S.low : Int), .int .u64 (S.high : Int), .int .u64 (S.own : Int), .int .u64 (S.last : Int), .bool S.more, .int .i64 ((S.tens : Int) - 400)] 90) := ⟨_, rfl⟩
  obtain ⟨g1, hg1⟩ : ∃ g1, g1 = w2.heap.size := ⟨_, rfl⟩
  rw [← hw3, ← hg1] at K
  rw [← hw3] at B3
  have hcl : ∀ w', Below w3.heap.size w3 w' → w'.cell? ⟨g1, 0, none⟩ = some (.int .u64 (S.low : Int)) ∧ w'.cell? ⟨g1, 1, none⟩ = some (.int .u64 (S.high : Int)) ∧ w'.cell? ⟨g1, 2, none⟩ = some (.int .u64 (S.own : Int)) ∧ w'.cell? ⟨g1, 3, none⟩ = some (.int .u64 (S.last : Int)) ∧ w'.cell? ⟨g1, 4, none⟩ = some (.bool S.more) ∧ w'.cell? ⟨g1, 5, none⟩ = some (.int .i64 ((S.tens : Int) - 400)) := fun w' h => sp_cells (K.later h)
  have hNe' := at_base hNe w3
  clear hNe
  go_wp2_with fail
  rw [← hw3, ← hg1]
  clear hw3 hg1
  obtain ⟨x0, x1, x2, x3, x4, x5⟩ := hcl w3 (Below.refl _ _)
  go_region_held3 (fun w' => w'.cell? ⟨g1, 0, none⟩ = some (.int .u64 (S.low : Int)) ∧ w'.cell? ⟨g1, 1, none⟩ = some (.int .u64 (S.high : Int)) ∧ w'.cell? ⟨g1, 2, none⟩ = some (.int .u64 (S.own : Int)) ∧ w'.cell? ⟨g1, 3, none⟩ = some (.int .u64 (S.last : Int)) ∧ w'.cell? ⟨g1, 4, none⟩ = some (.bool S.more) ∧ w'.cell? ⟨g1, 5, none⟩ = some (.int .i64 ((S.tens : Int) - 400))) (go_keep) (first | (go_at_call 52; refine (hNe' _ (by first | exact Below.refl _ _ | exact below_drewN (Below.refl _ _) _)).mono ?_; rintro e wA ⟨rfl, hBA, hbA⟩; clear x0 x1 x2 x3 x4 x5; obtain ⟨x0, x1, x2, x3, x4, x5⟩ := hcl wA hBA))
  go_wp2
  refine bodyPost_ret (v := .tuple #[.int .u64 R, .int .i64 ((S.tens : Int) - 400), .int .i64 0]) (by simp [results, Tryz.results20, go_sem]) rfl ?_
  exact ⟨rfl, B3.trans (hBA.mono B3.size)⟩
end Go.Proofs.YtceecgklgkiffaaGreatDoor


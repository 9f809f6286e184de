/- Layer 14: ftoa: the forms of a decimal. -/
import Derived.Test.YtjnmgjcmagnkeaaDoorFtoA
namespace Go.Proofs.YtjnmgjcmagnkeaaDoor
open Go.ChangeShapes Go.WideShapes Go.ChangeAt Go.RowKit
open Lx Go.Shelf Ft
set_option linter.unusedVariables false
/-- a decimal as a value -/
def fdC (d : B) (k : Int) : Array Value := #[.string (str d), .int .i64 k]
namespace Ft
theorem ext_take (l : B) (j : Nat) : (str l).extract 0 j = str (l.take j) := by rw [ext_str, str_list, List.drop_zero, Nat.sub_zero]
theorem ext_drop (l : B) (i : Nat) : (str l).extract i (str l).size = str (l.drop i) := by
  rw [ext_str, str_list, str_size, List.take_of_length_le]
  rw [List.length_drop]; omega
end Ft
set_option maxHeartbeats 1600000 in
set_option maxRecDepth 100000 in
theorem plain14_small {d : B} (h2 : d.length ≤ 100000) {k : Int} (k0 : -10000 ≤ k) (k1 : k ≤ 0) (w : World) :
    Calls Tryd.prog 9 #[.agg (fdC d k)] w fun r w' => r = .returned (.string (str (plT d k))) ∧ Below w.heap.size w w' := by
  have hZ := fun w => zeros14_any (n := (-k).toNat) (by omega) w
  have ez : (((-k).toNat : Nat) : Int) = -k := by omega
  rw [ez] at hZ
  have hP : plT d k = 48 :: 46 :: (List.replicate (-k).toNat 48 ++ d) := if_pos k1
  rw [hP]
  have hR : (List.replicate (-k).toNat (48 : UInt8)).length ≤ 10000 := by rw [List.length_replicate]; omega
  have B1 : Below w.heap.size w (w.alloc (.cells (fdC d k) 32)) := (Below.refl _ w).alloc (Nat.le_refl _) _
  have K := Ry.Bk.new w 32 (fdC d k)
  unfold fdC at *
  have sd : (str d).size = d.length := str_size d
  generalize List.replicate (-k).toNat (48 : UInt8) = R at *
  have sR : (str R).size = R.length := str_size R
  obtain ⟨T1, c1, t1, H1⟩ := catE (ByteArray.mk #[48, 46]) (str R)
  obtain ⟨T2, c2, t2, H2⟩ := catE T1 (str d)
  have Q : Hid (T2 = str (48 :: 46 :: (R ++ d))) := str_eq (by rw [H2.out, H1.out, str_list, str_list]; simp)
  have z1 : (ByteArray.mk #[48, 46]).size = 2 := rfl
  rw [z1] at t1
  clear H1 H2 hP ez
  obtain ⟨g, hg⟩ : ∃ g, g = w.heap.size := ⟨_, rfl⟩
  obtain ⟨w0, hw0⟩ : ∃ w0, w0 = w.alloc (.cells #[.string (str d), .int .i64 k] 32) := ⟨_, rfl⟩
  rw [← hw0, ← hg] at K
  rw [← hw0] at B1
  have hcl : ∀ w', Below w0.heap.size w0 w' → w'.cell? ⟨g, 0, none⟩ = some (.string (str d)) ∧ w'.cell? ⟨g, 1, none⟩ = some (.int .i64 k) := fun w' h => ⟨(K.later h).cell 0 rfl, (K.later h).cell 1 rfl⟩
  obtain ⟨x0, x1⟩ := hcl w0 (Below.refl _ _)
  go_enter Tryd.func9, Tryd.ntmps9
  go_wp2_with fail
  rw [← hw0, ← hg]
  clear hw0 hg K
  have wr : IntKind.i64.wrap (-k) = -k := by unfold IntKind.wrap; simp [IntKind.bits, IntKind.signed]; omega
  have q1 : (9223372036854775807 < 2 + R.length) = False := eq_false (by omega)
  have q2 : (2 + R.length > 9223372036854775807) = False := eq_false (by omega)
  have q3 : (9223372036854775807 < 2 + R.length + d.length) = False := eq_false (by omega)
  have q4 : (2 + R.length + d.length > 9223372036854775807) = False := eq_false (by omega)
  go_region_held3 (fun w' => w'.cell? ⟨g, 0, none⟩ = some (.string (str d)) ∧ w'.cell? ⟨g, 1, none⟩ = some (.int .i64 k)) (go_keep) (first | (go_at_call 19; refine (hZ _).mono ?_; rintro e wA ⟨rfl, hbA⟩; have hBA : Below w0.heap.size w0 wA := (by first | exact hbA | exact (below_drewN (Below.refl _ w0) _).trans (hbA.mono (Nat.le_refl _))); clear x0 x1; obtain ⟨x0, x1⟩ := hcl wA hBA))
  go_wp2
  go_ret
  exact ⟨by rw [Q.out]; rfl, B1.trans (hBA.mono B1.size)⟩
set_option maxHeartbeats 1600000 in
set_option maxRecDepth 100000 in
theorem plain14_mid {d : B} (h2 : d.length ≤ 100000) {k : Int} (k0 : 0 < k) (k1 : k < d.length) (w : World) :
    Calls Tryd.prog 9 #[.agg (fdC d k)] w fun r w' => r = .returned (.string (str (plT d k))) ∧ Below w.heap.size w w' := by
  have hP : plT d k = d.take k.toNat ++ (46 :: d.drop k.toNat) := by unfold plT; rw [if_neg (by omega), if_pos k1]
  rw [hP]
  have B1 : Below w.heap.size w (w.alloc (.cells (fdC d k) 32)) := (Below.refl _ w).alloc (Nat.le_refl _) _
  unfold fdC at *
  have sd : (str d).size = d.length := str_size d
  have e1 := ext_take d k.toNat
  have e2 := ext_drop d k.toNat
  rw [sd] at e2
  have s1 : (str (d.take k.toNat)).size = k.toNat := by rw [str_size, List.length_take]; omega
  have s2 : (str (d.drop k.toNat)).size = d.length - k.toNat := by rw [str_size, List.length_drop]
  obtain ⟨T1, c1, t1, H1⟩ := catE (str (d.take k.toNat)) (ByteArray.mk #[46])
  obtain ⟨T2, c2, t2, H2⟩ := catE T1 (str (d.drop k.toNat))
  have Q : Hid (T2 = str (d.take k.toNat ++ (46 :: d.drop k.toNat))) := str_eq (by rw [H2.out, H1.out, str_list, str_list]; simp)
  have z1 : (ByteArray.mk #[46]).size = 1 := rfl
  rw [z1] at t1
  clear H1 H2 hP
  generalize d.take k.toNat = D1 at *
  generalize d.drop k.toNat = D2 at *
  have d1 : decide (k ≤ 0) = false := by simp; omega
  have d2 : decide (k < (d.length : Int)) = true := by simp; omega
  go_enter Tryd.func9, Tryd.ntmps9
  go_wp2_with fail
  go_quiet (fail)
  go_wp2
  go_ret
  exact ⟨by rw [Q.out]; rfl, below_drewN B1 _⟩
set_option maxHeartbeats 1600000 in
set_option maxRecDepth 100000 in
theorem plain14_big {d : B} (h2 : d.length ≤ 100000) {k : Int} (k0 : 0 < k) (k1 : (d.length : Int) ≤ k) (k2 : k ≤ 100000) (w : World) :
    Calls Tryd.prog 9 #[.agg (fdC d k)] w fun r w' => r = .returned (.string (str (plT d k))) ∧ Below w.heap.size w w' := by
  have hZ := fun w => zeros14_any (n := (k - d.length).toNat) (by omega) w
  have ez : (((k - d.length).toNat : Nat) : Int) = k - d.length := by omega
  rw [ez] at hZ
  have hP : plT d k = d ++ List.replicate (k - d.length).toNat 48 := by unfold plT; rw [if_neg (by omega), if_neg (by omega)]
  rw [hP]
  have hR : (List.replicate (k - d.length).toNat (48 : UInt8)).length ≤ 100000 := by rw [List.length_replicate]; omega
  have B1 : Below w.heap.size w (w.alloc (.cells (fdC d k) 32)) := (Below.refl _ w).alloc (Nat.le_refl _) _
  have K := Ry.Bk.new w 32 (fdC d k)
  unfold fdC at *
  have sd : (str d).size = d.length := str_size d
  generalize List.replicate (k - d.length).toNat (48 : UInt8) = R at *
  have sR : (str R).size = R.length := str_size R
  obtain ⟨T1, c1, t1, H1⟩ := catE (str d) (str R)
  have Q : Hid (T1 = str (d ++ R)) := str_eq (by rw [H1.out, str_list, str_list])
  clear H1 hP ez
  have d1 : decide (k ≤ 0) = false := by simp; omega
  have d2 : decide (k < (d.length : Int)) = false := by simp; omega
  obtain ⟨g, hg⟩ : ∃ g, g = w.heap.size := ⟨_, rfl⟩
  obtain ⟨w0, hw0⟩ : ∃ w0, w0 = w.alloc (.cells #[.string (str d), .int .i64 k] 32) := ⟨_, rfl⟩
  rw [← hw0, ← hg] at K
  rw [← hw0] at B1
  have hcl : ∀ w', Below w0.heap.size w0 w' → w'.cell? ⟨g, 0, none⟩ = some (.string (str d)) ∧ w'.cell? ⟨g, 1, none⟩ = some (.int .i64 k) := fun w' h => ⟨(K.later h).cell 0 rfl, (K.later h).cell 1 rfl⟩
  obtain ⟨x0, x1⟩ := hcl w0 (Below.refl _ _)
  have wr : IntKind.i64.wrap (k - (d.length : Int)) = k - (d.length : Int) := by unfold IntKind.wrap; simp [IntKind.bits, IntKind.signed]; omega
  go_enter Tryd.func9, Tryd.ntmps9
  go_wp2_with fail
  rw [← hw0, ← hg]
  clear hw0 hg K
  have q1 : (9223372036854775807 < d.length + R.length) = False := eq_false (by omega)
  have q2 : (d.length + R.length > 9223372036854775807) = False := eq_false (by omega)
  go_region_held3 (fun w' => w'.cell? ⟨g, 0, none⟩ = some (.string (str d)) ∧ w'.cell? ⟨g, 1, none⟩ = some (.int .i64 k)) (go_keep) (first | (go_at_call 19; refine (hZ _).mono ?_; rintro e wA ⟨rfl, hbA⟩; have hBA : Below w0.heap.size w0 wA := (by first | exact hbA | exact (below_drewN (Below.refl _ w0) _).trans (hbA.mono (Nat.le_refl _))); clear x0 x1; obtain ⟨x0, x1⟩ := hcl wA hBA))
  go_wp2
  go_ret
  exact ⟨by rw [Q.out]; rfl, B1.trans (hBA.mono B1.size)⟩
theorem plain14_any {d : B} (h2 : d.length ≤ 100000) {k : Int} (k0 : -10000 ≤ k) (k2 : k ≤ 100000) (w : World) :
    Calls Tryd.prog 9 #[.agg (fdC d k)] w fun r w' => r = .returned (.string (str (plT d k))) ∧ Below w.heap.size w w' := by
  by_cases q : k ≤ 0
  · exact plain14_small h2 k0 q w
  · by_cases q2 : k < d.length
    · exact plain14_mid h2 (by omega) q2 w
    · exact plain14_big h2 (by omega) (by omega) k2 w
end Go.Proofs.YtjnmgjcmagnkeaaDoor

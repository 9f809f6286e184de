/- Layer 14: ftoa: allDigits, Plain. -/
import Derived.Test.YtjnmgjcmagnkeaaDoorFtoB
namespace Go.Proofs.YtjnmgjcmagnkeaaDoor
open Go.ChangeShapes Go.WideShapes Go.ChangeAt Go.RowKit
open Lx Go.Shelf Ft
set_option linter.unusedVariables false
namespace Ft
def lz (l : B) : B := l.dropWhile (· == 48)
def tz (l : B) : B := (l.reverse.dropWhile (· == 48)).reverse
/-- what Plain writes -/
def plD (l : B) (e : Int) : B := if lz l = [] then [48] else plT (tz (lz l)) ((lz l).length + e)
def allD (l : B) : Bool := l.all isD && !l.isEmpty
theorem lz_len (l : B) : (lz l).length ≤ l.length := (List.dropWhile_suffix _).length_le
theorem tz_len (l : B) : (tz l).length ≤ l.length := by
  unfold tz
  rw [List.length_reverse]
  have := (List.dropWhile_suffix (l := l.reverse) (· == 48)).length_le
  rwa [List.length_reverse] at this
theorem isD_iff (c : UInt8) : isD c = true ↔ 48 ≤ (c.toNat : Int) ∧ (c.toNat : Int) ≤ 57 := by
  unfold isD
  simp only [Bool.and_eq_true, decide_eq_true_eq]
  omega
end Ft
set_option maxHeartbeats 1600000 in
theorem allDigits_any (s : ByteArray) (hs : s.size ≤ 9223372036854775807) (w : World) :
    Calls Tryd.prog 6 #[.string s] w fun r w' => r = .returned (.bool (allD s.data.toList)) ∧ w' = w := by
  have HL : Hid (s.size = s.data.toList.length) := Lib.size_eq s
  go_enter Tryd.func6, Tryd.ntmps6
  go_wp2
  go_loopw [6] (fun v wr => ∃ i : Nat, v = .int .i64 (i : Int) ∧ i ≤ s.size ∧ Hid ((s.data.toList.take i).all isD = true) ∧ wr = w) (fun v _ => s.size - (RowKit.intOf v).toNat)
  case atStart => exact ⟨0, rfl, Nat.zero_le _, rfl, rfl⟩
  case round =>
    obtain ⟨i, rfl, hi, HA, rfl⟩ := hrel
    by_cases q : i < s.size
    · have hg : s.data.toList[i]? = some (s[i]'q) := Lib.data_getElem? s i q
      obtain ⟨c, hc⟩ : ∃ c, c = s[i]'q := ⟨_, rfl⟩
      rw [← hc] at hg
      have hx : ∀ h, s[i]'h = c := fun _ => hc.symm
      have d0 : decide ((i : Int) < (s.size : Int)) = true := by simp; omega
      have HT : Hid (s.data.toList.take (i + 1) = s.data.toList.take i ++ [c]) := by
        show _ = _
        rw [List.take_add_one, hg]
        rfl
      have HD := Lib.hid (isD_iff c)
      clear hc
      by_cases qd : isD c = true
      · obtain ⟨b0, b1⟩ := (isD_iff c).mp qd
        have HA2 : Hid ((s.data.toList.take (i + 1)).all isD = true) := by show _ = _; rw [HT.out, List.all_append, HA.out, List.all_cons, qd]; rfl
        have e1 : decide ((c.toNat : Int) < 48) = false := by simp; omega
        have e2 : decide ((c.toNat : Int) > 57) = false := by simp; omega
        have e3 : decide (57 < (c.toNat : Int)) = false := by simp; omega
        clear HT HA HD qd hg
        go_wp2
        go_roundw
        case rel => exact ⟨i + 1, rfl, by omega, HA2.out, trivial⟩
        case measure => simp [RowKit.intOf]; omega
      · have HR : Hid (allD s.data.toList = false) := by
          show _ = _
          unfold allD
          have : s.data.toList.all isD = false := by
            rw [List.all_eq_false]
            exact ⟨c, List.mem_of_getElem? hg, qd⟩
          rw [this]; rfl
        clear HT HA hg
        by_cases e1 : (c.toNat : Int) < 48
        · clear HD qd
          go_wp2
          go_ret
          exact ⟨by rw [HR.out]; rfl, rfl⟩
        · have e2 : 57 < (c.toNat : Int) := by
            rcases Int.lt_or_le 57 (c.toNat : Int) with z | z
            · exact z
            · exact absurd (HD.out.mpr ⟨by omega, z⟩) qd
          have e3 : 48 ≤ (c.toNat : Int) := by omega
          clear HD qd e1
          go_wp2
          go_ret
          exact ⟨by rw [HR.out]; rfl, rfl⟩
    · have d0 : decide ((i : Int) < (s.size : Int)) = false := by simp; omega
      have ha : s.data.toList.all isD = true := by
        have := HA.out
        rwa [List.take_of_length_le (by have := HL.out; omega)] at this
      have HR : Hid (allD s.data.toList = !s.toList.isEmpty) := by show _ = _; unfold allD; rw [ha, Bool.true_and, Lib.toList_data]
      clear ha HA
      cases he : s.toList.isEmpty with
      | true =>
        go_wp2
        go_ret
        refine ⟨?_, rfl⟩
        rw [HR.out, he]; rfl
      | false =>
        go_wp2
        go_ret
        refine ⟨?_, rfl⟩
        rw [HR.out, he]; rfl
set_option maxRecDepth 100000 in
theorem plainF_digit (s : ByteArray) (hs : s.size ≤ 9223372036854775807) {e : Int} (ha : allD s.data.toList = false) (w : World) :
    Calls Tryd.prog 4 #[.string s, .int .i64 e] w fun r w' => r = .returned (.tuple #[.string ⟨#[]⟩, .int .i64 41]) ∧ w' = w := by
  have hA := fun w => allDigits_any s hs w
  rw [ha] at hA
  go_enter Tryd.func4, Tryd.ntmps4
  go_wp2_with fail
  refine (hA _).mono ?_
  rintro r w1 ⟨rfl, hw⟩
  rw [hw]
  clear hA hw
  go_wp2
  go_ret2
  exact ⟨rfl, rfl⟩
set_option maxRecDepth 100000 in
theorem plainF_fixed (s : ByteArray) (hs : s.size ≤ 9223372036854775807) {e : Int} (ha : allD s.data.toList = true) (he : e < -1100 ∨ 1100 < e) (w : World) :
    Calls Tryd.prog 4 #[.string s, .int .i64 e] w fun r w' => r = .returned (.tuple #[.string ⟨#[]⟩, .int .i64 130]) ∧ w' = w := by
  have hA := fun w => allDigits_any s hs w
  rw [ha] at hA
  rcases he with he | he
  · go_enter Tryd.func4, Tryd.ntmps4
    go_wp2_with fail
    refine (hA _).mono ?_
    rintro r w1 ⟨rfl, hw⟩
    rw [hw]
    clear hA hw
    go_wp2
    go_ret2
    exact ⟨rfl, rfl⟩
  · have h1 : -1100 ≤ e := by omega
    go_enter Tryd.func4, Tryd.ntmps4
    go_wp2_with fail
    refine (hA _).mono ?_
    rintro r w1 ⟨rfl, hw⟩
    rw [hw]
    clear hA hw
    go_wp2
    go_ret2
    exact ⟨rfl, rfl⟩
set_option maxHeartbeats 1600000 in
set_option maxRecDepth 100000 in
theorem plainF_fin (s : ByteArray) (hs : s.size ≤ 50000) {e : Int} (ha : allD s.data.toList = true) (e0 : -1100 ≤ e) (e1 : e ≤ 1100) {w : World} (hz : w.cell? ⟨0, 1, none⟩ = some (.string ⟨#[48]⟩)) :
    Calls Tryd.prog 4 #[.string s, .int .i64 e] w fun r w' => r = .returned (.tuple #[.string (str (plD s.data.toList e)), .int .i64 0]) ∧ Below w.heap.size w w' := by
  have hA := fun w => allDigits_any s (by omega) w
  rw [ha] at hA
  have hL : ∀ w, Calls Tryd.prog 7 #[.string s, .string ⟨#[48]⟩] w fun r w' => r = .returned (.string (str (lz s.data.toList))) ∧ w' = w := fun w => Any.strings_TrimLeft_one lays3_161 s 48 (by decide) w
  have hsl : s.data.toList.length ≤ 50000 := by rw [← Lib.size_eq s]; exact hs
  have l1 := lz_len s.data.toList
  have l2 := tz_len (lz s.data.toList)
  have hR : ∀ w, Calls Tryd.prog 8 #[.string (str (lz s.data.toList)), .string ⟨#[48]⟩] w fun r w' => r = .returned (.string (str (tz (lz s.data.toList)))) ∧ w' = w := fun w => by
    have := Any.strings_TrimRight_one lays3_162 (str (lz s.data.toList)) 48 (by decide) w (by rw [str_size]; omega)
    rw [str_list] at this
    exact this
  have hP := fun w => plain14_any (d := tz (lz s.data.toList)) (k := (lz s.data.toList).length + e) (by omega) (by omega) (by omega) w
  have HD : Hid (plD s.data.toList e = if lz s.data.toList = [] then [48] else plT (tz (lz s.data.toList)) ((lz s.data.toList).length + e)) := rfl
  have iE : (str (lz s.data.toList)).toList.isEmpty = (lz s.data.toList).isEmpty := by rw [Lib.toList_data, str_list]
  generalize plT (tz (lz s.data.toList)) ((lz s.data.toList).length + e) = PT at *
  generalize plD s.data.toList e = PD at *
  generalize tz (lz s.data.toList) = T at *
  generalize lz s.data.toList = L at *
  have sL : (str L).size = L.length := str_size L
  unfold fdC at hP
  by_cases q : L = []
  · have HR : Hid (PD = [48]) := by show _ = _; rw [HD.out, if_pos q]
    rw [q] at iE hL
    have iE' : (str []).toList.isEmpty = true := iE
    clear HD hR hP iE sL
    go_enter Tryd.func4, Tryd.ntmps4
    go_wp2_with fail
    refine (hA _).mono ?_
    rintro r w1 ⟨rfl, hw⟩
    rw [hw]
    clear hA hw
    go_wp2_with fail
    refine (hL _).mono ?_
    rintro r w1 ⟨rfl, hw⟩
    rw [hw]
    clear hL hw
    go_wp2
    go_ret2
    exact ⟨by rw [HR.out]; rfl, Below.refl _ _⟩
  · have HR : Hid (PD = PT) := by show _ = _; rw [HD.out, if_neg q]
    have iE' : (str L).toList.isEmpty = false := by rw [iE]; exact isEmpty_ne q
    clear HD iE q
    have wr : IntKind.i64.wrap ((L.length : Int) + e) = (L.length : Int) + e := by rw [IntKind.wrap_i64]; omega
    go_enter Tryd.func4, Tryd.ntmps4
    go_wp2_with fail
    refine (hA _).mono ?_
    rintro r w1 ⟨rfl, hw⟩
    rw [hw]
    clear hA hw
    go_wp2_with fail
    refine (hL _).mono ?_
    rintro r w1 ⟨rfl, hw⟩
    rw [hw]
    clear hL hw
    go_wp2_with fail
    refine (hR _).mono ?_
    rintro r w1 ⟨rfl, hw⟩
    rw [hw]
    clear hR hw
    have B1 : Below w.heap.size w (w.alloc (.cells #[.string (str T), .int .i64 ((L.length : Int) + e)] 32)) := (Below.refl _ w).alloc (Nat.le_refl _) _
    go_wp2_with fail
    refine (hP _).mono ?_
    rintro r w1 ⟨rfl, hb⟩
    go_wp2
    go_ret2
    exact ⟨by rw [HR.out]; rfl, B1.trans (hb.mono B1.size)⟩
end Go.Proofs.YtjnmgjcmagnkeaaDoor

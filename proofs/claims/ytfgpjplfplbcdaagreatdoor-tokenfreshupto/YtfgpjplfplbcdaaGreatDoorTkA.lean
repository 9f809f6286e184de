/- Layer 18: kinds of bytes, runs of bytes of a kind. -/
import Derived.Test.YtfgpjplfplbcdaaGreatDoorLexRd
import Derived.Test.YtfgpjplfplbcdaaGreatDoorTkFact
namespace Go.Proofs.YtfgpjplfplbcdaaGreatDoor
open Go.ChangeShapes Go.WideShapes Go.ChangeAt Go.RowKit
open Lx Tk
set_option linter.unusedVariables false
namespace Tk
theorem all_bytes {p : UInt8 → Bool} (h : (List.range 256).all (fun n => p (UInt8.ofNat n)) = true) (b : UInt8) : p b = true := by
  have := List.all_eq_true.mp h b.toNat (List.mem_range.mpr (UInt8.toNat_lt b))
  rw [UInt8.ofNat_toNat] at this
  exact this
theorem isK_bl : isK 1 = isBl := by
  funext b
  exact eq_of_beq (all_bytes (p := fun b => isK 1 b == isBl b) (by kernel_rfl) b)
theorem isK_lt : isK 2 = isLt := by
  funext b
  exact eq_of_beq (all_bytes (p := fun b => isK 2 b == isLt b) (by kernel_rfl) b)
theorem u8_ne {x y : UInt8} (h : x ≠ y) : ((x.toNat : Int) == (y.toNat : Int)) = false := by
  rw [beq_eq_false_iff_ne]
  intro e
  exact h (nat_u8.mpr e)
theorem u8_ne_nat {x y : UInt8} (h : x ≠ y) : ¬ (x.toNat : Int) = (y.toNat : Int) := fun e => h (nat_u8.mpr e)
/-- where in a run -/
theorem tk_stop' {t : UInt8 → Bool} {l : B} {k : Nat} (h1 : ∀ (j : Nat) b, j < k → l[j]? = some b → t b = true) (h2 : ∀ b, l[k]? = some b → t b = false) (hk : k ≤ l.length) : (l.takeWhile t).length = k := by
  induction k generalizing l with
  | zero =>
    cases l with
    | nil => rfl
    | cons c r => rw [List.takeWhile_cons, h2 c rfl]; rfl
  | succ k ih =>
    cases l with
    | nil => simp at hk
    | cons c r =>
      rw [List.takeWhile_cons, h1 0 c (by omega) rfl, if_pos rfl, List.length_cons]
      rw [ih (fun j b hj hb => h1 (j + 1) b (by omega) (by simpa using hb)) (fun b hb => h2 b (by simpa using hb)) (by simpa using hk)]
end Tk
set_option maxHeartbeats 1600000 in
set_option maxRecDepth 100000 in
theorem kindOf18_any (x : UInt8) (w : World) :
    Calls Tryz.prog 67 #[.int .u8 x.toNat] w fun e w' => e = .returned (.int .i64 (kd x)) ∧ w' = w := by
  have conc : ∀ k : UInt8, (k = 32 ∨ k = 9 ∨ k = 10 ∨ k = 13 ∨ k = 40 ∨ k = 41 ∨ k = 44) → Calls Tryz.prog 67 #[.int .u8 k.toNat] w fun e w' => e = .returned (.int .i64 (kd k)) ∧ w' = w := by
    intro k hk
    rcases hk with rfl | rfl | rfl | rfl | rfl | rfl | rfl
    all_goals
      go_enter Tryz.func67, Tryz.ntmps67
      go_wp2
      go_ret
      exact ⟨rfl, rfl⟩
  by_cases n1 : x = 32; · exact conc x (by simp [n1])
  by_cases n2 : x = 9; · exact conc x (by simp [n2])
  by_cases n3 : x = 10; · exact conc x (by simp [n3])
  by_cases n4 : x = 13; · exact conc x (by simp [n4])
  by_cases n5 : x = 40; · exact conc x (by simp [n5])
  by_cases n6 : x = 41; · exact conc x (by simp [n6])
  by_cases n7 : x = 44; · exact conc x (by simp [n7])
  have e : kd x = if isLt x then 2 else 0 := by
    unfold kd isBl
    simp [n1, n2, n3, n4, n5, n6, n7]
  have e2 : isLt x = ((decide ((65 : Int) ≤ (x.toNat : Int)) && decide ((x.toNat : Int) ≤ 90)) || (decide ((97 : Int) ≤ (x.toNat : Int)) && decide ((x.toNat : Int) ≤ 122))) := by
    unfold isLt
    congr 1 <;> (congr 1 <;> (rw [decide_eq_decide]; omega))
  rw [e, e2]
  have z1 : ((x.toNat : Int) == 32) = false := u8_ne n1
  have z2 : ((x.toNat : Int) == 9) = false := u8_ne n2
  have z3 : ((x.toNat : Int) == 10) = false := u8_ne n3
  have z4 : ((x.toNat : Int) == 13) = false := u8_ne n4
  have z5 : ((x.toNat : Int) == 40) = false := u8_ne n5
  have z6 : ((x.toNat : Int) == 41) = false := u8_ne n6
  have z7 : ((x.toNat : Int) == 44) = false := u8_ne n7
  clear e e2 n1 n2 n3 n4 n5 n6 n7 conc
  by_cases h1 : (65 : Int) ≤ (x.toNat : Int) <;> by_cases h2 : (x.toNat : Int) ≤ 90 <;> by_cases h3 : (97 : Int) ≤ (x.toNat : Int) <;> by_cases h4 : (x.toNat : Int) ≤ 122
  all_goals first
  | (exfalso; omega)
  | (go_enter Tryz.func67, Tryz.ntmps67
     go_wp2
     go_ret
     refine ⟨?_, rfl⟩
     show Ending.returned (Value.int _ _) = Ending.returned (Value.int _ _)
     first
     | rfl
     | (congr 2; done)
     | (congr 2; simp; done)
     | (congr 2; simp; omega))
set_option maxHeartbeats 1600000 in
set_option maxRecDepth 100000 in
theorem behind18_any (s : ByteArray) (k : Nat) (kn : Int) (hs : s.size ≤ 1000000000) (hk : k ≤ s.size) (w : World) :
    Calls Tryz.prog 48 #[.string s, .int .i64 (k : Int), .int .i64 kn] w fun e w' => e = .returned (.int .i64 ((k + ((s.data.toList.drop k).takeWhile (isK kn)).length : Nat) : Int)) ∧ w' = w := by
  have hlen : (s.data.toList.drop k).length = s.size - k := by rw [List.length_drop, ← Lib.size_eq]
  go_enter Tryz.func48, Tryz.ntmps48
  go_wp2
  go_loop [1] (fun v => ∃ i : Nat, v = .int .i64 ((k + i : Nat) : Int) ∧ k + i ≤ s.size ∧ Hid (∀ (j : Nat) b, j < i → (s.data.toList.drop k)[j]? = some b → isK kn b = true)) (fun v => s.size - (match v with | .int _ x => x.toNat | _ => 0))
  case atStart => exact ⟨0, rfl, by omega, fun j b hj => by omega⟩
  case round =>
    obtain ⟨i, rfl, hi, hc⟩ := hrel
    by_cases hp : k + i < s.size
    · have hpi : ((k + i : Nat) : Int) < (s.size : Int) := by omega
      have HX : Hid ((s.data.toList.drop k)[i]? = some (s[k + i]'hp)) := by
        unfold Hid
        rw [List.getElem?_drop]; exact Lib.data_getElem? s (k + i) hp
      have c1 := kindOf18_any (s[k + i]'hp)
      generalize hM : k + i = M at *
      cases hb : isK kn (s[M]'hp)
      · have HN : Hid (((s.data.toList.drop k).takeWhile (isK kn)).length = i) := tk_stop' hc.out (fun b hb' => by rw [HX.out] at hb'; rw [← Option.some.inj hb']; exact hb) (by omega)
        have hq : (kd (s[M]'hp) == kn) = false := hb
        generalize kd (s[M]'hp) = kk at *
        clear hb hc
        go_wp2_with (go_at_call 67; refine (c1 _).mono ?_; rintro e w' ⟨rfl, rfl⟩)
        go_ret
        exact ⟨by rw [HN.out]; first | (rw [hM]; rfl) | (show Ending.returned (Value.int .i64 _) = Ending.returned (Value.int .i64 _); congr 2; omega), rfl⟩
      · have HN : Hid (∀ (j : Nat) b, j < i + 1 → (s.data.toList.drop k)[j]? = some b → isK kn b = true) := by
          intro j b hj hb'
          by_cases q : j = i
          · subst q; rw [HX.out] at hb'; rw [← Option.some.inj hb']; exact hb
          · exact hc.out j b (by omega) hb'
        have hq : (kd (s[M]'hp) == kn) = true := hb
        have hrel : ∃ i_1 : Nat, Value.int .i64 ((M : Int) + 1) = .int .i64 ((k + i_1 : Nat) : Int) ∧ k + i_1 ≤ s.size ∧ Hid (∀ (j : Nat) b, j < i_1 → (s.data.toList.drop k)[j]? = some b → isK kn b = true) := ⟨i + 1, by rw [← hM]; rfl, by omega, HN⟩
        have HR : Hid _ := hrel
        clear hrel HN hc
        generalize kd (s[M]'hp) = kk at *
        clear hb
        go_wp2_with (go_at_call 67; refine (c1 _).mono ?_; rintro e w' ⟨rfl, rfl⟩)
        refine ⟨HR.out, ?_⟩
        simp
        omega
    · have hpi : ¬ ((k + i : Nat) : Int) < (s.size : Int) := by omega
      have HN : Hid (((s.data.toList.drop k).takeWhile (isK kn)).length = i) := tk_stop' hc.out (fun b hb' => by have := List.getElem?_eq_none (l := s.data.toList.drop k) (i := i) (by omega); rw [this] at hb'; cases hb') (by omega)
      clear hc
      generalize hM : k + i = M at *
      go_wp2
      go_ret
      exact ⟨by rw [HN.out]; first | (rw [hM]; rfl) | (show Ending.returned (Value.int .i64 _) = Ending.returned (Value.int .i64 _); congr 2; omega), rfl⟩
end Go.Proofs.YtfgpjplfplbcdaaGreatDoor

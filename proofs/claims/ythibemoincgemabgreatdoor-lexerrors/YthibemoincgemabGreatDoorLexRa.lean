/- Layer 9: the document's small pieces. -/
import Derived.Test.YthibemoincgemabGreatDoorLexParse
namespace Go.Proofs.YthibemoincgemabGreatDoor
open Go.ChangeShapes Go.WideShapes Go.ChangeAt Go.RowKit
open Lx
set_option linter.unusedVariables false
namespace Lx
/-- a digit, or, if asked, a hex digit -/
def isX (hex : Bool) (b : UInt8) : Bool := if hex then isH b else isD b
theorem isX_eq (hex : Bool) (b : UInt8) : isX hex b = (isD b || (hex && isH b)) := by
  unfold isX
  cases hex
  · simp
  · cases h : isD b
    · simp
    · simp [isH_of h]
theorem tk_stop {t : UInt8 → Bool} {l : B} {k : Nat} (h1 : ∀ (j : Nat) b, j < k → l[j]? = some b → t b = true) (h2 : ∀ b, l[k]? = some b → t b = false) (hk : k ≤ l.length) : (l.takeWhile t).length = k := by
  induction k generalizing l with
  | zero =>
    cases l with
    | nil => rfl
    | cons c r => rw [List.takeWhile_cons, h2 c rfl]; rfl
  | succ k ih =>
    cases l with
    | nil => simp at hk
    | cons c r =>
      rw [List.takeWhile_cons, h1 0 c (by omega) rfl, if_pos rfl, List.length_cons]
      rw [ih (fun j b hj hb => h1 (j + 1) b (by omega) (by simpa using hb)) (fun b hb => h2 b (by simpa using hb)) (by simpa using hk)]
end Lx
set_option maxRecDepth 100000 in
theorem digit9_any (x : UInt8) (w : World) :
    Calls Tryz.prog 92 #[.int .u8 x.toNat] w fun e w' => e = .returned (.bool (isD x)) ∧ w' = w := by
  have e : isD x = (decide ((48 : Int) ≤ (x.toNat : Int)) && decide ((x.toNat : Int) ≤ 57)) := by
    unfold isD
    congr 1 <;> (rw [decide_eq_decide]; omega)
  rw [e]
  clear e
  by_cases h1 : (48 : Int) ≤ (x.toNat : Int) <;> by_cases h2 : (x.toNat : Int) ≤ 57
  all_goals
    go_enter Tryz.func92, Tryz.ntmps92
    go_wp2
    go_ret
    refine ⟨?_, rfl⟩
    show Ending.returned (Value.bool _) = Ending.returned (Value.bool _)
    congr 2
    simp
    try omega
set_option maxHeartbeats 800000 in
set_option maxRecDepth 100000 in
theorem hex9_any (x : UInt8) (w : World) :
    Calls Tryz.prog 93 #[.int .u8 x.toNat] w fun e w' => e = .returned (.bool (isH x)) ∧ w' = w := by
  have e : isH x = (isD x || ((decide ((97 : Int) ≤ (x.toNat : Int)) && decide ((x.toNat : Int) ≤ 102)) || (decide ((65 : Int) ≤ (x.toNat : Int)) && decide ((x.toNat : Int) ≤ 70)))) := by
    unfold isH
    rw [Bool.or_assoc]
    congr 2 <;> (congr 1 <;> (rw [decide_eq_decide]; omega))
  rw [e]
  clear e
  have c := digit9_any x
  cases hd : isD x
  · rw [hd] at c
    by_cases h1 : (97 : Int) ≤ (x.toNat : Int) <;> by_cases h2 : (x.toNat : Int) ≤ 102 <;> by_cases h3 : (65 : Int) ≤ (x.toNat : Int) <;> by_cases h4 : (x.toNat : Int) ≤ 70
    all_goals first
    | (exfalso; omega)
    | (go_enter Tryz.func93, Tryz.ntmps93
       go_wp2_with (go_at_call 92; refine (c _).mono ?_; rintro e w' ⟨rfl, rfl⟩)
       go_ret
       refine ⟨?_, rfl⟩
       show Ending.returned (Value.bool _) = Ending.returned (Value.bool _)
       first
       | rfl
       | (congr 2; simp; done)
       | (congr 2; simp; omega)
       | (congr 2; rw [Bool.eq_iff_iff]; simp; omega))
  · rw [hd] at c
    go_enter Tryz.func93, Tryz.ntmps93
    go_wp2_with (go_at_call 92; refine (c _).mono ?_; rintro e w' ⟨rfl, rfl⟩)
    go_ret
    exact ⟨rfl, rfl⟩
set_option maxRecDepth 100000 in
theorem sign9_any (x : UInt8) (w : World) :
    Calls Tryz.prog 32 #[.int .u8 x.toNat] w fun e w' => e = .returned (.bool (([43, 45] : B).contains x)) ∧ w' = w := by
  have h1 := beq_u8 x 43
  have h2 := beq_u8 x 45
  change ((x.toNat : Int) == 43) = _ at h1
  change ((x.toNat : Int) == 45) = _ at h2
  have e : ([43, 45] : B).contains x = (x == 43 || x == 45) := by simp only [List.contains_cons, List.contains_nil, Bool.or_false]
  rw [e]
  clear e
  generalize (x == 43) = b1 at *
  generalize (x == 45) = b2 at *
  cases b1 <;> cases b2
  all_goals
    go_enter Tryz.func32, Tryz.ntmps32
    go_wp2
    go_ret
    exact ⟨rfl, rfl⟩
set_option maxHeartbeats 1600000 in
set_option maxRecDepth 100000 in
theorem run9_any (s : ByteArray) (k : Nat) (hex : Bool) (hs : s.size ≤ 100000) (hk : k ≤ s.size) (w : World) :
    Calls Tryz.prog 65 #[.string s, .int .i64 (k : Int), .bool hex] w fun e w' => e = .returned (.int .i64 ((k + ((s.data.toList.drop k).takeWhile (isX hex)).length : Nat) : Int)) ∧ w' = w := by
  have hlen : (s.data.toList.drop k).length = s.size - k := by rw [List.length_drop, ← Lib.size_eq]
  go_enter Tryz.func65, Tryz.ntmps65
  go_wp2
  go_loop [1] (fun v => ∃ i : Nat, v = .int .i64 ((k + i : Nat) : Int) ∧ k + i ≤ s.size ∧ Hid (∀ (j : Nat) b, j < i → (s.data.toList.drop k)[j]? = some b → isX hex b = true)) (fun v => s.size - (match v with | .int _ x => x.toNat | _ => 0))
  case atStart => exact ⟨0, rfl, by omega, fun j b hj => by omega⟩
  case round =>
    obtain ⟨i, rfl, hi, hc⟩ := hrel
    by_cases hp : k + i < s.size
    · have hpi : ((k + i : Nat) : Int) < (s.size : Int) := by omega
      have HX : Hid ((s.data.toList.drop k)[i]? = some (s[k + i]'hp)) := by
        unfold Hid
        rw [List.getElem?_drop]; exact Lib.data_getElem? s (k + i) hp
      have c1 := digit9_any (s[k + i]'hp)
      have c2 := hex9_any (s[k + i]'hp)
      have he := isX_eq hex (s[k + i]'hp)
      generalize hM : k + i = M at *
      cases hb : isX hex (s[M]'hp)
      · rw [hb] at he
        have HN : Hid (((s.data.toList.drop k).takeWhile (isX hex)).length = i) := tk_stop hc.out (fun b hb' => by rw [HX.out] at hb'; rw [← Option.some.inj hb']; exact hb) (by omega)
        cases hd : isD (s[M]'hp)
        · rw [hd] at c1 he
          cases hex
          · clear he hb hd hc
            go_wp2_with (go_at_call 92; refine (c1 _).mono ?_; rintro e w' ⟨rfl, rfl⟩)
            go_ret
            exact ⟨by rw [HN.out]; first | (rw [hM]; rfl) | (show Ending.returned (Value.int .i64 _) = Ending.returned (Value.int .i64 _); congr 2; omega), rfl⟩
          · have hh : isH (s[M]'hp) = false := by simpa using he.symm
            rw [hh] at c2
            clear he hb hd hh hc
            go_wp2_with (first | (go_at_call 92; refine (c1 _).mono ?_; rintro e w' ⟨rfl, rfl⟩) | (go_at_call 93; refine (c2 _).mono ?_; rintro e w' ⟨rfl, rfl⟩))
            go_ret
            exact ⟨by rw [HN.out]; first | (rw [hM]; rfl) | (show Ending.returned (Value.int .i64 _) = Ending.returned (Value.int .i64 _); congr 2; omega), rfl⟩
        · rw [hd] at he; simp at he
      · have HN : Hid (∀ (j : Nat) b, j < i + 1 → (s.data.toList.drop k)[j]? = some b → isX hex b = true) := by
          intro j b hj hb'
          by_cases q : j = i
          · subst q; rw [HX.out] at hb'; rw [← Option.some.inj hb']; exact hb
          · exact hc.out j b (by omega) hb'
        rw [hb] at he
        have hrel : ∃ i_1 : Nat, Value.int .i64 ((M : Int) + 1) = .int .i64 ((k + i_1 : Nat) : Int) ∧ k + i_1 ≤ s.size ∧ Hid (∀ (j : Nat) b, j < i_1 → (s.data.toList.drop k)[j]? = some b → isX hex b = true) := ⟨i + 1, by rw [← hM]; rfl, by omega, HN⟩
        have HR : Hid _ := hrel
        clear hrel HN hc
        cases hd : isD (s[M]'hp)
        · rw [hd] at c1 he
          cases hex
          · simp at he
          · have hh : isH (s[M]'hp) = true := by simpa using he.symm
            rw [hh] at c2
            clear he hb hd hh
            go_wp2_with (first | (go_at_call 92; refine (c1 _).mono ?_; rintro e w' ⟨rfl, rfl⟩) | (go_at_call 93; refine (c2 _).mono ?_; rintro e w' ⟨rfl, rfl⟩))
            refine ⟨HR.out, ?_⟩
            simp
            omega
        · rw [hd] at c1
          clear he hb hd
          go_wp2_with (go_at_call 92; refine (c1 _).mono ?_; rintro e w' ⟨rfl, rfl⟩)
          refine ⟨HR.out, ?_⟩
          simp
          omega
    · have hpi : ¬ ((k + i : Nat) : Int) < (s.size : Int) := by omega
      have HN : Hid (((s.data.toList.drop k).takeWhile (isX hex)).length = i) := tk_stop hc.out (fun b hb' => by
        rw [List.getElem?_eq_none (by omega)] at hb'; cases hb') (by omega)
      clear hc
      generalize hM : k + i = M at *
      go_wp2
      go_ret
      exact ⟨by rw [HN.out]; first | (rw [hM]; rfl) | (show Ending.returned (Value.int .i64 _) = Ending.returned (Value.int .i64 _); congr 2; omega), rfl⟩
end Go.Proofs.YthibemoincgemabGreatDoor

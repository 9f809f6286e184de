/- radix.Parse of any text; one text behind another. -/
import Derived.Test.YtmenhfnakcdnnabDoorRadixAlive
namespace Go.Proofs.YtmenhfnakcdnnabDoor
open Go.ChangeShapes Go.WideShapes Go.ChangeAt Go.RowKit
open Na Ar
set_option linter.unusedVariables false
/-- digits of the base, one at least -/
def Good (s : ByteArray) (b : Int) : Prop := 2 ≤ b ∧ b ≤ 36 ∧ 0 < s.size ∧ ∀ i, i < s.size → dgt s i < b
def ParseAll (w : World) (s : ByteArray) (b : Int) (e : Ending) (w' : World) : Prop :=
  ((Good s b ∧ (words (numB s b s.size)).length ≤ 4096) ∧ ∃ v, e = .returned (.tuple #[v, .nilIface]) ∧ Own .u64 w' w.heap.size 35 v (words (numB s b s.size)) ∧ Below w.heap.size w w') ∨
  (¬ (Good s b ∧ (words (numB s b s.size)).length ≤ 4096) ∧ ∃ t a, e = .returned (.tuple #[.slice none 0 0, .iface t (.pointer (some a))]) ∧ Below w.heap.size w w')
set_option maxHeartbeats 1600000 in
set_option maxRecDepth 100000 in
theorem parse_all (s : ByteArray) (b : Int) (hs : s.size ≤ 10000000) (w : World) :
    Calls Tryd.prog 19 #[.string s, .int .i64 b] w (ParseAll w s b) := by
  by_cases hb : 2 ≤ b ∧ b ≤ 36
  · by_cases hg : 0 < s.size ∧ ∀ i, i < s.size → dgt s i < b
    · refine (parse_good s b hb.1 hb.2 hs hg.1 hg.2 w).mono ?_
      intro e w' h
      rcases h with ⟨h1, h2⟩ | ⟨h1, h2⟩
      · exact Or.inl ⟨⟨⟨hb.1, hb.2, hg.1, hg.2⟩, h1⟩, h2⟩
      · exact Or.inr ⟨fun q => by omega, h2⟩
    · have hk : knownB b = true := by unfold knownB; simp; omega
      have kc := known_any b w
      rw [hk] at kc
      have wc := wrong_any s b hb.1 hb.2 (by unfold maxLen; omega) w
      have hng : ¬ (Good s b ∧ (words (numB s b s.size)).length ≤ 4096) := fun q => hg ⟨q.1.2.2.1, q.1.2.2.2⟩
      go_enter Tryd.func19, Tryd.ntmps19
      go_wp2_with fail
      refine kc.mono ?_
      rintro e w' ⟨rfl, rfl⟩
      go_wp2_with fail
      refine wc.mono ?_
      rintro e w1 ⟨at', ok, rfl, hwr, hb1⟩
      have hok : ok = true := by
        rcases hwr with ⟨q, _⟩ | ⟨q, _⟩ | ⟨_, q1, _, q2⟩
        · exact q
        · exact q
        · exact absurd ⟨q1, q2⟩ hg
      subst hok
      clear kc wc hk hwr hg
      go_wp2_with fail
      refine (wrap_any (at' : Int) 41 w1).mono ?_
      rintro e w2 ⟨ty, ad, rfl, hb2⟩
      have hB2 := hb1.trans (hb2.mono hb1.size)
      go_wp2
      go_ret2
      exact Or.inr ⟨hng, _, _, rfl, hB2⟩
  · have hk : knownB b = false := by unfold knownB; simp; omega
    have kc := known_any b w
    rw [hk] at kc
    have hng : ¬ (Good s b ∧ (words (numB s b s.size)).length ≤ 4096) := fun q => hb ⟨q.1.1, q.1.2.1⟩
    go_enter Tryd.func19, Tryd.ntmps19
    go_wp2_with fail
    refine kc.mono ?_
    rintro e w' ⟨rfl, rfl⟩
    clear kc hk
    go_wp2_with fail
    refine (wrap_any 0 40 w).mono ?_
    rintro e w2 ⟨ty, ad, rfl, hb2⟩
    go_wp2
    go_ret2
    exact Or.inr ⟨hng, _, _, rfl, hb2⟩
namespace Na
theorem app_byte (s t : ByteArray) (i : Nat) : (s ++ t).get! i = if i < s.size then s.get! i else t.get! (i - s.size) := by
  have e : (s ++ t).data.toList = s.data.toList ++ t.data.toList := by simp [ByteArray.data_append]
  rw [byte_list, byte_list, byte_list, e, List.getD_eq_getElem?_getD, List.getD_eq_getElem?_getD, List.getD_eq_getElem?_getD]
  by_cases h : i < s.size
  · rw [if_pos h, List.getElem?_append_left (by rw [← Lib.size_eq]; exact h)]
  · rw [if_neg h, List.getElem?_append_right (by rw [← Lib.size_eq]; omega), ← Lib.size_eq]
theorem app_size (s t : ByteArray) : (s ++ t).size = s.size + t.size := by simp
theorem app_left (s t : ByteArray) {i : Nat} (h : i < s.size) : dgt (s ++ t) i = dgt s i := by unfold dgt; rw [app_byte, if_pos h]
theorem app_right (s t : ByteArray) (i : Nat) : dgt (s ++ t) (s.size + i) = dgt t i := by
  unfold dgt
  rw [app_byte, if_neg (by omega), Nat.add_sub_cancel_left]
theorem app_num1 (s t : ByteArray) (b : Int) {i : Nat} (h : i ≤ s.size) : numB (s ++ t) b i = numB s b i := by
  induction i with
  | zero => rfl
  | succ i ih =>
    show numB (s ++ t) b i * b + dgt (s ++ t) i = numB s b i * b + dgt s i
    rw [ih (by omega), app_left s t (by omega)]
theorem app_num2 (s t : ByteArray) (b : Int) (i : Nat) : numB (s ++ t) b (s.size + i) = numB s b s.size * b ^ i + numB t b i := by
  induction i with
  | zero => rw [Nat.add_zero, app_num1 s t b (Nat.le_refl _)]; simp [numB]
  | succ i ih =>
    show numB (s ++ t) b (s.size + i) * b + dgt (s ++ t) (s.size + i) = _
    rw [ih, app_right]
    show _ = numB s b s.size * b ^ (i + 1) + (numB t b i * b + dgt t i)
    rw [Int.pow_succ]; grind
theorem app_num (s t : ByteArray) (b : Int) : numB (s ++ t) b (s ++ t).size = numB s b s.size * b ^ t.size + numB t b t.size := by
  rw [app_size]; exact app_num2 s t b t.size
end Na
end Go.Proofs.YtmenhfnakcdnnabDoor

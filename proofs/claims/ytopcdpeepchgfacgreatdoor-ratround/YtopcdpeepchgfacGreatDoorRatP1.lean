/- strings.CutPrefix and strings.Cut at one byte. -/
import Derived.Test.YtopcdpeepchgfacGreatDoorBaseE
import Derived.Lib.Bytealg
import Derived.Laws.Externs
import Derived.Deep.QuietTactic
import Derived.BigQuiet
namespace Go.Proofs.YtopcdpeepchgfacGreatDoor
open Go.ChangeShapes Go.WideShapes Go.ChangeAt Go.RowKit
open Na Ar
set_option linter.unusedVariables false
namespace Na
theorem indexByte_cases (l : List UInt8) (c : UInt8) : (Lib.indexByte l c = -1 ∧ ∀ j, j < l.length → l.getD j 0 ≠ c) ∨ ∃ i : Nat, Lib.indexByte l c = i ∧ i < l.length ∧ l.getD i 0 = c ∧ ∀ j, j < i → l.getD j 0 ≠ c := by
  induction l with
  | nil => exact Or.inl ⟨rfl, fun j hj => by simp at hj⟩
  | cons b r ih =>
    by_cases h : b = c
    · right
      refine ⟨0, by unfold Lib.indexByte; rw [if_pos (by simpa using h)]; rfl, by simp, by simpa using h, fun j hj => by omega⟩
    · rcases ih with ⟨e, k⟩ | ⟨i, e, hi, k1, k2⟩
      · left
        refine ⟨by unfold Lib.indexByte; rw [if_neg (by simpa using h), e]; rfl, ?_⟩
        intro j hj
        cases j with
        | zero => simpa using h
        | succ j => have := k j (by simpa using hj); simpa using this
      · right
        refine ⟨i + 1, ?_, by simpa using hi, by simpa using k1, ?_⟩
        · unfold Lib.indexByte
          rw [if_neg (by simpa using h), e, if_neg (by simp)]
          simp
        · intro j hj
          cases j with
          | zero => simpa using h
          | succ j => have := k2 j (by omega); simpa using this
/-- no byte c in it -/
def NoByte (z : ByteArray) (c : UInt8) (k : Nat) : Prop := ∀ j, j < k → z.get! j ≠ c
theorem indexByteB (z : ByteArray) (c : UInt8) : (Lib.indexByte z.data.toList c = -1 ∧ NoByte z c z.size) ∨ ∃ i : Nat, Lib.indexByte z.data.toList c = i ∧ i < z.size ∧ z.get! i = c ∧ NoByte z c i := by
  rcases indexByte_cases z.data.toList c with ⟨e, k⟩ | ⟨i, e, hi, k1, k2⟩
  · exact Or.inl ⟨e, fun j hj => by rw [byte_list]; exact k j (by rw [← Lib.size_eq]; exact hj)⟩
  · exact Or.inr ⟨i, e, by rw [Lib.size_eq]; exact hi, by rw [byte_list]; exact k1, fun j hj => by rw [byte_list]; exact k2 j hj⟩
/-- a stretch of a text -/
theorem ext_size (z : ByteArray) {i j : Nat} (h : i ≤ j) (hj : j ≤ z.size) : (z.extract i j).size = j - i := by
  rw [ByteArray.size_extract]; omega
theorem ext_list (z : ByteArray) (i j : Nat) : (z.extract i j).data.toList = (z.data.toList.drop i).take (j - i) := by
  have := ByteArray.data_extract (a := z) (b := i) (e := j)
  rw [this]
  simp [List.extract_eq_take_drop]
theorem ext_get (z : ByteArray) {i j k : Nat} (hk : k < j - i) : (z.extract i j).get! k = z.get! (i + k) := by
  rw [byte_list, byte_list, ext_list]
  simp [List.getD_eq_getElem?_getD, List.getElem?_drop, hk]
end Na
set_option maxRecDepth 100000 in
theorem sIndexByte_any (s : ByteArray) (c : Int) (w : World) :
    Calls Tryz.prog 140 #[.string s, .int .u8 c] w fun e w' => e = .returned (.int .i64 (Lib.indexByte s.data.toList c.toNat.toUInt8)) ∧ w' = w := by
  go_enter Tryz.func140, Tryz.ntmps140
  go_wp2
  rw [run_callFunc_extern Tryz.func162 (by kernel_rfl) (by kernel_rfl) (by kernel_rfl) (e := Extern.BytealgIndexByte.indexByte) (by kernel_rfl), Lib.run_indexByteString]
  simp only [Result.andThen]
  rw [Oper.upon_value]
  go_wp2
  go_ret
  exact ⟨rfl, rfl⟩
set_option maxRecDepth 100000 in
theorem sIndex_any (z : ByteArray) (w : World) :
    Calls Tryz.prog 101 #[.string z, .string ⟨#[47]⟩] w fun e w' => e = .returned (.int .i64 (Lib.indexByte z.data.toList 47)) ∧ w' = w := by
  have hI := fun w => sIndexByte_any z 47 w
  by_cases hz : ([47] == z.toList) = true
  · have e : Lib.indexByte z.data.toList 47 = 0 := by
      have : z.data.toList = [47] := by rw [← Lib.toList_data]; exact (by simpa using hz : [47] = z.toList).symm
      rw [this]; decide
    rw [e]
    clear e hI
    go_enter Tryz.func101, Tryz.ntmps101
    go_wp2
    go_ret
    exact ⟨rfl, rfl⟩
  · have hz' : ([47] == z.toList) = false := by simpa using hz
    clear hz
    go_enter Tryz.func101, Tryz.ntmps101
    go_wp2_with (go_at_call 140; refine (hI _).mono ?_; rintro e w' ⟨rfl, rfl⟩)
    go_ret
    exact ⟨rfl, rfl⟩
/-- what Cut leaves: a, b, whether there was one -/
def CutIs (z a b : ByteArray) (q : Bool) : Prop :=
  (q = false ∧ NoByte z 47 z.size ∧ a = z ∧ b = ⟨#[]⟩) ∨ (q = true ∧ ∃ i, i < z.size ∧ z.get! i = 47 ∧ NoByte z 47 i ∧ a = z.extract 0 i ∧ b = z.extract (i + 1) z.size)
set_option maxRecDepth 100000 in
theorem sCut0_any (z : ByteArray) (hz : z.size ≤ 10000000) (w : World) :
    Calls Tryz.prog 66 #[.string z, .string ⟨#[47]⟩] w fun e w' => ∃ a b q, e = .returned (.tuple #[.string a, .string b, .bool q]) ∧ CutIs z a b q ∧ Gr w w' := by
  have hI := fun w => sIndex_any z w
  rcases indexByteB z 47 with ⟨e, k⟩ | ⟨i, e, hi, k1, k2⟩
  · rw [e] at hI
    have HC : CutIs z z ⟨#[]⟩ false := Or.inl ⟨rfl, k, rfl, rfl⟩
    clear e k
    go_enter Tryz.func66, Tryz.ntmps66
    go_wp2_with (go_at_call 101; refine (hI _).mono ?_; rintro e w' ⟨rfl, rfl⟩)
    go_ret3
    exact ⟨_, _, _, rfl, HC, gr_refl _⟩
  · rw [e] at hI
    have HC : CutIs z (z.extract 0 i) (z.extract (i + 1) z.size) true := Or.inr ⟨rfl, i, hi, k1, k2, rfl, rfl⟩
    have c2 : (i : Int) ≤ (z.size : Int) := by omega
    have c4 : ((i : Int) + 1) ≤ (z.size : Int) := by omega
    clear e k1 k2
    go_enter Tryz.func66, Tryz.ntmps66
    go_wp2_with (go_at_call 101; refine (hI _).mono ?_; rintro e w' ⟨rfl, rfl⟩)
    go_quiet (fail)
    go_wp2
    go_ret3
    exact ⟨_, _, _, rfl, HC, gr_drewN (gr_refl _) _⟩
set_option maxRecDepth 100000 in
theorem sCut_any (z : ByteArray) (hz : z.size ≤ 10000000) (w : World) :
    Calls Tryz.prog 35 #[.string z, .string ⟨#[47]⟩] w fun e w' => ∃ a b q, e = .returned (.tuple #[.string a, .string b, .bool q]) ∧ CutIs z a b q ∧ Gr w w' := by
  have hI := sCut0_any z hz w
  go_enter Tryz.func35, Tryz.ntmps35
  go_wp2_with fail
  refine hI.mono ?_
  rintro e w' ⟨a, b, q, rfl, h, hg⟩
  go_wp2
  go_ret3
  exact ⟨_, _, _, rfl, h, hg⟩
/-- what CutPrefix leaves -/
def PreIs (s z : ByteArray) (q : Bool) : Prop := (q = true ∧ 0 < s.size ∧ s.get! 0 = 45 ∧ z = s.extract 1 s.size) ∨ (q = false ∧ (0 < s.size → s.get! 0 ≠ 45) ∧ z = s)
theorem pre_one (s : ByteArray) (h : 0 < s.size) : ((s.extract 0 1).toList = [45]) ↔ s.get! 0 = 45 := by
  have hl : 0 < s.data.toList.length := by rw [← Lib.size_eq]; exact h
  have e1 : (s.extract 0 1).toList = [s.get! 0] := by
    rw [Lib.toList_data, ext_list, byte_list]
    cases hd : s.data.toList with
    | nil => rw [hd] at hl; simp at hl
    | cons x r => simp
  rw [e1]
  simp
set_option maxRecDepth 100000 in
theorem sHasPrefix_any (s : ByteArray) {q : Bool} (hs : s.size ≤ 10000000) (hq : (decide (0 < s.size) && decide (s.get! 0 = 45)) = q) (w : World) :
    Calls Tryz.prog 100 #[.string s, .string ⟨#[45]⟩] w fun e w' => e = .returned (.bool q) ∧ w' = w := by
  by_cases h0 : 0 < s.size
  · have hp := pre_one s h0
    have e0 : decide (0 < s.size) = true := by simpa using h0
    rw [e0, Bool.true_and] at hq
    have h1 : (1 : Int) ≤ (s.size : Int) := by omega
    have hq' : ((s.extract 0 1).toList == [45]) = q := by
      rw [← hq, Bool.eq_iff_iff]
      simpa using hp
    clear hq hp e0
    go_enter Tryz.func100, Tryz.ntmps100
    go_wp2
    go_ret
    exact ⟨rfl, rfl⟩
  · have e0 : decide (0 < s.size) = false := by simpa using h0
    rw [e0, Bool.false_and] at hq
    subst hq
    have h1 : ¬ (1 : Int) ≤ (s.size : Int) := by omega
    clear e0
    go_enter Tryz.func100, Tryz.ntmps100
    go_wp2
    go_ret
    exact ⟨rfl, rfl⟩
set_option maxRecDepth 100000 in
theorem sPre0_any (s : ByteArray) (hs : s.size ≤ 10000000) (w : World) :
    Calls Tryz.prog 65 #[.string s, .string ⟨#[45]⟩] w fun e w' => ∃ z q, e = .returned (.tuple #[.string z, .bool q]) ∧ PreIs s z q ∧ w = w' := by
  by_cases h : 0 < s.size ∧ s.get! 0 = 45
  · have hp := fun w => sHasPrefix_any s (q := true) hs (by simp [h.1, h.2]) w
    have HC : PreIs s (s.extract 1 s.size) true := Or.inl ⟨rfl, h.1, h.2, rfl⟩
    have h1 : (1 : Int) ≤ (s.size : Int) := by omega
    clear h
    go_enter Tryz.func65, Tryz.ntmps65
    go_wp2_with (go_at_call 100; refine (hp _).mono ?_; rintro e w' ⟨rfl, rfl⟩)
    go_ret2
    exact ⟨_, _, rfl, HC, rfl⟩
  · have hp := fun w => sHasPrefix_any s (q := false) hs (by
      by_cases h0 : 0 < s.size
      · have : ¬ s.get! 0 = 45 := fun e => h ⟨h0, e⟩
        simp [this]
      · simp [h0]) w
    have HC : PreIs s s false := Or.inr ⟨rfl, fun h0 e => h ⟨h0, e⟩, rfl⟩
    clear h
    go_enter Tryz.func65, Tryz.ntmps65
    go_wp2_with (go_at_call 100; refine (hp _).mono ?_; rintro e w' ⟨rfl, rfl⟩)
    go_ret2
    exact ⟨_, _, rfl, HC, rfl⟩
set_option maxRecDepth 100000 in
theorem sPre_any (s : ByteArray) (hs : s.size ≤ 10000000) (w : World) :
    Calls Tryz.prog 34 #[.string s, .string ⟨#[45]⟩] w fun e w' => ∃ z q, e = .returned (.tuple #[.string z, .bool q]) ∧ PreIs s z q ∧ w = w' := by
  have hI := sPre0_any s hs w
  go_enter Tryz.func34, Tryz.ntmps34
  go_wp2_with fail
  refine hI.mono ?_
  rintro e w' ⟨z, q, rfl, h, rfl⟩
  go_wp2
  go_ret2
  exact ⟨_, _, rfl, h, rfl⟩
end Go.Proofs.YtopcdpeepchgfacGreatDoor

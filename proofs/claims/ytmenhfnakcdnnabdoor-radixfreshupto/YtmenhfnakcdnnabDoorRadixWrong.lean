/- package radix: wrong; strings.TrimLeft at one zero. -/
import Derived.Test.YtmenhfnakcdnnabDoorRadixDig
import Derived.Lib.Strings
import Derived.Lib.TrimByte
import Derived.Lib.Walk
import Derived.Laws.Strings3
namespace Go.Proofs.YtmenhfnakcdnnabDoor
open Go.ChangeShapes Go.WideShapes Go.ChangeAt Go.RowKit
open Na Ar
set_option linter.unusedVariables false
namespace Na
/-- the value of byte i as a digit -/
def dgt (s : ByteArray) (i : Nat) : Int := valN ((s.get! i).toNat : Int)
theorem get_byte {s : ByteArray} {i : Nat} (h : i < s.size) : s.get! i = s[i]'h := get_at s i h
/-- where the first byte is that is no digit, and whether there is one -/
def WrongIs (s : ByteArray) (b : Int) (at' : Nat) (ok : Bool) : Prop :=
  (ok = true ∧ at' < s.size ∧ b ≤ dgt s at' ∧ ∀ i, i < at' → dgt s i < b) ∨ (ok = true ∧ s.size = 0 ∧ at' = 0) ∨ (ok = false ∧ 0 < s.size ∧ at' = 0 ∧ ∀ i, i < s.size → dgt s i < b)
end Na
set_option maxHeartbeats 1600000 in
set_option maxRecDepth 100000 in
theorem wrong_any (s : ByteArray) (b : Int) (hb : 2 ≤ b) (hb9 : b ≤ 36) (hs : s.size ≤ maxLen) (w : World) :
    Calls Tryd.prog 46 #[.string s, .int .i64 b] w fun e w' => ∃ (at' : Nat) (ok : Bool), e = .returned (.tuple #[.int .i64 (at' : Int), .bool ok]) ∧ WrongIs s b at' ok ∧ Below w.heap.size w w' := by
  have hbel := fun pos => (World.iter_extends w s pos)
  have hB : ∀ pos, Below w.heap.size w (w.iter s pos) := fun pos => (Below.refl _ _).alloc (Nat.le_refl _) _
  go_enter Tryd.func46, Tryd.ntmps46
  go_wp2
  go_loopw [6, 7] (fun _ _ wr => ∃ pos : Nat, pos ≤ s.size ∧ wr = w.iter s pos ∧ Hid (∀ i, i < pos → dgt s i < b)) (fun _ _ wr => s.size - wr.iterPos w.heap.size)
  case atStart => exact ⟨0, Nat.zero_le _, rfl, fun i hi => by omega⟩
  case round =>
    obtain ⟨pos, hp, rfl, hg⟩ := hrel
    by_cases hlt : pos < s.size
    · have hdg : dgt s pos = valN ((s[pos]'hlt).toNat : Int) := by unfold dgt; rw [get_byte hlt]
      by_cases ha : (s[pos]'hlt).toNat < 128
      · have hn := fun ty => run_next_ascii (P := Tryd.prog) w s pos ty hlt ha
        have hv := value_any ((s[pos]'hlt).toNat : Int) (by omega) (by omega) (w.iter s (pos + 1))
        rw [← hdg] at hv
        generalize ((s[pos]'hlt).toNat : Int) = r at *
        have hd0 := valN_bd r
        by_cases hbad : b ≤ dgt s pos
        · have HW : WrongIs s b pos true := Or.inl ⟨rfl, hlt, hbad, hg.out⟩
          clear hg hdg
          generalize dgt s pos = D at *
          go_wp2_with fail
          refine hv.mono ?_
          rintro e w' ⟨rfl, rfl⟩
          clear hv hn
          go_wp2
          go_ret2
          exact ⟨pos, true, rfl, HW, hB _⟩
        · have HG : Hid (∀ i, i < pos + 1 → dgt s i < b) := fun i hi => by
            by_cases q : i < pos
            · exact hg.out i q
            · have : i = pos := by omega
              rw [this]; omega
          clear hg hdg
          generalize dgt s pos = D at *
          go_wp2_with fail
          refine hv.mono ?_
          rintro e w' ⟨rfl, rfl⟩
          clear hv hn
          go_wp2
          go_roundw
          case rel => exact ⟨pos + 1, by omega, rfl, HG⟩
          case measure => simp; omega
      · have hn := fun ty => run_next_any (P := Tryd.prog) w s pos ty hlt
        have hh := decode_high s pos hlt (by omega)
        have hl := decode_le s pos
        have hv := value_any ((Utf8.decode s pos).1 : Int) (by omega) (by omega) (w.iter s (pos + (Utf8.decode s pos).2))
        rw [valN_high (by omega)] at hv
        have hbad : b ≤ dgt s pos := by rw [hdg, valN_high (by omega)]; exact hb9
        have HW : WrongIs s b pos true := Or.inl ⟨rfl, hlt, hbad, hg.out⟩
        clear hg hdg hbad
        generalize ((Utf8.decode s pos).1 : Int) = r at *
        generalize pos + (Utf8.decode s pos).2 = pos2 at *
        go_wp2_with fail
        refine hv.mono ?_
        rintro e w' ⟨rfl, rfl⟩
        clear hv hn
        go_wp2
        go_ret2
        exact ⟨pos, true, rfl, HW, hB _⟩
    · have hn := fun ty => run_next_end (P := Tryd.prog) w s pos ty hlt
      have HW : WrongIs s b 0 s.toList.isEmpty := by
        by_cases h0 : s.size = 0
        · have e : s.toList.isEmpty = true := by
            rw [Lib.toList_data]
            have := Lib.size_eq s
            rw [List.isEmpty_iff_length_eq_zero]; omega
          rw [e]; exact Or.inr (Or.inl ⟨rfl, h0, rfl⟩)
        · have e : s.toList.isEmpty = false := by
            rw [Lib.toList_data]
            have := Lib.size_eq s
            rw [← Bool.not_eq_true, List.isEmpty_iff_length_eq_zero]; omega
          rw [e]
          refine Or.inr (Or.inr ⟨rfl, by omega, rfl, fun i hi => hg.out i (by omega)⟩)
      clear hg
      go_wp2
      go_ret2
      exact ⟨0, _, rfl, HW, hB _⟩
/-- t is s from byte k on -/
def From (s t : ByteArray) (k : Nat) : Prop := t.data.toList = s.data.toList.drop k ∧ k ≤ s.size
theorem From.size {s t : ByteArray} {k : Nat} (h : From s t k) : t.size = s.size - k := by rw [Lib.size_eq, h.1, List.length_drop, ← Lib.size_eq]
theorem byte_list (s : ByteArray) (i : Nat) : s.get! i = s.data.toList.getD i 0 := by
  by_cases h : i < s.size
  · rw [get_byte h, List.getD_eq_getElem?_getD]
    have hl : i < s.data.toList.length := by rw [← Lib.size_eq]; exact h
    rw [List.getElem?_eq_getElem hl]
    rfl
  · have hl : ¬ i < s.data.toList.length := by rw [← Lib.size_eq]; exact h
    rw [List.getD_eq_getElem?_getD, List.getElem?_eq_none (by omega)]
    have : ¬ i < s.data.size := by simpa using hl
    show s.data[i]! = _
    rw [getElem!_neg s.data i this]; rfl
theorem From.byte {s t : ByteArray} {k : Nat} (h : From s t k) (i : Nat) : t.get! i = s.get! (k + i) := by
  rw [byte_list, byte_list, h.1]
  simp [List.getD_eq_getElem?_getD, List.getElem?_drop]
theorem From.next {s t : ByteArray} {k : Nat} (h : From s t k) (hk : k < s.size) : From s (t.extract 1 t.size) (k + 1) := by
  refine ⟨?_, by omega⟩
  have e : (t.extract 1 t.size).data.toList = (t.data.toList.drop 1) := by
    have := ByteArray.data_extract (a := t) (b := 1) (e := t.size)
    rw [this]
    simp
    rw [List.take_of_length_le]
    rw [List.length_tail, ← Lib.size_eq]
    exact Nat.le_refl _
  rw [e, h.1, List.drop_drop]
/-- t is s without the zeros ahead -/
def TrimIs (s t : ByteArray) : Prop := ∃ k, From s t k ∧ (∀ j, j < k → s.get! j = 48) ∧ (k < s.size → s.get! k ≠ 48)
set_option maxHeartbeats 1600000 in
set_option maxRecDepth 100000 in
theorem trimByte_any (s : ByteArray) (w : World) :
    Calls Tryd.prog 70 #[.string s, .int .u8 48] w fun e w' => ∃ t : ByteArray, e = .returned (.string t) ∧ TrimIs s t ∧ w = w' := by
  go_enter Tryd.func70, Tryd.ntmps70
  go_wp2
  go_loop [0] (fun v => ∃ (t : ByteArray) (k : Nat), v = .string t ∧ From s t k ∧ Hid (∀ j, j < k → s.get! j = 48)) (fun v => Lib.strSize v)
  case atStart => exact ⟨s, 0, rfl, ⟨by simp, Nat.zero_le _⟩, fun j hj => by omega⟩
  case round =>
    obtain ⟨t, k, rfl, hF, hz⟩ := hrel
    have hsz := hF.size
    by_cases h0 : 0 < t.size
    · have hb := hF.byte 0
      rw [get_byte h0, Nat.add_zero] at hb
      by_cases heq : t[0]'h0 = 48
      · have heq' : ((t[0]'h0).toNat : Int) = 48 := by rw [heq]; rfl
        have hN := hF.next (by omega)
        have HZ : Hid (∀ j, j < k + 1 → s.get! j = 48) := fun j hj => by
          by_cases q : j < k
          · exact hz.out j q
          · have : j = k := by omega
            rw [this, ← hb]; exact heq
        have HS : Hid ((t.extract 1 t.size).size < t.size) := by show _ < _; rw [hN.size]; omega
        clear hb heq hz hF hsz
        go_wp2
        go_round
        case rel => exact ⟨_, k + 1, rfl, hN, HZ⟩
        case measure => exact HS.out
      · have hne' : ¬ ((t[0]'h0).toNat : Int) = 48 := by
          intro e
          exact heq (UInt8.toNat_inj.1 (by show (t[0]'h0).toNat = 48; omega))
        have hbeq : (((t[0]'h0).toNat : Int) == 48) = false := by simpa using hne'
        have HK : Hid (k < s.size → s.get! k ≠ 48) := fun _ => by rw [← hb]; exact heq
        clear hb heq hsz
        go_wp2
        go_ret
        exact ⟨t, rfl, ⟨k, hF, hz.out, HK.out⟩, rfl⟩
    · have HK : Hid (k < s.size → s.get! k ≠ 48) := fun q => by omega
      have h1 : ¬ (0 : Int) < (t.size : Int) := by omega
      clear hsz
      go_wp2
      go_ret
      exact ⟨t, rfl, ⟨k, hF, hz.out, HK.out⟩, rfl⟩
set_option maxHeartbeats 1600000 in
set_option maxRecDepth 100000 in
theorem trimLeft_any (s : ByteArray) (w : World) :
    Calls Tryd.prog 44 #[.string s, .string ⟨#[48]⟩] w fun e w' => ∃ t : ByteArray, e = .returned (.string t) ∧ TrimIs s t ∧ w = w' := by
  have hc := trimByte_any s w
  by_cases h0 : s.size = 0
  · have e : s.toList.isEmpty = true := by
      rw [Lib.toList_data]
      have := Lib.size_eq s
      rw [List.isEmpty_iff_length_eq_zero]; omega
    clear hc
    go_enter Tryd.func44, Tryd.ntmps44
    go_wp2
    go_ret
    exact ⟨s, rfl, ⟨0, ⟨by simp, by omega⟩, fun j hj => by omega, fun q => by omega⟩, rfl⟩
  · have e : s.toList.isEmpty = false := by
      rw [Lib.toList_data]
      have := Lib.size_eq s
      rw [← Bool.not_eq_true, List.isEmpty_iff_length_eq_zero]; omega
    go_enter Tryd.func44, Tryd.ntmps44
    go_wp2_with fail
    refine hc.mono ?_
    rintro e w' ⟨t, rfl, ht, rfl⟩
    clear hc
    go_wp2
    go_ret
    exact ⟨t, rfl, ht, rfl⟩
end Go.Proofs.YtmenhfnakcdnnabDoor

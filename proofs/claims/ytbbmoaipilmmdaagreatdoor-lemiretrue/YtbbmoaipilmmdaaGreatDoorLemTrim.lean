/- Layer 10: strings.Trim. -/
import Derived.Test.YtbbmoaipilmmdaaGreatDoorLexTrim
import Derived.Deep.QuietTactic
import Derived.BigQuiet
namespace Go.Proofs.YtbbmoaipilmmdaaGreatDoor
open Go.ChangeShapes Go.WideShapes Go.ChangeAt Go.RowKit
open Lx
set_option linter.unusedVariables false
namespace Lx
/-- without the bytes of a set at the end -/
def trimR (cs l : B) : B := (l.reverse.dropWhile (fun b => cs.contains b)).reverse
theorem trimR_at (l cs : B) (k : Nat) (hk : k ≤ l.length) (h1 : ∀ (j : Nat) b, k ≤ j → l[j]? = some b → cs.contains b = true) (h2 : ∀ b, 0 < k → l[k - 1]? = some b → cs.contains b = false) : trimR cs l = l.take k := by
  have at' : ∀ j, j < l.length → l.reverse[j]? = l[l.length - 1 - j]? := fun j hj => List.getElem?_reverse hj
  have e : trimL cs l.reverse = l.reverse.drop (l.length - k) := by
    refine dropWhile_at _ cs _ (by simp) (fun j b hj hb => ?_) (fun b hb => ?_)
    · rw [at' j (by omega)] at hb
      exact h1 _ b (by omega) hb
    · by_cases hk0 : k = 0
      · subst hk0
        simp at hb
      · rw [at' _ (by omega)] at hb
        have : l.length - 1 - (l.length - k) = k - 1 := by omega
        rw [this] at hb
        exact h2 b (by omega) hb
  unfold trimL at e
  unfold trimR
  rw [e, List.drop_reverse, List.reverse_reverse]
  congr 1
  omega
theorem str_last {s : ByteArray} {k : Nat} (hk : k < s.size) (h : k < (str (s.data.toList.take (k + 1))).size) : (str (s.data.toList.take (k + 1)))[k]'h = s[k]'hk := by
  have : (str (s.data.toList.take (k + 1))).data.toList[k]? = some ((str (s.data.toList.take (k + 1)))[k]'h) := Lib.data_getElem? _ k h
  rw [str_list, List.getElem?_take, if_pos (by omega), Lib.data_getElem? s k hk] at this
  exact (Option.some.inj this).symm
theorem ext_last {s : ByteArray} {k : Nat} (hk : k < s.size) : (str (s.data.toList.take (k + 1))).extract 0 k = str (s.data.toList.take k) := by
  rw [ext_str, str_list, List.drop_zero, Nat.sub_zero, List.take_take]
  congr 2
  omega
end Lx
set_option maxHeartbeats 1600000 in
set_option maxRecDepth 100000 in
theorem trimRightByte_any (s : ByteArray) (hs : s.size ≤ 9223372036854775807) (c : UInt8) (w : World) :
    Calls Tryz.prog 78 #[.string s, .int .u8 c.toNat] w fun e w' => e = .returned (.string (str (trimR [c] s.data.toList))) ∧ w' = w := by
  go_enter Tryz.func78, Tryz.ntmps78
  go_wp2
  go_loop [0] (fun v => ∃ k : Nat, k ≤ s.size ∧ v = .string (str (s.data.toList.take k)) ∧ Hid (∀ (j : Nat) b, k ≤ j → s.data.toList[j]? = some b → ([c] : B).contains b = true)) (fun v => Lib.strSize v)
  case atStart => exact ⟨s.size, Nat.le_refl _, by rw [List.take_of_length_le (by rw [← Lib.size_eq]; exact Nat.le_refl _), str_of], fun j b hj hb => by
    rw [List.getElem?_eq_none (by rw [← Lib.size_eq]; exact hj)] at hb; cases hb⟩
  case round =>
    obtain ⟨k, hk, rfl, hc⟩ := hrel
    have hts : (str (s.data.toList.take k)).size = k := by rw [str_size, List.length_take, ← Lib.size_eq]; omega
    cases k with
    | succ k =>
      have h0 : k < s.size := by omega
      have hp : k < (str (s.data.toList.take (k + 1))).size := by omega
      have hx := str_last h0 hp
      have hx1 := ext_last h0
      have HK : Hid (s.data.toList[k]? = some (s[k]'h0)) := Lib.data_getElem? s k h0
      generalize hq : (s[k]'h0) = x at *
      have hi : (0 : Int) < ((k + 1 : Nat) : Int) := by omega
      have hi1 : ((k + 1 : Nat) : Int) - 1 = k := by omega
      have hk9 : (k : Int) ≤ 9223372036854775806 := by omega
      generalize ht : str (s.data.toList.take (k + 1)) = t at hts hp hx hx1 ⊢
      have HT : Hid (str (s.data.toList.take (k + 1)) = t) := ht
      clear ht hq
      by_cases hin : x = c
      · have HI : Hid (([c] : B).contains x = true) := by rw [hin]; simp [Hid]
        have hb : ((x.toNat : Int) == (c.toNat : Int)) = true := by rw [hin]; simp
        clear hin
        go_wp2
        refine ⟨⟨k, by omega, rfl, fun j b hj hb => ?_⟩, ?_⟩
        · by_cases e : j = k
          · subst e
            rw [HK.out] at hb; rw [← Option.some.inj hb]; exact HI
          · exact hc.out j b (by omega) hb
        · show Lib.strSize (.string _) < Lib.strSize (.string _)
          simp only [Lib.strSize]
          rw [str_size, List.length_take, ← Lib.size_eq]
          omega
      · have HI : Hid (([c] : B).contains x = false) := by simpa [Hid] using hin
        have hb : ((x.toNat : Int) == (c.toNat : Int)) = false := beq_eq_false_iff_ne.2 fun e => hin (UInt8.toNat_inj.1 (by exact_mod_cast e))
        clear hin
        go_wp2
        go_ret
        refine ⟨?_, rfl⟩
        have HT' : str (s.data.toList.take (k + 1)) = t := HT
        show Ending.returned (Value.string t) = _
        rw [trimR_at s.data.toList [c] (k + 1) (by rw [← Lib.size_eq]; exact hk) hc.out (fun b _ hb => by
          rw [Nat.add_sub_cancel, HK.out] at hb; rw [← Option.some.inj hb]; exact HI), HT']
    | zero =>
      have hi : ¬ (0 : Int) < ((0 : Nat) : Int) := by omega
      generalize ht : str (s.data.toList.take 0) = t at hts ⊢
      have HT : Hid (str (s.data.toList.take 0) = t) := ht
      clear ht
      go_wp2
      go_ret
      refine ⟨?_, rfl⟩
      have HT' : str (s.data.toList.take 0) = t := HT
      show Ending.returned (Value.string t) = _
      rw [trimR_at s.data.toList [c] 0 (Nat.zero_le _) hc.out (fun b h => absurd h (Nat.not_lt_zero _)), HT']
set_option maxHeartbeats 1600000 in
set_option maxRecDepth 100000 in
theorem trimRightSet_any (s : ByteArray) (hs : s.size ≤ 9223372036854775807) (b : Nat) (cs : B) (w : World) (hset : ∀ x : UInt8, w.cell? ⟨b, x.toNat, none⟩ = some (.bool (cs.contains x))) :
    Calls Tryz.prog 81 #[.string s, .pointer (some ⟨b, 0, none⟩)] w fun e w' => e = .returned (.string (str (trimR cs s.data.toList))) ∧ w' = w := by
  have HS : Hid _ := hset
  clear hset
  go_enter Tryz.func81, Tryz.ntmps81
  go_wp2
  go_loop [0] (fun v => ∃ k : Nat, k ≤ s.size ∧ v = .string (str (s.data.toList.take k)) ∧ Hid (∀ (j : Nat) b, k ≤ j → s.data.toList[j]? = some b → cs.contains b = true)) (fun v => Lib.strSize v)
  case atStart => exact ⟨s.size, Nat.le_refl _, by rw [List.take_of_length_le (by rw [← Lib.size_eq]; exact Nat.le_refl _), str_of], fun j b hj hb => by
    rw [List.getElem?_eq_none (by rw [← Lib.size_eq]; exact hj)] at hb; cases hb⟩
  case round =>
    obtain ⟨k, hk, rfl, hc⟩ := hrel
    have hts : (str (s.data.toList.take k)).size = k := by rw [str_size, List.length_take, ← Lib.size_eq]; omega
    cases k with
    | succ k =>
      have h0 : k < s.size := by omega
      have hp : k < (str (s.data.toList.take (k + 1))).size := by omega
      have hx := str_last h0 hp
      have hx1 := ext_last h0
      have HK : Hid (s.data.toList[k]? = some (s[k]'h0)) := Lib.data_getElem? s k h0
      have hcx := HS.out (s[k]'h0)
      generalize hq : (s[k]'h0) = x at *
      have hi : (0 : Int) < ((k + 1 : Nat) : Int) := by omega
      have hi1 : ((k + 1 : Nat) : Int) - 1 = k := by omega
      have hk9 : (k : Int) ≤ 9223372036854775806 := by omega
      generalize ht : str (s.data.toList.take (k + 1)) = t at hts hp hx hx1 ⊢
      have HT : Hid (str (s.data.toList.take (k + 1)) = t) := ht
      clear ht hq
      cases hin : cs.contains x <;> rw [hin] at hcx
      · have HI : Hid (cs.contains x = false) := hin
        clear hin
        go_wp2_with (go_at_call 110; refine (setHas_any _ x _ _ hcx).mono ?_; rintro e w' ⟨rfl, rfl⟩)
        go_ret
        refine ⟨?_, rfl⟩
        have HT' : str (s.data.toList.take (k + 1)) = t := HT
        show Ending.returned (Value.string t) = _
        rw [trimR_at s.data.toList cs (k + 1) (by rw [← Lib.size_eq]; exact hk) hc.out (fun b _ hb => by
          rw [Nat.add_sub_cancel, HK.out] at hb; rw [← Option.some.inj hb]; exact HI), HT']
      · have HI : Hid (cs.contains x = true) := hin
        clear hin
        go_wp2_with (go_at_call 110; refine (setHas_any _ x _ _ hcx).mono ?_; rintro e w' ⟨rfl, rfl⟩)
        refine ⟨⟨k, by omega, rfl, fun j b hj hb => ?_⟩, ?_⟩
        · by_cases e : j = k
          · subst e
            rw [HK.out] at hb; rw [← Option.some.inj hb]; exact HI
          · exact hc.out j b (by omega) hb
        · show Lib.strSize (.string _) < Lib.strSize (.string _)
          simp only [Lib.strSize]
          rw [str_size, List.length_take, ← Lib.size_eq]
          omega
    | zero =>
      have hi : ¬ (0 : Int) < ((0 : Nat) : Int) := by omega
      generalize ht : str (s.data.toList.take 0) = t at hts ⊢
      have HT : Hid (str (s.data.toList.take 0) = t) := ht
      clear ht
      go_wp2
      go_ret
      refine ⟨?_, rfl⟩
      have HT' : str (s.data.toList.take 0) = t := HT
      show Ending.returned (Value.string t) = _
      rw [trimR_at s.data.toList cs 0 (Nat.zero_le _) hc.out (fun b h => absurd h (Nat.not_lt_zero _)), HT']
set_option maxHeartbeats 4000000 in
set_option maxRecDepth 100000 in
/-- a set of two bytes and more -/
theorem trim_many (s z : ByteArray) (hs : s.size ≤ 9223372036854775807) (w : World) (h2 : 2 ≤ z.size) (h0 : 0 < s.size) (hz : z.size < 1000) (hascii : ∀ (j : Nat) b, z.data.toList[j]? = some b → b.toNat < 128) :
    Calls Tryz.prog 37 #[.string s, .string z] w fun e w' => e = .returned (.string (str (trimL z.data.toList (trimR z.data.toList s.data.toList)))) ∧ Below w.heap.size w w' := by
  have hM := makeSet_any z w hz hascii
  clear hascii
  have hemp : z.toList.isEmpty = false := by
    rw [Lib.toList_data]
    cases h : z.data.toList with
    | nil => have := Lib.size_eq z; rw [h, List.length_nil] at this; omega
    | cons _ _ => rfl
  have hemps : s.toList.isEmpty = false := by
    rw [Lib.toList_data]
    cases h : s.data.toList with
    | nil => have := Lib.size_eq s; rw [h, List.length_nil] at this; omega
    | cons _ _ => rfl
  have hn1 : ((z.size : Int) == 1) = false := beq_eq_false_iff_ne.2 (by omega)
  have hcellAt : ∀ x : UInt8, ((w.alloc (.cells (Lib.setCells z.data.toList) 116)).alloc (.cells (Lib.setCells z.data.toList) 116)).cell? ⟨w.heap.size + 1, x.toNat, none⟩ = some (.bool (z.data.toList.contains x)) := fun x => by
    rw [World.cell?_alloc_at _ _ _ _ (by simp), Lib.setCells_at]
  have hT := trimRightSet_any s hs (w.heap.size + 1) z.data.toList _ hcellAt
  have hT2 := trimLeftSet_any (str (trimR z.data.toList s.data.toList)) (w.heap.size + 1) z.data.toList _ hcellAt
  rw [str_list] at hT2
  have hsz := Lib.setCells_size z.data.toList
  have hsc := run_storeCells_new (P := Tryz.prog) (w.alloc (.cells (Lib.setCells z.data.toList) 116)) 116 Tryz.zeroCells116 (Lib.setCells z.data.toList) (by rw [hsz]; exact aset_size) (by rw [hsz, zeroSet]; exact Lib.setCells_size _) (Lib.setCells_one _)
  simp only [World.size_alloc] at hsc
  have HC : Hid _ := hsc
  clear hsc hcellAt
  go_enter Tryz.func37, Tryz.ntmps37
  go_wp2_with (go_at_call 79; refine hM.mono ?_; rintro e w' ⟨rfl, hw⟩; rw [hw])
  rw [HC.out]
  simp only [Result.andThen]
  rw [Oper.upon_skip]
  go_wp2_with (first | (go_at_call 81; refine hT.mono ?_; rintro e w' ⟨rfl, hw⟩; rw [hw]) | (go_at_call 80; refine hT2.mono ?_; rintro e w' ⟨rfl, hw⟩; rw [hw]))
  go_ret
  exact ⟨rfl, ((Below.refl _ w).alloc (Nat.le_refl _) _).alloc (by simp) _⟩
set_option maxRecDepth 100000 in
/-- a set of one byte -/
theorem trim_one (s : ByteArray) (hs : s.size ≤ 9223372036854775807) (c : UInt8) (w : World) (hc : c.toNat < 128) (h0 : 0 < s.size) :
    Calls Tryz.prog 37 #[.string s, .string ⟨#[c]⟩] w fun e w' => e = .returned (.string (str (trimL [c] (trimR [c] s.data.toList)))) ∧ Below w.heap.size w w' := by
  have hemps : s.toList.isEmpty = false := by
    rw [Lib.toList_data]
    cases h : s.data.toList with
    | nil => have := Lib.size_eq s; rw [h, List.length_nil] at this; omega
    | cons _ _ => rfl
  have hemp : (ByteArray.mk #[c]).toList.isEmpty = false := by rw [Lib.toList_data]; rfl
  have hi : (c.toNat : Int) < 128 := by omega
  have hx : ∀ h, (ByteArray.mk #[c])[0]'h = c := fun _ => rfl
  have hT2 := fun w => trimLeftByte_any (str (trimR [c] s.data.toList)) c w
  rw [str_list] at hT2
  go_enter Tryz.func37, Tryz.ntmps37
  have h1 := fun w => trimRightByte_any s hs c w
  go_wp2
  go_quiet ((first | (go_at_call 78; exact Calls.quiet_of_same (h1 _)) | (go_at_call 77; exact Calls.quiet_of_same (hT2 _))))
  go_wp2
  go_ret
  exact ⟨rfl, ⟨rfl, rfl, rfl, Nat.le_refl _, fun _ _ => rfl⟩⟩
set_option maxRecDepth 100000 in
theorem trim_none (z : ByteArray) (w : World) :
    Calls Tryz.prog 37 #[.string ⟨#[]⟩, .string z] w fun e w' => e = .returned (.string ⟨#[]⟩) ∧ w' = w := by
  go_enter Tryz.func37, Tryz.ntmps37
  go_wp2
  go_ret
  exact ⟨rfl, rfl⟩
theorem trim_set (cs : B) (s : ByteArray) (hs : s.size ≤ 9223372036854775807) (w : World) (h2 : 2 ≤ cs.length) (hz : cs.length < 1000) (hascii : cs.all (fun b => decide (b.toNat < 128)) = true) :
    Calls Tryz.prog 37 #[.string s, .string ⟨cs.toArray⟩] w fun e w' => e = .returned (.string (str (trimL cs (trimR cs s.data.toList)))) ∧ Below w.heap.size w w' := by
  by_cases h0 : 0 < s.size
  · have := trim_many s (str cs) hs w (by rw [str_size]; exact h2) h0 (by rw [str_size]; exact hz) (fun j b hb => by
      rw [str_list] at hb
      simpa using List.all_eq_true.mp hascii b (List.mem_of_getElem? hb))
    rw [str_list] at this
    exact this
  · obtain rfl := empty_of h0
    refine (trim_none _ _).mono ?_
    rintro e w' ⟨rfl, rfl⟩
    exact ⟨rfl, Below.refl _ _⟩
theorem trim_zero (s : ByteArray) (hs : s.size ≤ 9223372036854775807) (w : World) :
    Calls Tryz.prog 37 #[.string s, .string ⟨#[48]⟩] w fun e w' => e = .returned (.string (str (trimL [48] (trimR [48] s.data.toList)))) ∧ Below w.heap.size w w' := by
  by_cases h0 : 0 < s.size
  · exact trim_one s hs 48 w (by decide) h0
  · obtain rfl := empty_of h0
    refine (trim_none _ _).mono ?_
    rintro e w' ⟨rfl, rfl⟩
    exact ⟨rfl, Below.refl _ _⟩
end Go.Proofs.YtbbmoaipilmmdaaGreatDoor

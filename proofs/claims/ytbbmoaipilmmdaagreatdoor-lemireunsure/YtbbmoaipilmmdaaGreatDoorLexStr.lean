/- Layer 9: what package strings answers: IndexByte, TrimLeft at sets of bytes below 128. -/
import Derived.Test.YtbbmoaipilmmdaaGreatDoorLexBase
namespace Go.Proofs.YtbbmoaipilmmdaaGreatDoor
open Go.ChangeShapes Go.WideShapes Go.ChangeAt Go.RowKit
open Lx
set_option linter.unusedVariables false
namespace Lx
theorem indexByte_neg (l : B) (c : UInt8) : decide (Lib.indexByte l c < 0) = !l.contains c := by
  induction l with
  | nil => rfl
  | cons b r ih =>
    unfold Lib.indexByte
    by_cases h : b = c
    · rw [if_pos (by simpa using h)]
      subst h
      simp
    · rw [if_neg (by simpa using h)]
      have h2 : (c == b) = false := by simpa using fun e => h e.symm
      rw [List.contains_cons, h2, Bool.false_or, ← ih]
      by_cases hn : Lib.indexByte r c = -1
      · rw [if_pos (by simpa using hn), hn]
      · rw [if_neg (by simpa using hn)]
        have := ih
        have hge : Lib.indexByte r c = -1 ∨ 0 ≤ Lib.indexByte r c := by
          clear ih this h2 hn
          induction r with
          | nil => exact Or.inl rfl
          | cons d q ihq =>
            unfold Lib.indexByte
            split
            · exact Or.inr (by omega)
            · rcases ihq with e | e
              · rw [e]; exact Or.inl rfl
              · right
                split
                · rename_i hx; simp at hx; omega
                · omega
        have h0 := hge.resolve_left hn
        rw [decide_eq_decide]
        omega
end Lx
set_option maxRecDepth 100000 in
theorem slIndexByte_any (s : ByteArray) (c : Int) (w : World) :
    Calls Tryz.prog 132 #[.string s, .int .u8 c] w fun e w' => e = .returned (.int .i64 (Lib.indexByte s.data.toList c.toNat.toUInt8)) ∧ w' = w := by
  go_enter Tryz.func132, Tryz.ntmps132
  go_wp2
  rw [run_callFunc_extern Tryz.func133 (by kernel_rfl) (by kernel_rfl) (by kernel_rfl) (e := Extern.BytealgIndexByte.indexByte) (by kernel_rfl), Lib.run_indexByteString]
  simp only [Result.andThen]
  rw [Oper.upon_value]
  go_wp2
  go_ret
  exact ⟨rfl, rfl⟩
theorem sIndexByte9_any (s : ByteArray) (c : Int) (w : World) :
    Calls Tryz.prog 128 #[.string s, .int .u8 c] w fun e w' => e = .returned (.int .i64 (Lib.indexByte s.data.toList c.toNat.toUInt8)) ∧ w' = w := by
  go_enter Tryz.func128, Tryz.ntmps128
  go_wp2_with (go_at_call 132; refine (slIndexByte_any _ _ _).mono ?_; rintro e w' ⟨rfl, rfl⟩)
  go_ret
  exact ⟨rfl, rfl⟩
set_option maxRecDepth 100000 in
theorem setHas_any (b : Nat) (x : UInt8) (v : Bool) (w : World) (hc : w.cell? ⟨b, x.toNat, none⟩ = some (.bool v)) :
    Calls Tryz.prog 110 #[.pointer (some ⟨b, 0, none⟩), .int .u8 x.toNat] w fun e w' => e = .returned (.bool v) ∧ w' = w := by
  have hx256 : (x.toNat : Int) < 256 := by have := UInt8.toNat_lt x; omega
  go_enter Tryz.func110, Tryz.ntmps110
  go_wp2
  go_ret
  exact ⟨rfl, rfl⟩
namespace Lx
/-- without the bytes of a set ahead -/
def trimL (cs l : B) : B := l.dropWhile (fun b => cs.contains b)
/-- a loop that cuts bytes off: what is left -/
theorem dropWhile_at (l cs : B) (k : Nat) (hk : k ≤ l.length) (h1 : ∀ (j : Nat) b, j < k → l[j]? = some b → cs.contains b = true) (h2 : ∀ b, l[k]? = some b → cs.contains b = false) :
    trimL cs l = l.drop k := by
  unfold trimL
  induction k generalizing l with
  | zero =>
    cases l with
    | nil => rfl
    | cons c r => rw [List.dropWhile_cons, h2 c rfl]; rfl
  | succ k ih =>
    cases l with
    | nil => simp at hk
    | cons c r =>
      rw [List.dropWhile_cons, h1 0 c (by omega) rfl, if_pos rfl, List.drop_succ_cons]
      exact ih r (by simpa using hk) (fun j b hj hb => h1 (j + 1) b (by omega) (by simpa using hb)) (fun b hb => h2 b (by simpa using hb))
theorem ext_one {s : ByteArray} {k : Nat} (hk : k < s.size) : (str (s.data.toList.drop k)).extract 1 (s.size - k) = str (s.data.toList.drop (k + 1)) := by
  rw [ext_str, str_list, List.drop_drop, List.take_of_length_le]
  rw [List.length_drop, ← Lib.size_eq]; omega
theorem str_head {s : ByteArray} {k : Nat} (hk : k < s.size) (h : 0 < (str (s.data.toList.drop k)).size) : (str (s.data.toList.drop k))[0]'h = s[k]'hk := by
  have : (str (s.data.toList.drop k)).data.toList[0]? = some ((str (s.data.toList.drop k))[0]'h) := Lib.data_getElem? _ 0 h
  rw [str_list, List.getElem?_drop, Nat.add_zero, Lib.data_getElem? s k hk] at this
  exact (Option.some.inj this).symm
end Lx
set_option maxHeartbeats 1600000 in
set_option maxRecDepth 100000 in
theorem trimLeftSet_any (s : ByteArray) (b : Nat) (cs : B) (w : World) (hset : ∀ x : UInt8, w.cell? ⟨b, x.toNat, none⟩ = some (.bool (cs.contains x))) :
    Calls Tryz.prog 80 #[.string s, .pointer (some ⟨b, 0, none⟩)] w fun e w' => e = .returned (.string (str (trimL cs s.data.toList))) ∧ w' = w := by
  have HS : Hid _ := hset
  clear hset
  go_enter Tryz.func80, Tryz.ntmps80
  go_wp2
  go_loop [0] (fun v => ∃ k : Nat, k ≤ s.size ∧ v = .string (str (s.data.toList.drop k)) ∧ Hid (∀ (j : Nat) b, j < k → s.data.toList[j]? = some b → cs.contains b = true)) (fun v => Lib.strSize v)
  case atStart => exact ⟨0, Nat.zero_le _, by rw [List.drop_zero, str_of], fun j b hj => absurd hj (Nat.not_lt_zero _)⟩
  case round =>
    obtain ⟨k, hk, rfl, hc⟩ := hrel
    have hts : (str (s.data.toList.drop k)).size = s.size - k := by rw [str_size, List.length_drop, ← Lib.size_eq]
    by_cases h0 : k < s.size
    · have hp : 0 < (str (s.data.toList.drop k)).size := by omega
      have hx := str_head h0 hp
      have hx1 := ext_one h0
      have HK : Hid (s.data.toList[k]? = some (s[k]'h0)) := Lib.data_getElem? s k h0
      have HE : Hid (str (s.data.toList.drop k) = str (s.data.toList.drop k)) := rfl
      have hcx := HS.out (s[k]'h0)
      generalize hq : (s[k]'h0) = x at *
      have hi : (0 : Int) < ((s.size - k : Nat) : Int) := by omega
      generalize ht : str (s.data.toList.drop k) = t at hts hp hx hx1 ⊢
      have HT : Hid (str (s.data.toList.drop k) = t) := ht
      clear ht hq
      cases hin : cs.contains x <;> rw [hin] at hcx
      · have HI : Hid (cs.contains x = false) := hin
        clear hin
        go_wp2_with (go_at_call 110; refine (setHas_any _ x _ _ hcx).mono ?_; rintro e w' ⟨rfl, rfl⟩)
        go_ret
        refine ⟨?_, rfl⟩
        have HT' : str (s.data.toList.drop k) = t := HT
        show Ending.returned (Value.string t) = _
        rw [dropWhile_at s.data.toList cs k (by rw [← Lib.size_eq]; exact hk) hc.out (fun b hb => by
          rw [HK.out] at hb; rw [← Option.some.inj hb]; exact HI), HT']
      · have HI : Hid (cs.contains x = true) := hin
        clear hin
        go_wp2_with (go_at_call 110; refine (setHas_any _ x _ _ hcx).mono ?_; rintro e w' ⟨rfl, rfl⟩)
        refine ⟨⟨k + 1, by omega, rfl, fun j b hj hb => ?_⟩, ?_⟩
        · by_cases e : j = k
          · subst e
            rw [HK.out] at hb; rw [← Option.some.inj hb]; exact HI
          · exact hc.out j b (by omega) hb
        · show Lib.strSize (.string _) < Lib.strSize (.string _)
          simp only [Lib.strSize]
          rw [str_size, List.length_drop, ← Lib.size_eq]
          omega
    · have hi : ¬ (0 : Int) < ((s.size - k : Nat) : Int) := by omega
      generalize ht : str (s.data.toList.drop k) = t at hts ⊢
      have HT : Hid (str (s.data.toList.drop k) = t) := ht
      clear ht
      go_wp2
      go_ret
      refine ⟨?_, rfl⟩
      have HT' : str (s.data.toList.drop k) = t := HT
      show Ending.returned (Value.string t) = _
      rw [dropWhile_at s.data.toList cs k (by rw [← Lib.size_eq]; exact hk) hc.out (fun b hb => by
        have : s.data.toList.length ≤ k := by rw [← Lib.size_eq]; omega
        rw [List.getElem?_eq_none this] at hb; cases hb), HT']
end Go.Proofs.YtbbmoaipilmmdaaGreatDoor

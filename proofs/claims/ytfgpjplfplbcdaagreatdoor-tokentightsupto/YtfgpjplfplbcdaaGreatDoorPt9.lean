import Derived.Laws.RangeString
import Derived.Laws.Runes
import Derived.Below
import Derived.BigQuiet
import Derived.Deep.LoopGhost
import Derived.Deep.QuietTactic
import Derived.Deep.RegionWith
import Derived.Deep.WholeRow
import Derived.KernelRfl
import Derived.Laws.EntriesVeiled
import Derived.Laws.Externs
import Derived.Laws.ResultCell
import Derived.Laws.Strings3
import Derived.Lib.AsciiSet
import Derived.Lib.Bytealg
import Derived.Lib.IndexBytes
import Derived.Lib.Strings
import Derived.Lib.TrimByte
import Derived.Lib.Walk
import Derived.OpenShut
import Derived.ProofKit
import Derived.ShutString
import Derived.WalkKit
import Derived.WalkLawsBesides
import Derived.WalkSpells
import Derived.Test.YtfgpjplfplbcdaaGreatDoorPt8
/- Layer 9: strings.HasPrefix at one byte, lex.held, lex.exponent. -/
namespace Go.Proofs.YtfgpjplfplbcdaaGreatDoor
open Go.ChangeShapes Go.WideShapes Go.ChangeAt Go.RowKit
open Lx
set_option linter.unusedVariables false
set_option maxRecDepth 100000 in
theorem slPrefix_any (s : ByteArray) (c : UInt8) (w : World) :
    Calls Tryz.prog 76 #[.string s, .string ⟨#[c]⟩] w fun e w' => e = .returned (.bool (fst [c] s.data.toList)) ∧ w' = w := by
  by_cases h : 0 < s.size
  · have hl : (1 : Int) ≤ (s.size : Int) := by omega
    have e1 : (s.extract 0 1).toList = [s[0]'h] := by
      rw [Lib.toList_data, ext_str, str_list, List.drop_zero]
      have := drop_cons_of h
      rw [List.drop_zero] at this
      rw [this]; rfl
    have e2 : fst [c] s.data.toList = (s[0]'h == c) := by
      have := drop_cons_of h
      rw [List.drop_zero] at this
      rw [this, fst_cons, List.contains_cons]; simp only [List.contains_nil, Bool.or_false]
    have e3 : (ByteArray.mk #[c]).toList = [c] := by rw [Lib.toList_data]
    rw [e2]
    clear e2
    generalize s[0]'h = x at *
    cases hb : (x == c)
    · have e4 : ([x] == [c]) = false := by simpa using hb
      clear hb
      go_enter Tryz.func76, Tryz.ntmps76
      go_wp2
      go_ret
      exact ⟨rfl, rfl⟩
    · have e4 : ([x] == [c]) = true := by simpa using hb
      clear hb
      go_enter Tryz.func76, Tryz.ntmps76
      go_wp2
      go_ret
      exact ⟨rfl, rfl⟩
  · have hl : ¬ (1 : Int) ≤ (s.size : Int) := by omega
    have e2 : fst [c] s.data.toList = false := by
      rw [empty_of h]; rfl
    rw [e2]
    clear e2 h
    go_enter Tryz.func76, Tryz.ntmps76
    go_wp2
    go_ret
    exact ⟨rfl, rfl⟩
theorem prefix_any (s : ByteArray) (c : UInt8) (w : World) :
    Calls Tryz.prog 63 #[.string s, .string ⟨#[c]⟩] w fun e w' => e = .returned (.bool (fst [c] s.data.toList)) ∧ w' = w := by
  go_enter Tryz.func63, Tryz.ntmps63
  go_wp2_with (go_at_call 76; refine (slPrefix_any _ c _).mono ?_; rintro e w' ⟨rfl, rfl⟩)
  go_ret
  exact ⟨rfl, rfl⟩
namespace Lx
theorem held_max (x : Int) : max (-1073741824) (min x 1073741824) = heldI x := by
  unfold heldI
  split <;> split <;> omega
theorem fold_take {ds : B} {i : Nat} (h : i < ds.length) (f : Int → UInt8 → Int) (z : Int) : (ds.take (i + 1)).foldl f z = f ((ds.take i).foldl f z) (ds[i]'h) := by
  rw [List.take_add_one, List.getElem?_eq_getElem h, List.foldl_append]; rfl
theorem foldP_bound (ds : B) (h : ds.all isD = true) (i : Nat) : 0 ≤ (ds.take i).foldl stepP 0 ∧ (ds.take i).foldl stepP 0 ≤ 21474836489 := by
  have := fold_same (ds.take i) (by
    rw [List.all_eq_true] at h ⊢
    exact fun b hb => h b (List.mem_of_mem_take hb)) 0 0 (by decide) (by decide) (by decide) (by decide) (Or.inl ⟨rfl, by decide⟩)
  omega
end Lx
set_option maxRecDepth 100000 in
theorem held9_any (x : Int) (w : World) :
    Calls Tryz.prog 65 #[.int .i64 x] w fun e w' => e = .returned (.int .i64 (heldI x)) ∧ w' = w := by
  rw [← held_max]
  go_enter Tryz.func65, Tryz.ntmps65
  go_wp2
  go_ret
  exact ⟨rfl, rfl⟩
set_option maxHeartbeats 1600000 in
set_option maxRecDepth 100000 in
theorem exponent_any (s : ByteArray) (hs : ExpoOk s.data.toList) (w : World) :
    Calls Tryz.prog 114 #[.string s] w fun e w' => e = .returned (.int .i64 (expoN s.data.toList)) ∧ Below w.heap.size w w' := by
  have hT := trimLeft_set [43, 45] s w (by decide) (by decide) (by decide)
  obtain ⟨hd, _, _⟩ := expo_form hs
  have hbd := foldP_bound _ hd
  have hp : ∀ w, Calls Tryz.prog 63 #[.string s, .string ⟨#[45]⟩] w fun e w' => e = .returned (.bool (fst [45] s.data.toList)) ∧ w' = w := fun w => prefix_any s 45 w
  have hN : expoN s.data.toList = if fst [45] s.data.toList = true then - (expD s.data.toList).foldl stepP 0 else (expD s.data.toList).foldl stepP 0 := rfl
  rw [hN]
  change Calls Tryz.prog _ _ _ (fun e w' => e = .returned (.string (str (expD s.data.toList))) ∧ _) at hT
  generalize hD : expD s.data.toList = ds at *
  generalize hF : fst [45] s.data.toList = bb at *
  clear hN hD hF hs
  have HD : Hid (ds.all isD = true) := hd
  have HB : Hid _ := hbd
  clear hd hbd
  have hz : (str ds).size = ds.length := str_size ds
  go_enter Tryz.func114, Tryz.ntmps114
  go_wp2_with (go_at_call 129; refine hT.mono ?_; rintro e w1 ⟨rfl, hb1⟩)
  go_loopw [3] (fun v wx => ∃ i : Nat, i ≤ ds.length ∧ wx = w1.iter (str ds) i ∧ v = .int .i64 ((ds.take i).foldl stepP 0)) (fun _ wx => ds.length - wx.iterPos w1.heap.size)
  case atStart => exact ⟨0, Nat.zero_le _, rfl, rfl⟩
  case round =>
    obtain ⟨i, hi, rfl, rfl⟩ := hrel
    obtain ⟨b1, b2⟩ := HB.out i
    by_cases hp : i < ds.length
    · have hp2 : i < (str ds).size := by omega
      have hx : (str ds)[i]'hp2 = ds[i]'hp := by
        have := Lib.data_getElem? (str ds) i hp2
        rw [str_list, List.getElem?_eq_getElem hp] at this
        exact (Option.some.inj this).symm
      have hdg : isD (ds[i]'hp) = true := List.all_eq_true.mp HD.out _ (List.getElem_mem hp)
      have hst := fold_take hp stepP 0
      obtain ⟨c1, c2⟩ := HB.out (i + 1)
      rw [hst] at c1 c2
      have HST : Hid _ := hst
      generalize hv : ds[i]'hp = x at *
      have hd2 : 48 ≤ x.toNat ∧ x.toNat ≤ 57 := by unfold isD at hdg; simpa using hdg
      have hnx : ∀ ty, (Instr.next (.pointer (some ⟨w1.heap.size, 0, none⟩)) true ty).run Tryz.prog (w1.iter (str ds) i) = .ok (.tuple #[.bool true, .int .i64 i, .int .i32 x.toNat]) (w1.iter (str ds) (i + 1)) := fun ty => by
        have := run_next_ascii (P := Tryz.prog) w1 (str ds) i ty hp2 (by rw [hx]; omega)
        rw [hx] at this
        exact this
      clear hx hdg hst hv
      generalize hA : (ds.take i).foldl stepP 0 = A at *
      by_cases hfar : A < 2147483648
      · have hs2 : stepP A x = 10 * A + ((x.toNat : Int) - 48) := by unfold stepP; rw [if_pos hfar]
        have HV : Hid ((ds.take (i + 1)).foldl stepP 0 = 10 * A + ((x.toNat : Int) - 48)) := by rw [HST.out, hs2]; exact rfl
        clear HST hs2 c1 c2
        go_wp2
        go_roundw
        case rel => exact ⟨i + 1, by omega, rfl, by rw [HV.out]⟩
        case measure => simp; omega
      · have hs2 : stepP A x = A := by unfold stepP; rw [if_neg hfar]
        have HV : Hid ((ds.take (i + 1)).foldl stepP 0 = A) := by rw [HST.out, hs2]; exact rfl
        clear HST hs2 c1 c2
        go_wp2
        go_roundw
        case rel => exact ⟨i + 1, by omega, rfl, by rw [HV.out]⟩
        case measure => simp; omega
    · have hi2 : i = ds.length := by omega
      subst hi2
      have hnx : ∀ ty, (Instr.next (.pointer (some ⟨w1.heap.size, 0, none⟩)) true ty).run Tryz.prog (w1.iter (str ds) ds.length) = _ := fun ty => run_next_end w1 (str ds) ds.length ty (by omega)
      rw [List.take_length] at b1 b2 ⊢
      generalize hA : ds.foldl stepP 0 = A at *
      have hbl : Below w.heap.size w (w1.iter (str ds) ds.length) := hb1.alloc (hb1.size) _
      cases bb
      · go_wp2_with (go_at_call 63; refine (hp _).mono ?_; rintro e w' ⟨rfl, rfl⟩)
        go_ret
        exact ⟨by simp, hbl⟩
      · go_wp2_with (go_at_call 63; refine (hp _).mono ?_; rintro e w' ⟨rfl, rfl⟩)
        go_ret
        exact ⟨by simp, hbl⟩
end Go.Proofs.YtfgpjplfplbcdaaGreatDoor


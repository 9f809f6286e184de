import Derived.Deep.RegionHeld3
import Derived.Below
import Derived.BigQuiet
import Derived.ChangeOld
import Derived.Deep.LoopGhost
import Derived.Deep.QuietTactic
import Derived.Deep.RegionWith
import Derived.Deep.WholeRow
import Derived.KernelRfl
import Derived.Laws.BitsAllLaws
import Derived.Laws.EntriesVeiled
import Derived.Laws.Externs
import Derived.Laws.RangeString
import Derived.Laws.ResultCell
import Derived.Laws.Runes
import Derived.Laws.Strings3
import Derived.Lib.AsciiSet
import Derived.Lib.BufferRead
import Derived.Lib.Bytealg
import Derived.Lib.IndexBytes
import Derived.Lib.Strings
import Derived.Lib.TrimByte
import Derived.Lib.Walk
import Derived.OpenShut
import Derived.OwnWalk
import Derived.ProofKit
import Derived.ShutString
import Derived.WalkKit
import Derived.WalkLawsBesides
import Derived.WalkSpells
import Derived.Test.YtiicphkpmdidaaaDoorLrj1
import Derived.Test.YtiicphkpmdidaaaDoorLrj11
/- plumblaw09: into, sign, digits, number. -/
namespace Go.Proofs.YtiicphkpmdidaaaDoor
open Go.ChangeShapes Go.WideShapes Go.ChangeAt Go.RowKit
open Lx
set_option linter.unusedVariables false
namespace Lx
theorem cat_str9 (a b : B) : str a ++ str b = str (a ++ b) := by apply ByteArray.ext; simp [str]
end Lx
theorem into9_any {n top : Int} (h0 : 0 < top) (h1 : top ≤ 1000000) (w : World) :
    Calls Tryd.prog 6 #[.int .i64 n, .int .i64 top] w fun e w' => e = .returned (.int .i64 (n % top)) ∧ w' = w := into9b_any h0 h1 w
namespace Lx
/-- a sign as it is written -/
def sgL (n : Int) (plus : Bool) : B := if n < 0 then [45] else if plus = true then [43] else []
theorem sgL_cases (n : Int) (plus : Bool) : sgL n plus = [] ∨ sgL n plus = [43] ∨ sgL n plus = [45] := by
  unfold sgL
  split
  · exact Or.inr (Or.inr rfl)
  · split
    · exact Or.inr (Or.inl rfl)
    · exact Or.inl rfl
/-- one of the sixteen digits -/
def dgB (big : Bool) (n : Int) : UInt8 := if n < 10 then UInt8.ofNat (48 + n.toNat) else if big = true then UInt8.ofNat (55 + n.toNat) else UInt8.ofNat (87 + n.toNat)
end Lx
theorem lawSign9_any (n : Int) (plus : Bool) (w : World) :
    Calls Tryd.prog 20 #[.int .i64 n, .bool plus] w fun e w' => e = .returned (.string (str (sgL n plus))) ∧ w' = w := by
  unfold sgL
  by_cases h : n < 0
  · rw [if_pos h]
    have d : decide (n < 0) = true := by simp; omega
    go_enter Tryd.func20, Tryd.ntmps20
    go_wp2
    go_ret
    exact ⟨rfl, rfl⟩
  · rw [if_neg h]
    have d : decide (n < 0) = false := by simp; omega
    cases plus
    · go_enter Tryd.func20, Tryd.ntmps20
      go_wp2
      go_ret
      exact ⟨rfl, rfl⟩
    · go_enter Tryd.func20, Tryd.ntmps20
      go_wp2
      go_ret
      exact ⟨rfl, rfl⟩
namespace Lx
theorem tab_great : ∀ n : Fin 16, (ByteArray.mk #[48, 49, 50, 51, 52, 53, 54, 55, 56, 57, 65, 66, 67, 68, 69, 70])[n.val]'(by have := n.isLt; exact this) = dgB true (n.val : Int) := by decide
theorem tab_small : ∀ n : Fin 16, (ByteArray.mk #[48, 49, 50, 51, 52, 53, 54, 55, 56, 57, 97, 98, 99, 100, 101, 102])[n.val]'(by have := n.isLt; exact this) = dgB false (n.val : Int) := by decide
theorem dg_all : ∀ (b : Bool) (n : Fin 16), isH (dgB b (n.val : Int)) = true ∧ (n.val < 10 → isD (dgB b (n.val : Int)) = true) := by decide
theorem dg_H {b : Bool} {n : Int} (h0 : 0 ≤ n) (h1 : n < 16) : isH (dgB b n) = true ∧ (n < 10 → isD (dgB b n) = true) := by
  obtain ⟨k, rfl⟩ : ∃ k : Nat, n = k := ⟨n.toNat, by omega⟩
  have := dg_all b ⟨k, by omega⟩
  exact ⟨this.1, fun h => this.2 (by show k < 10; omega)⟩
/-- digits of a base, from whole numbers, at most 40 -/
def dgL (base : Int) (big : Bool) (l : List Int) : B := (l.take 40).map fun n => dgB big (n % base)
theorem dgL_H {base : Int} {big : Bool} {l : List Int} (h0 : 0 < base) (h1 : base ≤ 16) : (dgL base big l).all isH = true := by
  unfold dgL
  rw [List.all_eq_true]
  intro b hb
  obtain ⟨n, _, rfl⟩ := List.mem_map.mp hb
  exact (dg_H (Int.emod_nonneg n (by omega)) (by have := Int.emod_lt_of_pos n h0; omega)).1
theorem dgL_D {big : Bool} {l : List Int} : (dgL 10 big l).all isD = true := by
  unfold dgL
  rw [List.all_eq_true]
  intro b hb
  obtain ⟨n, _, rfl⟩ := List.mem_map.mp hb
  have := Int.emod_lt_of_pos n (show (0 : Int) < 10 by omega)
  exact (dg_H (Int.emod_nonneg n (by omega)) (by omega)).2 this
theorem dgL_len {base : Int} {big : Bool} {l : List Int} : (dgL base big l).length ≤ 40 := by unfold dgL; rw [List.length_map, List.length_take]; omega
end Lx
set_option maxHeartbeats 3200000 in
set_option maxRecDepth 100000 in
theorem digits9_any {w : World} {a : Option Addr} {n c : Nat} {zs : List Int} (hr : RowAt .i64 w a n zs) (hn : n ≤ 9223372036854775807) {base : Int} (b0 : 0 < base) (b1 : base ≤ 16) (big : Bool) :
    Calls Tryd.prog 5 #[.slice a n c, .int .i64 base, .bool big] w fun e w' => e = .returned (.string (str (dgL base big zs))) ∧ Below w.heap.size w w' := by
  obtain ⟨i_u8, hi_u8, hz0_u8, hz1_u8, hz2_u8⟩ := info_parts info9_u8
  have hlz := hr.1
  go_enter Tryd.func5, Tryd.ntmps5
  go_wp2
  go_loopw [7, 8] (fun v i wx => ∃ j : Nat, i = .int .i64 (j : Int) ∧ j ≤ n ∧ j ≤ 40 ∧ Own .u8 wx w.heap.size 5 v (intb ((zs.take j).map fun n => dgB big (n % base))) ∧ Below w.heap.size w wx) (fun _ i _ => n - (RowKit.intOf i).toNat)
  case atStart => exact ⟨0, rfl, Nat.zero_le _, by omega, own_nil _ _ _ _, Below.refl _ _⟩
  case round =>
    obtain ⟨j, rfl, hj, hj40, hov, hbl⟩ := hrel
    by_cases hq : j < n ∧ j < 40
    · obtain ⟨q1, q2⟩ := hq
      have d1 : decide ((j : Int) < (n : Int)) = true := by simp; omega
      have d2 : decide ((j : Int) < 40) = true := by simp; omega
      obtain ⟨bb, off, rfl, hbb, hcc⟩ : ∃ b off, a = some ⟨b, off, none⟩ ∧ b < w.heap.size ∧ ∀ i, i < n → w.cell? ⟨b, off + i, none⟩ = some (.int .i64 (zs.getD i 0)) := by
        rcases hr.2 with h | h
        · omega
        · exact h
      have hz := (hbl.cell (p := ⟨bb, off + j, none⟩) hbb).trans (hcc j q1)
      have hI := fun w => into9_any (n := zs.getD j 0) b0 (by omega) w
      have hm0 := Int.emod_nonneg (zs.getD j 0) (show base ≠ 0 by omega)
      have hm1 := Int.emod_lt_of_pos (zs.getD j 0) b0
      have HJ : Hid (intb ((zs.take (j + 1)).map fun n => dgB big (n % base)) = intb ((zs.take j).map fun n => dgB big (n % base)) ++ [((dgB big (zs.getD j 0 % base)).toNat : Int)]) := by
        have e : zs.take (j + 1) = zs.take j ++ [zs.getD j 0] := by
          rw [List.take_add_one, List.getElem?_eq_getElem (by omega), List.getD_eq_getElem?_getD, List.getElem?_eq_getElem (by omega)]; rfl
        unfold Hid intb
        rw [e, List.map_append, List.map_append]
        rfl
      have hlen : (intb ((zs.take j).map fun n => dgB big (n % base))).length = j := by rw [intb_len, List.length_map, List.length_take]; omega
      generalize intb ((zs.take j).map fun n => dgB big (n % base)) = us at *
      have hsz : w.heap.size ≤ wr.heap.size := hbl.size
      obtain ⟨k, hk⟩ : ∃ k : Nat, zs.getD j 0 % base = (k : Int) := ⟨(zs.getD j 0 % base).toNat, by omega⟩
      rw [hk] at hI HJ hm1
      have hk16 : k < 16 := by omega
      have hkI : (k : Int) < 16 := by omega
      generalize zs.getD j 0 = zv at *
      cases big
      · have hx : ∀ h, (ByteArray.mk #[48, 49, 50, 51, 52, 53, 54, 55, 56, 57, 97, 98, 99, 100, 101, 102])[k]'h = dgB false (k : Int) := fun _ => tab_small ⟨k, hk16⟩
        generalize hX : dgB false (k : Int) = X at *
        clear hX hk hm0 hm1
        go_wp2_with fail
        refine (hI _).mono ?_
        rintro e w2 ⟨rfl, hw2⟩
        rw [hw2]
        clear hI hw2
        go_wp2_with (at_builtin; refine wpList_append_own _ rfl _ _ 45 rfl w.heap.size 5 i_u8 (.int .u8 0) 1 1 Tryd.underlying45 hi_u8 hz0_u8 hz1_u8 hz2_u8 rfl (by decide) _ _ _ rfl (hov.row.alloc _) ⟨wr.heap.size, 0, none⟩ 1 1 [.int .u8 X.toNat] rfl rfl one_new one_cell (by unfold maxLen; omega) (by omega) (by simp; omega) ?_)
        intro v' w5 hown' hgrow _
        have hb' := grow_below hsz hov.row hbl hgrow
        have ho' := own_next hown' hlen.symm
        rw [← HJ.out] at ho'
        clear hown' hgrow hov hbl HJ
        go_wp2
        go_roundw
        case rel => exact ⟨j + 1, rfl, by omega, by omega, ho', hb'⟩
        case measure => simp [RowKit.intOf]; omega
      · have hx : ∀ h, (ByteArray.mk #[48, 49, 50, 51, 52, 53, 54, 55, 56, 57, 65, 66, 67, 68, 69, 70])[k]'h = dgB true (k : Int) := fun _ => tab_great ⟨k, hk16⟩
        generalize hX : dgB true (k : Int) = X at *
        clear hX hk hm0 hm1
        go_wp2_with fail
        refine (hI _).mono ?_
        rintro e w2 ⟨rfl, hw2⟩
        rw [hw2]
        clear hI hw2
        go_wp2_with (at_builtin; refine wpList_append_own _ rfl _ _ 45 rfl w.heap.size 5 i_u8 (.int .u8 0) 1 1 Tryd.underlying45 hi_u8 hz0_u8 hz1_u8 hz2_u8 rfl (by decide) _ _ _ rfl (hov.row.alloc _) ⟨wr.heap.size, 0, none⟩ 1 1 [.int .u8 X.toNat] rfl rfl one_new one_cell (by unfold maxLen; omega) (by omega) (by simp; omega) ?_)
        intro v' w5 hown' hgrow _
        have hb' := grow_below hsz hov.row hbl hgrow
        have ho' := own_next hown' hlen.symm
        rw [← HJ.out] at ho'
        clear hown' hgrow hov hbl HJ
        go_wp2
        go_roundw
        case rel => exact ⟨j + 1, rfl, by omega, by omega, ho', hb'⟩
        case measure => simp [RowKit.intOf]; omega
    · have hres : Hid (((zs.take j).map fun n => dgB big (n % base)) = dgL base big zs) := by
        show _ = _
        unfold dgL
        by_cases q : j = 40
        · rw [q]
        · have : j = n := by omega
          rw [List.take_of_length_le (by omega), List.take_of_length_le (by omega)]
      obtain ⟨a2, n2, c2, rfl, hcv⟩ := conv9b hov
      rw [hres.out] at hcv
      have HB2 : Hid (Below w.heap.size w wr) := hbl
      clear hov hbl hres
      by_cases q1 : j < n
      · have d1 : decide ((j : Int) < (n : Int)) = true := by simp; omega
        have d2 : decide ((j : Int) < 40) = false := by simp; omega
        go_wp2
        go_ret
        exact ⟨rfl, HB2.out⟩
      · have d1 : decide ((j : Int) < (n : Int)) = false := by simp; omega
        go_wp2
        go_ret
        exact ⟨rfl, HB2.out⟩
namespace Lx
/-- a digit -/
def dg1 (n : Nat) : UInt8 := UInt8.ofNat (48 + n)
/-- a number's digits -/
def decF : Nat → Nat → B
  | 0, n => [dg1 n]
  | f + 1, n => if n < 10 then [dg1 n] else decF f (n / 10) ++ [dg1 (n % 10)]
theorem dig_D {n : Nat} (h : n < 10) : isD (dg1 n) = true ∧ (dg1 n).toNat = 48 + n := by
  have : (dg1 n).toNat = 48 + n := by unfold dg1; rw [UInt8.toNat_ofNat']; omega
  refine ⟨?_, this⟩
  unfold isD
  rw [this]
  simp
  omega
theorem one_D {n : Nat} (h : n < 10) : [dg1 n].all isD = true ∧ [dg1 n] ≠ [] ∧ [dg1 n].length = 1 := ⟨by rw [List.all_cons, (dig_D h).1]; rfl, List.cons_ne_nil _ _, rfl⟩
theorem decF_D (f : Nat) : ∀ n, n < 10 ^ (f + 1) → (decF f n).all isD = true ∧ decF f n ≠ [] ∧ (decF f n).length ≤ f + 1 := by
  induction f with
  | zero =>
    intro n h
    have hn : n < 10 := by simpa using h
    obtain ⟨a, b, c⟩ := one_D hn
    exact ⟨a, b, Nat.le_of_eq c⟩
  | succ f ih =>
    intro n h
    unfold decF
    by_cases hn : n < 10
    · rw [if_pos hn]
      obtain ⟨a, b, c⟩ := one_D hn
      exact ⟨a, b, by rw [c]; omega⟩
    · rw [if_neg hn]
      have hq : n / 10 < 10 ^ (f + 1) := by rw [Nat.pow_succ] at h; omega
      obtain ⟨a, b, c⟩ := ih (n / 10) hq
      obtain ⟨a', b', c'⟩ := one_D (Nat.mod_lt n (show 0 < 10 by omega))
      refine ⟨by rw [List.all_append, a, a']; rfl, by simp, by rw [List.length_append, c']; omega⟩
theorem step_one {m : Int} {n : Nat} (h : n < 10) (hm : m < 2147483648) : [dg1 n].foldl stepP m = 10 * m + (n : Int) := by
  show stepP m (dg1 n) = _
  unfold stepP
  rw [if_pos hm, (dig_D h).2]
  omega
theorem decF_val (f : Nat) : ∀ n, n < 10 ^ (f + 1) → n < 1000000000 → (decF f n).foldl stepP 0 = (n : Int) := by
  induction f with
  | zero =>
    intro n h _
    have hn : n < 10 := by simpa using h
    have := step_one (m := 0) hn (by omega)
    unfold decF
    omega
  | succ f ih =>
    intro n h hb
    unfold decF
    by_cases hn : n < 10
    · rw [if_pos hn]
      have := step_one (m := 0) hn (by omega)
      omega
    · rw [if_neg hn, List.foldl_append]
      have hq : n / 10 < 10 ^ (f + 1) := by rw [Nat.pow_succ] at h; omega
      rw [ih (n / 10) hq (by omega), step_one (Nat.mod_lt n (show 0 < 10 by omega)) (by omega)]
      omega
end Lx
theorem conv_one (w : World) (x : UInt8) : (convert 45 9 (.slice (some ⟨w.heap.size, 0, none⟩) 1 1)).run Tryd.prog (w.alloc (.cells #[.int .u8 (x.toNat : Int)] 5)) = .ok (.string (str [x])) (w.alloc (.cells #[.int .u8 (x.toNat : Int)] 5)) := by
  refine run_convert_bytes_back (P := Tryd.prog) _ 45 9 5 ⟨w.heap.size, 0, none⟩ 1 [x] Tryd.underlying45 Tryd.underlying5 Tryd.underlying9 (fun j hj => ?_)
  have hj0 : j = 0 := by simp at hj; omega
  subst hj0
  have ea : (⟨w.heap.size, 0, none⟩ : Addr).add 0 = ⟨w.heap.size, 0, none⟩ := by simp [Addr.add]
  rw [ea]
  exact (Bk.new w 5 #[.int .u8 (x.toNat : Int)]).cell 0 rfl
theorem conv_at9 {w : World} {g : Nat} (x : UInt8) (h : Bk w g 5 #[.int .u8 (x.toNat : Int)]) : (convert 45 9 (.slice (some ⟨g, 0, none⟩) 1 1)).run Tryd.prog w = .ok (.string (str [x])) w := by
  refine run_convert_bytes_back (P := Tryd.prog) _ 45 9 5 ⟨g, 0, none⟩ 1 [x] Tryd.underlying45 Tryd.underlying5 Tryd.underlying9 (fun j hj => ?_)
  have hj0 : j = 0 := by simp at hj; omega
  subst hj0
  have ea : (⟨g, 0, none⟩ : Addr).add 0 = ⟨g, 0, none⟩ := by simp [Addr.add]
  rw [ea]
  exact h.cell 0 rfl
set_option maxHeartbeats 3200000 in
set_option maxRecDepth 100000 in
theorem number9_small {n : Nat} (hn : n < 10) (w : World) :
    Calls Tryd.prog 22 #[.int .i64 (n : Int)] w fun e w' => e = .returned (.string (str [dg1 n])) ∧ Below w.heap.size w w' := by
  have d : decide ((n : Int) < 10) = true := by simp; omega
  have hx := (dig_D hn).2
  have hc := conv_one w (dg1 n)
  rw [hx] at hc
  have e : ((48 + n : Nat) : Int) = 48 + (n : Int) := by omega
  rw [e] at hc
  have hb := alloc_below (w := w) (.cells #[.int .u8 (48 + (n : Int))] 5)
  have hi : (n : Int) < 10 := by omega
  clear hx e
  generalize str [dg1 n] = X at *
  go_enter Tryd.func22, Tryd.ntmps22
  go_wp2
  go_ret
  exact ⟨rfl, hb⟩
set_option maxHeartbeats 3200000 in
set_option maxRecDepth 100000 in
theorem number9_step {n : Nat} (hn : 10 ≤ n) (hb : n < 1000000) {l : B} (hl : l.length ≤ 100) (w : World) (hN : ∀ w, Calls Tryd.prog 22 #[.int .i64 ((n / 10 : Nat) : Int)] w fun e w' => e = .returned (.string (str l)) ∧ Below w.heap.size w w') :
    Calls Tryd.prog 22 #[.int .i64 (n : Int)] w fun e w' => e = .returned (.string (str (l ++ [dg1 (n % 10)]))) ∧ Below w.heap.size w w' := by
  have d : decide ((n : Int) < 10) = false := by simp; omega
  have hx := (dig_D (Nat.mod_lt n (show 0 < 10 by omega))).2
  have hc := fun w => conv_one w (dg1 (n % 10))
  have hcL := fun (w0 w' : World) (hb : Below (w0.alloc (.cells #[.int .u8 ((dg1 (n % 10)).toNat : Int)] 5)).heap.size (w0.alloc (.cells #[.int .u8 ((dg1 (n % 10)).toNat : Int)] 5)) w') => conv_at9 (dg1 (n % 10)) ((Bk.new w0 5 #[.int .u8 ((dg1 (n % 10)).toNat : Int)]).later hb)
  have hcD : (convert 45 9 (.slice (some ⟨w.heap.size, 0, none⟩) 1 1)).run Tryd.prog (w.alloc (.cells #[.int .u8 ((dg1 (n % 10)).toNat : Int)] 5)).drew = .ok (.string (str [dg1 (n % 10)])) (w.alloc (.cells #[.int .u8 ((dg1 (n % 10)).toNat : Int)] 5)).drew := conv_at9 (dg1 (n % 10)) (Bk.new w 5 #[.int .u8 ((dg1 (n % 10)).toNat : Int)])
  rw [hx] at hc hcL hcD
  have e1 : ((n : Int)).tdiv 10 = ((n / 10 : Nat) : Int) := by rw [Int.tdiv_eq_ediv_of_nonneg (by omega)]; omega
  have e2 : ((n : Int)).tmod 10 = ((n % 10 : Nat) : Int) := by rw [Int.tmod_eq_emod_of_nonneg (by omega)]; omega
  have hm : ((n % 10 : Nat) : Int) < 10 := by omega
  have hm0 : 0 ≤ ((n % 10 : Nat) : Int) := by omega
  have e : ((48 + n % 10 : Nat) : Int) = 48 + ((n % 10 : Nat) : Int) := by omega
  rw [e] at hc hcL hcD
  have HCL : Hid _ := hcL
  clear hcL
  have ht := (Nat.mod_lt n (show 0 < 10 by omega))
  have w1 : IntKind.i64.wrap ((n / 10 : Nat) : Int) = ((n / 10 : Nat) : Int) := by unfold IntKind.wrap; simp [IntKind.signed, IntKind.bits]; omega
  have w2 : IntKind.i64.wrap ((n % 10 : Nat) : Int) = ((n % 10 : Nat) : Int) := by unfold IntKind.wrap; simp [IntKind.signed, IntKind.bits]; omega
  have w3 : IntKind.i64.wrap (48 + ((n % 10 : Nat) : Int)) = 48 + ((n % 10 : Nat) : Int) := by unfold IntKind.wrap; simp [IntKind.signed, IntKind.bits]; omega
  have w4 : IntKind.u8.wrap (48 + ((n % 10 : Nat) : Int)) = 48 + ((n % 10 : Nat) : Int) := by unfold IntKind.wrap; simp [IntKind.signed, IntKind.bits]; omega
  have hcat : str l ++ str [dg1 (n % 10)] = str (l ++ [dg1 (n % 10)]) := cat_str9 _ _
  generalize ((n % 10 : Nat) : Int) = m at *
  generalize ((n / 10 : Nat) : Int) = q at *
  have b0 : Below w.heap.size w w.drew := ⟨rfl, rfl, rfl, Nat.le_refl _, fun _ _ => rfl⟩
  have b1 : Below w.heap.size w (w.alloc (.cells #[.int .u8 (48 + m)] 5)).drew := by
    have h := alloc_below (w := w) (.cells #[.int .u8 (48 + m)] 5)
    exact h.trans ⟨rfl, rfl, rfl, Nat.le_refl _, fun _ _ => rfl⟩
  generalize dg1 (n % 10) = x at *
  have hs1 : (str l).size = l.length := str_size l
  have hs2 : (str [x]).size = 1 := str_size [x]
  generalize str [x] = X at *
  generalize str (l ++ [x]) = Y at *
  generalize str l = L at *
  clear e hx
  go_enter Tryd.func22, Tryd.ntmps22
  go_wp2
  go_region_with (go_at_call 22; refine (hN _).mono ?_; rintro e wX ⟨rfl, hbX⟩; (try (have hcX : (convert 45 9 (.slice (some ⟨w.heap.size, 0, none⟩) 1 1)).run Tryd.prog wX = .ok (.string X) wX := HCL.out w.drew wX hbX)))
  all_goals
    go_wp2
    go_ret
    first
      | exact ⟨rfl, ((b0.trans (hbX.mono b0.size))).alloc (Nat.le_trans b0.size hbX.size) _⟩
      | exact ⟨rfl, b1.trans (hbX.mono b1.size)⟩
theorem number9_any (f : Nat) (hf : f ≤ 5) : ∀ (n : Nat), n < 10 ^ (f + 1) → n < 1000000 → ∀ w, Calls Tryd.prog 22 #[.int .i64 (n : Int)] w fun e w' => e = .returned (.string (str (decF f n))) ∧ Below w.heap.size w w' := by
  induction f with
  | zero =>
    intro n h _ w
    exact number9_small (by simpa using h) w
  | succ f ih =>
    intro n h hb w
    unfold decF
    by_cases hn : n < 10
    · rw [if_pos hn]; exact number9_small hn w
    · rw [if_neg hn]
      have hq : n / 10 < 10 ^ (f + 1) := by rw [Nat.pow_succ] at h; omega
      exact number9_step (by omega) hb (by have := (decF_D f (n / 10) hq).2.2; omega) w (fun w => ih (by omega) (n / 10) hq (by omega) w)
end Go.Proofs.YtiicphkpmdidaaaDoor

/- plumblaw09: a piece as it is written, and what it says. -/
namespace Go.Proofs.YtiicphkpmdidaaaDoor
set_option linter.unusedVariables false
namespace Lx
def mdHead (k : Int) (h t : B) : B := if k = 2 then (if h = [] then [55] else h) else (if h = [] ∧ t = [] then [48] else h)
def mdTail (k : Int) (t : B) : B := if k = 2 then (if t = [] then [48, 50] else t) else t
def mdPt (t : B) (pt : Bool) : Bool := !t.isEmpty || pt
def mdExp (ne big : Bool) (k : Int) (x : B) : B := if k = 1 then (if big then 80 else 112) :: x else if ne = true then [] else (if big then 69 else 101) :: x
/-- the text -/
def mdS (k : Int) (s h t : B) (pt ne big : Bool) (x : B) : B :=
  if k = 2 then s ++ (mdHead k h t ++ (47 :: mdTail k t))
  else if k = 1 then s ++ (48 :: (if big then 88 else 120) :: (mdHead k h t ++ ((if mdPt t pt then 46 :: t else []) ++ mdExp ne big k x)))
  else s ++ (mdHead k h t ++ ((if mdPt t pt then 46 :: t else []) ++ mdExp ne big k x))
/-- what it says -/
def mdN (k : Int) (s h t : B) (ne : Bool) (e : Int) : Nm :=
  if k = 2 then ⟨3, decide (s = [45]), bareR (mdHead k h t), 0, bareR (mdTail k t)⟩
  else if k = 1 then ⟨2, decide (s = [45]), bareR (mdHead k h t ++ t), e - 4 * t.length, []⟩
  else ⟨1, decide (s = [45]), bareR (mdHead k h t ++ t), (if ne = true then -(t.length : Int) else e - t.length), []⟩
/-- an exponent as it is written -/
def exL (e : Int) (plus : Bool) : B := sgL e plus ++ decF 5 e.natAbs
theorem exL_ok {e : Int} (h : e.natAbs < 100000) (plus : Bool) : ExpoOk (exL e plus) ∧ exL e plus ≠ [] ∧ (exL e plus).length ≤ 7 := by
  obtain ⟨a, b, c⟩ := decF_D 5 e.natAbs (by omega)
  have hs := sgL_cases e plus
  refine ⟨Or.inr ⟨_, _, rfl, hs, b, a⟩, ?_, ?_⟩
  · unfold exL
    simp [b]
  · unfold exL
    rw [List.length_append]
    have : (sgL e plus).length ≤ 1 := by rcases hs with q | q | q <;> rw [q] <;> simp
    omega
theorem expo_of {sg ds : B} (hs : sg = [] ∨ sg = [43] ∨ sg = [45]) (hd : ds.all isD = true) (hn : ds ≠ []) : expoN (sg ++ ds) = (if sg = [45] then -(ds.foldl stepP 0) else ds.foldl stepP 0) := by
  obtain ⟨c, r, rfl⟩ : ∃ c r, ds = c :: r := by
    cases ds with
    | nil => exact absurd rfl hn
    | cons c r => exact ⟨c, r, rfl⟩
  have hc : isD c = true := by rw [List.all_cons] at hd; simp at hd; exact hd.1
  have hb := isD_bd hc
  have c43 : ([43, 45] : B).contains c = false := by
    have h1 : c ≠ 43 := fun q => by rw [q] at hb; simp at hb
    have h2 : c ≠ 45 := fun q => by rw [q] at hb; simp at hb
    simp [h1, h2]
  have c45 : ([45] : B).contains c = false := by
    have h2 : c ≠ 45 := fun q => by rw [q] at hb; simp at hb
    simp [h2]
  rcases hs with rfl | rfl | rfl
  · rw [List.nil_append, if_neg (by simp)]
    unfold expoN expD
    have f1 : fst [45] (c :: r) = false := c45
    rw [List.dropWhile_cons, c43, f1]
    rfl
  · rw [if_neg (by decide)]
    unfold expoN expD
    have f1 : fst [45] ([43] ++ (c :: r)) = false := rfl
    have f2 : ([43] ++ (c :: r)).dropWhile (fun b => ([43, 45] : B).contains b) = (c :: r) := by
      show ((43 : UInt8) :: c :: r).dropWhile (fun b => ([43, 45] : B).contains b) = _
      rw [List.dropWhile_cons, show ([43, 45] : B).contains 43 = true from rfl, if_pos rfl, List.dropWhile_cons, c43]
      rfl
    rw [f2, f1]
    rfl
  · rw [if_pos rfl]
    unfold expoN expD
    have f1 : fst [45] ([45] ++ (c :: r)) = true := rfl
    have f2 : ([45] ++ (c :: r)).dropWhile (fun b => ([43, 45] : B).contains b) = (c :: r) := by
      show ((45 : UInt8) :: c :: r).dropWhile (fun b => ([43, 45] : B).contains b) = _
      rw [List.dropWhile_cons, show ([43, 45] : B).contains 45 = true from rfl, if_pos rfl, List.dropWhile_cons, c43]
      rfl
    rw [f2, f1]
    rfl
theorem exL_val {e : Int} (h : e.natAbs < 100000) (plus : Bool) : expoN (exL e plus) = e := by
  obtain ⟨a, b, c⟩ := decF_D 5 e.natAbs (by omega)
  have hs := sgL_cases e plus
  have hv := decF_val 5 e.natAbs (by omega) (by omega)
  unfold exL
  rw [expo_of hs a b, hv]
  unfold sgL
  by_cases hn : e < 0
  · rw [if_pos hn, if_pos rfl]; omega
  · rw [if_neg hn]
    cases plus
    · simp; omega
    · simp; omega
theorem heldI_small {n : Int} (h0 : -1073741824 ≤ n) (h1 : n ≤ 1073741824) : heldI n = n := by
  unfold heldI
  split <;> split <;> omega
end Lx
end Go.Proofs.YtiicphkpmdidaaaDoor

/- plumblaw09: what is read where a piece is written. -/
namespace Go.Proofs.YtiicphkpmdidaaaDoor
set_option linter.unusedVariables false
namespace Lx
theorem strip_nil : strip [] = [] := rfl
theorem mdS_0 {s h t x : B} {pt ne big : Bool} : mdS 0 s h t pt ne big x = s ++ (mdHead 0 h t ++ ((if mdPt t pt = true then 46 :: t else []) ++ mdExp ne big 0 x)) := rfl
theorem mdS_1 {s h t x : B} {pt ne big : Bool} : mdS 1 s h t pt ne big x = s ++ (48 :: (if big = true then 88 else 120) :: (mdHead 1 h t ++ ((if mdPt t pt = true then 46 :: t else []) ++ mdExp ne big 1 x))) := rfl
theorem mdS_2 {s h t x : B} {pt ne big : Bool} : mdS 2 s h t pt ne big x = s ++ (mdHead 2 h t ++ (47 :: mdTail 2 t)) := rfl
theorem mdN_0 {s h t : B} {ne : Bool} {e : Int} : mdN 0 s h t ne e = ⟨1, decide (s = [45]), bareR (mdHead 0 h t ++ t), (if ne = true then -(t.length : Int) else e - t.length), []⟩ := rfl
theorem mdN_1 {s h t : B} {ne : Bool} {e : Int} : mdN 1 s h t ne e = ⟨2, decide (s = [45]), bareR (mdHead 1 h t ++ t), e - 4 * t.length, []⟩ := rfl
theorem mdN_2 {s h t : B} {ne : Bool} {e : Int} : mdN 2 s h t ne e = ⟨3, decide (s = [45]), bareR (mdHead 2 h t), 0, bareR (mdTail 2 t)⟩ := rfl
theorem made_read {k : Int} (hk : k = 0 ∨ k = 1 ∨ k = 2) {s h t x rest : B} {pt ne big : Bool} {e : Int} (hs : s = [] ∨ s = [43] ∨ s = [45])
    (hh : h.all isH = true) (ht : t.all isH = true) (hd : k ≠ 1 → h.all isD = true ∧ t.all isD = true) (hx : ExpoOk x) (hxn : x ≠ []) (hev : expoN x = e) (he : e.natAbs < 100000) (hl : t.length ≤ 40) (hr : Stops rest) :
    (longestL (mdS k s h t pt ne big x ++ rest)).kind ≠ 0 ∧ (longestL (mdS k s h t pt ne big x ++ rest)).stop = (mdS k s h t pt ne big x).length ∧ numOf (longestL (mdS k s h t pt ne big x ++ rest)) = mdN k s h t ne e := by
  have hpt : mdPt t pt = false → t = [] := by
    intro q
    unfold mdPt at q
    cases t with
    | nil => rfl
    | cons a b => simp at q
  rcases hk with rfl | rfl | rfl
  · obtain ⟨hD, tD⟩ := hd (by omega)
    have eh : mdHead 0 h t = if h = [] ∧ t = [] then [48] else h := by unfold mdHead; rw [if_neg (by omega)]
    have hD' : (mdHead 0 h t).all isD = true := by rw [eh]; split; rfl; exact hD
    have hne : ¬ (mdHead 0 h t = [] ∧ t = []) := by rw [eh]; split; simp; assumption
    have hxw : ExpW [101, 69] (mdExp ne big 0 x) := by
      unfold mdExp
      rw [if_neg (by omega)]
      cases ne
      · refine Or.inr ⟨_, x, rfl, ?_, hxn, hx⟩
        cases big <;> rfl
      · exact Or.inl rfl
    have eS : mdS 0 s h t pt ne big x ++ rest = s ++ (mdHead 0 h t ++ ((if mdPt t pt = true then 46 :: t else []) ++ (mdExp ne big 0 x ++ rest))) := by
      rw [mdS_0]
      simp only [List.append_assoc]
    have key := longest_dec (pt := mdPt t pt) hs hD' tD hne hpt hxw hr
    rw [eS, key]
    have hHH : (mdHead 0 h t ++ t).all isH = true := by rw [List.all_append, all_mono (fun _ => isH_of) hD', ht]; rfl
    refine ⟨by simp, ?_, ?_⟩
    · show _ = (mdS 0 s h t pt ne big x).length
      rw [mdS_0]
      show _ = (_ : Nat)
      simp only [List.length_append]
      split <;> simp <;> omega
    · rw [mdN_0]
      unfold numOf
      show Nm.mk 1 (decide (s = [45])) (strip (mdHead 0 h t ++ t)) (if (1 : Int) = 1 then heldI (expoN (mdExp ne big 0 x).tail - t.length) else _) (strip []) = _
      rw [strip_same hHH, if_pos rfl, strip_nil]
      congr 1
      unfold mdExp
      rw [if_neg (by omega)]
      cases ne
      · show heldI (expoN x - _) = e - _
        rw [hev, heldI_small (by omega) (by omega)]
      · rw [if_pos rfl, if_pos rfl]
        show heldI (0 - _) = _
        rw [heldI_small (by omega) (by omega)]
        omega
  · have eh : mdHead 1 h t = if h = [] ∧ t = [] then [48] else h := by unfold mdHead; rw [if_neg (by omega)]
    have hH' : (mdHead 1 h t).all isH = true := by rw [eh]; split; rfl; exact hh
    have hne : ¬ (mdHead 1 h t = [] ∧ t = []) := by rw [eh]; split; simp; assumption
    have hxw : ExpW [112, 80] (mdExp ne big 1 x) := by
      unfold mdExp
      rw [if_pos rfl]
      refine Or.inr ⟨_, x, rfl, ?_, hxn, hx⟩
      cases big <;> rfl
    have hx0 : mdExp ne big 1 x ≠ [] := by unfold mdExp; rw [if_pos rfl]; exact List.cons_ne_nil _ _
    have eS : mdS 1 s h t pt ne big x ++ rest = s ++ (48 :: (if big = true then 88 else 120) :: (mdHead 1 h t ++ ((if mdPt t pt = true then 46 :: t else []) ++ (mdExp ne big 1 x ++ rest)))) := by
      rw [mdS_1]
      simp only [List.append_assoc, List.cons_append]
    have key := longest_hex (pt := mdPt t pt) (x := if big = true then 88 else 120) hs (by cases big; exact Or.inl rfl; exact Or.inr rfl) hH' ht hne hpt hxw hx0 hr
    rw [eS, key]
    have hHH : (mdHead 1 h t ++ t).all isH = true := by rw [List.all_append, hH', ht]; rfl
    refine ⟨by simp, ?_, ?_⟩
    · show _ = (mdS 1 s h t pt ne big x).length
      rw [mdS_1]
      show _ = (_ : Nat)
      simp only [List.length_append, List.length_cons]
      split <;> simp <;> omega
    · rw [mdN_1]
      unfold numOf
      show Nm.mk 2 (decide (s = [45])) (strip (mdHead 1 h t ++ t)) (if (2 : Int) = 1 then _ else if (2 : Int) = 2 then heldI (expoN (mdExp ne big 1 x).tail - 4 * t.length) else _) (strip []) = _
      rw [strip_same hHH, if_neg (by omega), if_pos rfl, strip_nil]
      congr 1
      unfold mdExp
      rw [if_pos rfl]
      show heldI (expoN x - _) = _
      rw [hev, heldI_small (by omega) (by omega)]
  · obtain ⟨hD, tD⟩ := hd (by omega)
    have eh : mdHead 2 h t = if h = [] then [55] else h := by unfold mdHead; rw [if_pos rfl]
    have et : mdTail 2 t = if t = [] then [48, 50] else t := by unfold mdTail; rw [if_pos rfl]
    have hD' : (mdHead 2 h t).all isD = true := by rw [eh]; split; rfl; exact hD
    have tD' : (mdTail 2 t).all isD = true := by rw [et]; split; rfl; exact tD
    have hne : mdHead 2 h t ≠ [] := by rw [eh]; split; simp; assumption
    have tne : mdTail 2 t ≠ [] := by rw [et]; split; simp; assumption
    have eS : mdS 2 s h t pt ne big x ++ rest = s ++ (mdHead 2 h t ++ (47 :: (mdTail 2 t ++ rest))) := by
      rw [mdS_2]
      simp only [List.append_assoc, List.cons_append]
    have key := longest_rat hs hD' tD' hne tne hr
    rw [eS, key]
    refine ⟨by simp, ?_, ?_⟩
    · show _ = (mdS 2 s h t pt ne big x).length
      rw [mdS_2]
      show _ = (_ : Nat)
      simp only [List.length_append, List.length_cons]
      omega
    · rw [mdN_2]
      unfold numOf
      show Nm.mk 3 (decide (s = [45])) (strip (mdHead 2 h t ++ [])) (if (3 : Int) = 1 then _ else if (3 : Int) = 2 then _ else 0) (strip (mdTail 2 t)) = _
      rw [List.append_nil, strip_same (all_mono (fun _ => isH_of) hD'), strip_same (all_mono (fun _ => isH_of) tD'), if_neg (by omega), if_neg (by omega)]
end Lx
end Go.Proofs.YtiicphkpmdidaaaDoor


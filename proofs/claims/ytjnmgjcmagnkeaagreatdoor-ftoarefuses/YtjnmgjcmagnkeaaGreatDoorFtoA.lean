/- Layer 14: ftoa: zeros, exponent; strconv.FormatUint. -/
import Derived.Test.YtjnmgjcmagnkeaaGreatDoorFtoHex
import Derived.Test.YtjnmgjcmagnkeaaGreatDoorFtoRen
import Derived.Test.YtjnmgjcmagnkeaaGreatDoorLexBase
import Derived.Test.YtjnmgjcmagnkeaaGreatDoorRyuB
import Derived.Lib.AppendIntMem
import Derived.Lib.ItoaLen
import Derived.Deep.RegionHeld3
namespace Go.Proofs.YtjnmgjcmagnkeaaGreatDoor
open Go.ChangeShapes Go.WideShapes Go.ChangeAt Go.RowKit
open Lx Go.Shelf
set_option linter.unusedVariables false
namespace Ft
abbrev PowTb (w : World) : Prop := Lib.TabIs Tryz.prog w "internal/strconv.uint64pow10" .u64 Lib.pow10Tab
theorem powTb_later {w w' : World} (h : PowTb w) (hb : Below w.heap.size w w') : PowTb w' := by
  cases hg : Tryz.prog.globalNamed "internal/strconv.uint64pow10" with
  | none =>
    unfold PowTb Lib.TabIs World.var? at h
    rw [hg] at h
    cases h
  | some g =>
    unfold PowTb Lib.TabIs World.var? at h ⊢
    rw [hg] at h ⊢
    simp only [Option.bind_some] at h ⊢
    have hlt : g < w.heap.size := by
      by_cases q : g < w.heap.size
      · exact q
      · rw [Array.getElem?_eq_none (Nat.le_of_not_lt q)] at h
        simp at h
    rw [hb.block g hlt]
    exact h
theorem rep_is (n : Nat) : Lib.repeatL [48] n = List.replicate n 48 := by
  induction n with
  | zero => rfl
  | succ n ih => rw [Lib.repeatL, ih, List.replicate_succ]; rfl
theorem catS (a b : B) : str a ++ str b = str (a ++ b) := by apply ByteArray.ext; simp [str]
/-- two texts, one behind the other, under a name -/
theorem catE (a b : ByteArray) : ∃ c : ByteArray, a ++ b = c ∧ c.size = a.size + b.size ∧ Hid (c.data.toList = a.data.toList ++ b.data.toList) := ⟨a ++ b, rfl, ByteArray.size_append, by show (a ++ b).data.toList = _; simp⟩
theorem str_eq {s : ByteArray} {l : B} (h : s.data.toList = l) : s = str l := by rw [← h, str_of]
theorem str_lit (l : B) : (ByteArray.mk l.toArray) = str l := rfl
end Ft
open Ft
theorem zeros14_any {n : Nat} (h : n ≤ 1000000) (w : World) :
    Calls Tryz.prog 68 #[.int .i64 (n : Int)] w fun e w' => e = .returned (.string (str (List.replicate n 48))) ∧ Below w.heap.size w w' := by
  have hR := fun w => Any.strings_Repeat lays3_105 layBuilderExtra3 (str [48]) n w (by omega) (by rw [str_size]; simp; omega)
  rw [str_list, rep_is] at hR
  go_enter Tryz.func68, Tryz.ntmps68
  go_wp2_with (go_at_call 98; refine (hR _).mono ?_; rintro e w' ⟨rfl, hb⟩)
  go_ret
  exact ⟨rfl, hb⟩
theorem itoa14 {n : Nat} (h1 : n ≤ 1073741824) (w : World) (hT : PowTb w) :
    Calls Tryz.prog 128 #[.int .i64 (n : Int)] w fun r w' => r = .returned (.string (str (Lib.decDigits n))) ∧ Below w.heap.size w w' := by
  refine (Any.strconv_Itoa lays3_171m (n : Int) (by omega) (by omega) w hT).mono ?_
  rintro r w' ⟨rfl, k, os, rfl⟩
  exact ⟨by rw [Lib.itoa_nonneg]; rfl, Go.Lib.below_grow _ w (Nat.le_refl _) k os⟩
namespace Ft
theorem dd_len {n : Nat} (h : n < 18446744073709551616) : (Lib.decDigits n).length ≤ 20 := by
  rw [Lib.decDigits_length]
  by_cases h1 : 1 ≤ n
  · have := Lib.numDigits_eq n h1 h
    split at this <;> omega
  · have : n = 0 := by omega
    subst this
    rw [Lib.nDigits_small (by omega)]; omega
end Ft
set_option maxHeartbeats 1600000 in
theorem exponent14_any {e : Int} {m : Nat} (h0 : -100000 ≤ e) (h1 : e ≤ 100000) (hm : m ≤ 10) (w : World) (hT : PowTb w) :
    Calls Tryz.prog 89 #[.int .i64 e, .int .i64 (m : Int)] w fun r w' => r = .returned (.string (str (exT e m))) ∧ Below w.heap.size w w' := by
  have hI := fun w h => itoa14 (n := e.natAbs) (by omega) w h
  have hl := dd_len (n := e.natAbs) (by omega)
  have hZ := fun w => zeros14_any (n := m - (Lib.decDigits e.natAbs).length) (by omega) w
  have hE : exT e m = (if e < 0 then 45 else 43) :: (List.replicate (m - (Lib.decDigits e.natAbs).length) 48 ++ Lib.decDigits e.natAbs) := rfl
  rw [hE]
  clear hE
  have hmx : ((m - (Lib.decDigits e.natAbs).length : Nat) : Int) = max ((m : Int) - ((Lib.decDigits e.natAbs).length : Int)) 0 := by omega
  rw [hmx] at hZ
  clear hmx
  have hR : (List.replicate (m - (Lib.decDigits e.natAbs).length) (48 : UInt8)).length ≤ 10 := by rw [List.length_replicate]; omega
  have ha : ((e.natAbs : Nat) : Int) = if e < 0 then -e else e := by split <;> omega
  rw [ha] at hI
  generalize Lib.decDigits e.natAbs = D at *
  generalize List.replicate (m - D.length) (48 : UInt8) = R at *
  have sD : (str D).size = D.length := str_size D
  have sR : (str R).size = R.length := str_size R
  clear ha
  by_cases hn : e < 0
  · rw [if_pos hn] at hI ⊢
    have c1 : ByteArray.mk #[45] ++ str R = str (45 :: R) := catS [45] R
    have c2 : str (45 :: R) ++ str D = str (45 :: (R ++ D)) := catS (45 :: R) D
    have s1 : (str (45 :: R)).size = R.length + 1 := str_size _
    go_enter Tryz.func89, Tryz.ntmps89
    go_wp2_with (first | (go_at_call 128; refine (hI _ hT).mono ?_; rintro r w1 ⟨rfl, hb1⟩) | (go_at_call 68; refine (hZ _).mono ?_; rintro r w2 ⟨rfl, hb2⟩))
    go_ret
    exact ⟨rfl, hb1.trans (hb2.mono hb1.size)⟩
  · rw [if_neg hn] at hI ⊢
    have c1 : ByteArray.mk #[43] ++ str R = str (43 :: R) := catS [43] R
    have c2 : str (43 :: R) ++ str D = str (43 :: (R ++ D)) := catS (43 :: R) D
    have s1 : (str (43 :: R)).size = R.length + 1 := str_size _
    go_enter Tryz.func89, Tryz.ntmps89
    go_wp2_with (first | (go_at_call 128; refine (hI _ hT).mono ?_; rintro r w1 ⟨rfl, hb1⟩) | (go_at_call 68; refine (hZ _).mono ?_; rintro r w2 ⟨rfl, hb2⟩))
    go_ret
    exact ⟨rfl, hb1.trans (hb2.mono hb1.size)⟩
set_option maxHeartbeats 6400000 in
set_option maxRecDepth 100000 in
theorem fmtUintI {u : Nat} (hu1 : 1 ≤ u) (hu64 : u < 18446744073709551616) (w : World) (htab : PowTb w) :
    Calls Tryz.prog 160 #[.int .u64 (u : Int), .int .i64 10] w fun e w' => e = .returned (.string (str (Lib.decDigits u))) ∧ Below w.heap.size w w' := by
  by_cases hs : u < 100
  · have hS := fun w => Any.internal_strconv_small { lays3_171m with } u hs w
    go_enter Tryz.func160, Tryz.ntmps160
    go_wp2_with (go_at_call 197; refine (hS _).mono ?_; rintro e w' ⟨rfl, rfl⟩)
    go_ret
    exact ⟨rfl, Below.refl _ _⟩
  · have hnd20 : Lib.nDigits u ≤ 20 := by have := Lib.numDigits_eq u hu1 hu64; split at this <;> omega
    have hal : Tryz.prog.arrayLen 208 = 24 := by simp [Program.arrayLen, Tryz.underlying208]
    have hsl : ∀ W, (Instr.sliceAt 208 (.pointer (some ⟨w.heap.size, 0, none⟩)) none (some (.int .i64 (Lib.nDigits u : Int))) none).run Tryz.prog W = .ok (.slice (some ⟨w.heap.size, 0, none⟩) (Lib.nDigits u) 24) W := fun W => by
      rw [run_sliceAt_array_h W 208 ⟨w.heap.size, 0, none⟩ (by simp [Program.arrayLen, Program.elem, Tryz.underlying208]) .i64 (Lib.nDigits u : Int) (by omega) (by rw [hal]; omega)]
      go_simp
    have hH0 := Lib.holds_zero0 w 208 (Lib.nDigits u) (by omega)
    have hfmt := Any.internal_strconv_formatBase10 { lays3_171m with } w.heap.size 0 24 u (Array.replicate (Lib.nDigits u) 0) (w.alloc (.cells Lib.zeros24 208)) hH0 (by rw [Array.size_replicate]; exact Lib.lt_pow_nDigits u) hu64 (by rw [Array.size_replicate]; omega)
    rw [Array.size_replicate] at hfmt
    have HH0 := Lib.hid hH0
    have hN := fun w h => Any.internal_strconv_numDigits { lays3_171m with } u hu1 hu64 w h
    clear hH0 hal
    go_enter Tryz.func160, Tryz.ntmps160
    go_wp2_with (first
      | (go_at_call 198; refine (hN _ (Lib.tabIs_alloc htab _)).mono ?_; rintro e w' ⟨rfl, rfl⟩))
    refine hfmt.mono ?_
    rintro e w' ⟨rfl, k, v', dk, rfl, hF⟩
    have hcv : (convert 45 9 (.slice (some ⟨w.heap.size, 0, none⟩) (Lib.nDigits u) 24)).run Tryz.prog ((Sort.putRow (fun (b : UInt8) => Value.int .u8 (b.toNat : Int)) (w.alloc (.cells Lib.zeros24 208)) w.heap.size 0 dk).drewN k) = .ok (.string ⟨(Lib.decDigits u).toArray⟩) ((Sort.putRow (fun (b : UInt8) => Value.int .u8 (b.toNat : Int)) (w.alloc (.cells Lib.zeros24 208)) w.heap.size 0 dk).drewN k) := by
      have h := run_convert_bytes_back (P := Tryz.prog) ((Sort.putRow (fun (b : UInt8) => Value.int .u8 (b.toNat : Int)) (w.alloc (.cells Lib.zeros24 208)) w.heap.size 0 dk).drewN k) 45 9 5 ⟨w.heap.size, 0, none⟩ 24 (Lib.decDigits u) Tryz.underlying45 Tryz.underlying5 Tryz.underlying9 (fun j hj => by
        rw [Lib.row_is_numeral hF j hj, Lib.add_plain, World.cell?_drewN]
        exact Sort.cell?_putRow (fun (b : UInt8) => Value.int .u8 (b.toNat : Int)) _ w.heap.size 0 _ dk HH0.out (by rw [hF.size, Array.size_replicate]) j (by rw [hF.size]; rw [Lib.decDigits_length] at hj; exact hj))
      rw [Lib.decDigits_length] at h
      exact h
    obtain ⟨os, eo⟩ := Lib.fin_at w (.cells Lib.zeros24 208) dk k 0
    have hB : Below w.heap.size w ((Sort.putRow (fun (b : UInt8) => Value.int .u8 (b.toNat : Int)) (w.alloc (.cells Lib.zeros24 208)) w.heap.size 0 dk).drewN k) := by rw [eo]; exact Lib.below_grow w.heap.size w (Nat.le_refl _) k os
    clear eo HH0 hfmt
    generalize (Sort.putRow (fun (b : UInt8) => Value.int .u8 (b.toNat : Int)) (w.alloc (.cells Lib.zeros24 208)) w.heap.size 0 dk).drewN k = W2 at *
    go_wp2
    go_ret
    exact ⟨rfl, hB⟩
theorem fmtUint14 {u : Nat} (hu1 : 1 ≤ u) (hu64 : u < 18446744073709551616) (w : World) (htab : PowTb w) :
    Calls Tryz.prog 126 #[.int .u64 (u : Int), .int .i64 10] w fun e w' => e = .returned (.string (str (Lib.decDigits u))) ∧ Below w.heap.size w w' := by
  have hF := fun w h => fmtUintI hu1 hu64 w h
  go_enter Tryz.func126, Tryz.ntmps126
  go_wp2_with (go_at_call 160; refine (hF _ htab).mono ?_; rintro e w' ⟨rfl, hb⟩)
  go_ret
  exact ⟨rfl, hb⟩
end Go.Proofs.YtjnmgjcmagnkeaaGreatDoor

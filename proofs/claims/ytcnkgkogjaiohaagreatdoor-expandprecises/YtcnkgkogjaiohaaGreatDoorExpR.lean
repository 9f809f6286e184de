/- Layer 13: the document's Precise; the walk of ExpandPrecises. -/
import Derived.Test.YtcnkgkogjaiohaaGreatDoorExpQ
namespace Go.Proofs.YtcnkgkogjaiohaaGreatDoor
open Go.ChangeShapes Go.WideShapes Go.ChangeAt Go.RowKit
open Na Ar Ep
set_option linter.unusedVariables false
namespace Ep
theorem dg_not0 {L N : Nat} (h : N % 10 ≠ 0) : ¬ dg L N = [48] := fun e => by
  have hl : L = 1 := by have := congrArg List.length e; rw [dg_len] at this; simpa using this
  subst hl
  have : dg 1 N = [] ++ [UInt8.ofNat (48 + N % 10)] := rfl
  rw [this] at e
  have e2 : UInt8.ofNat (48 + N % 10) = 48 := by simpa using e
  have e3 := congrArg UInt8.toNat e2
  rw [dch_nat (Nat.mod_lt _ (by omega))] at e3
  have e48 : (48 : UInt8).toNat = 48 := rfl
  omega
end Ep
set_option maxHeartbeats 3200000 in
set_option maxRecDepth 100000 in
theorem rprecise_fin {b : Int} {n : Nat} (hu : U b) (hf : ef b ≠ 2047) (h1 : 1 ≤ n) (hn : n ≤ 1100) (w : World) :
    Calls Tryz.prog 18 #[.int .u64 b, .int .i64 (n : Int)] w fun e w' => ∃ (D : Nat) (X : Int), Pz (szA b) n D X ∧ D < 10 ^ n ∧ e = .returned (.tuple #[.string ⟨(dg n D).toArray⟩, .int .i64 X, .int .i64 0]) ∧ Below w.heap.size w w' := by
  have hS := fun w => rdigits_fin hu hf w
  have z0 : (n : Int) ≤ 1100 := by omega
  have z1 : (1 : Int) ≤ n := by omega
  generalize szA b = A at *
  clear hf
  go_enter Tryz.func18, Tryz.ntmps18
  go_wp2_with fail
  refine (hS w).mono ?_
  rintro e w1 ⟨N, L, x, rfl, hD, hbd, hb1⟩
  rcases hD with ⟨hA, rfl, rfl, rfl⟩ | ⟨hA, hd⟩
  · have hZ := rzeros_any (n := n) (by omega) w1
    rw [← dg_zero] at hZ
    have hs0 : (⟨(dg 1 0).toArray⟩ : ByteArray) = ⟨#[48]⟩ := rfl
    have HZ : Hid (Pz A n 0 0 ∧ 0 < 10 ^ n) := ⟨Or.inl ⟨hA, rfl, rfl⟩, Nat.pow_pos (by omega)⟩
    rw [hs0]
    obtain ⟨DL, hDL⟩ : ∃ DL, DL = dg n 0 := ⟨_, rfl⟩
    rw [← hDL] at hZ
    have HDL : Hid (dg n 0 = DL) := hDL.symm
    clear hS hA hbd hs0 hDL
    go_wp2_with fail
    refine hZ.mono ?_
    rintro e w2 ⟨rfl, hb2⟩
    have hB2 := hb1.trans (hb2.mono hb1.size)
    go_wp2
    refine bodyPost_ret (v := .tuple #[.string ⟨DL.toArray⟩, .int .i64 0, .int .i64 0]) (by simp [results, Tryz.results18, go_sem]) rfl ?_
    exact ⟨0, 0, HZ.out.1, HZ.out.2, by rw [HDL.out], hB2⟩
  · have hR := fun w => rrounded_any (t := n) hd.L1 (by omega) (by omega) hd.hi w
    obtain ⟨s, hs⟩ : ∃ s : ByteArray, s = ⟨(dg L N).toArray⟩ := ⟨_, rfl⟩
    have hsl : s.data.toList = dg L N := by rw [hs]
    have hsz : s.size = L := by rw [Lib.size_eq, hsl]; exact dg_len L N
    have hn0 : (s.toList == [48]) = false := by
      rw [Lib.toList_data, hsl]
      exact beq_eq_false_iff_ne.2 (dg_not0 hd.last)
    have hn1 : ¬ s.toList = [48] := by
      rw [Lib.toList_data, hsl]
      exact dg_not0 hd.last
    rw [← hs] at hR ⊢
    have hrn := rn_le (n := n) hd.hi
    have hrow : rw13 L N n = dg (rl L N n) (rn L N n) := rfl
    rw [hrow] at hR
    have hL : (L : Int) ≤ 1300 := by omega
    have hx0 : -1100 ≤ x := by omega
    have hx1 : x ≤ 1300 := by omega
    by_cases hlt : rn L N n < 10 ^ n
    · have hl0 : rl L N n = n := by unfold rl; rw [if_pos hlt]
      rw [hl0] at hR
      have HZ : Hid (Pz A n (rn L N n) ((L : Int) + x - n) ∧ rn L N n < 10 ^ n) := ⟨Or.inr ⟨N, L, x, hA, hd, Or.inl ⟨hlt, rfl, rfl⟩⟩, hlt⟩
      obtain ⟨DL, hDL⟩ : ∃ DL, DL = dg n (rn L N n) := ⟨_, rfl⟩
      have hdl : (⟨DL.toArray⟩ : ByteArray).size = n := by rw [Lib.size_eq, hDL]; exact dg_len _ _
      have hdl2 : DL.length = n := by rw [hDL]; exact dg_len _ _
      rw [← hDL] at hR
      have HDL : Hid (dg n (rn L N n) = DL) := hDL.symm
      have HE : Hid (x + (L : Int) - (n : Int) = (L : Int) + x - (n : Int)) := by show _ = _; omega
      clear hS hs hsl hrn hrow hlt hl0 hDL hd hbd hA
      go_wp2_with fail
      refine (hR w1).mono ?_
      rintro e w2 ⟨rfl, hb2⟩
      have hB2 := hb1.trans (hb2.mono hb1.size)
      go_wp2
      refine bodyPost_ret (v := .tuple #[.string ⟨DL.toArray⟩, .int .i64 (x + (L : Int) - (n : Int)), .int .i64 0]) (by simp [results, Tryz.results18, go_sem]) rfl ?_
      exact ⟨_, _, HZ.out.1, HZ.out.2, by rw [HDL.out, HE.out], hB2⟩
    · have hl0 : rl L N n = n + 1 := by unfold rl; rw [if_neg hlt]
      have hr0 : rn L N n = 10 ^ n := by omega
      rw [hl0, hr0] at hR
      have h10 : (10 : Nat) ^ n / 10 ^ (n + 1 - n) = 10 ^ (n - 1) := by
        rw [Nat.add_sub_cancel_left, Nat.pow_one]
        obtain ⟨j, rfl⟩ : ∃ j, n = j + 1 := ⟨n - 1, by omega⟩
        rw [Nat.pow_succ, Nat.mul_div_cancel _ (by omega)]
        rfl
      have hlt2 : 10 ^ (n - 1) < 10 ^ n := Nat.pow_lt_pow_right (by omega) (by omega)
      have HZ : Hid (Pz A n (10 ^ (n - 1)) ((L : Int) + x - n + 1) ∧ 10 ^ (n - 1) < 10 ^ n) := ⟨Or.inr ⟨N, L, x, hA, hd, Or.inr ⟨hr0, rfl, rfl⟩⟩, hlt2⟩
      obtain ⟨DL, hDL⟩ : ∃ DL, DL = dg n (10 ^ (n - 1)) := ⟨_, rfl⟩
      obtain ⟨t, ht⟩ : ∃ t : ByteArray, t = ⟨(dg (n + 1) (10 ^ n)).toArray⟩ := ⟨_, rfl⟩
      have htl : t.data.toList = dg (n + 1) (10 ^ n) := by rw [ht]
      have htz : t.size = n + 1 := by rw [Lib.size_eq, htl]; exact dg_len _ _
      have hex : t.extract 0 n = ⟨DL.toArray⟩ := by rw [extract_take htl (by rw [dg_len]; omega), dg_take (by omega), h10, hDL]
      rw [← ht] at hR
      have HDL : Hid (dg n (10 ^ (n - 1)) = DL) := hDL.symm
      have HE : Hid (x + (L : Int) - (n : Int) + 1 = (L : Int) + x - (n : Int) + 1) := by show _ = _; omega
      have q4 : ((n : Int) < ((n + 1 : Nat) : Int)) := by omega
      clear hS hs hsl hrn hrow hlt hl0 hDL hd hbd hA hr0 h10 hlt2 htl ht
      go_wp2_with fail
      refine (hR w1).mono ?_
      rintro e w2 ⟨rfl, hb2⟩
      have hB2 := hb1.trans (hb2.mono hb1.size)
      go_wp2
      refine bodyPost_ret (v := .tuple #[.string ⟨DL.toArray⟩, .int .i64 (x + (L : Int) - (n : Int) + 1), .int .i64 0]) (by simp [results, Tryz.results18, go_sem]) rfl ?_
      exact ⟨_, _, HZ.out.1, HZ.out.2, by rw [HDL.out, HE.out], hB2⟩
set_option maxHeartbeats 1600000 in
set_option maxRecDepth 100000 in
theorem rprecise_inf {b : Int} {n : Nat} (hu : U b) (hf : ef b = 2047) (h1 : 1 ≤ n) (hn : n ≤ 1100) (w : World) :
    Calls Tryz.prog 18 #[.int .u64 b, .int .i64 (n : Int)] w fun e w' => e = .returned (.tuple #[.string ⟨#[]⟩, .int .i64 0, .int .i64 60]) ∧ Below w.heap.size w w' := by
  have hS := fun w => rdigits_inf hu hf w
  have z0 : (n : Int) ≤ 1100 := by omega
  have z1 : (1 : Int) ≤ n := by omega
  go_enter Tryz.func18, Tryz.ntmps18
  go_wp2_with fail
  refine (hS w).mono ?_
  rintro e w1 ⟨rfl, hb1⟩
  go_wp2
  refine bodyPost_ret (v := .tuple #[.string ⟨#[]⟩, .int .i64 0, .int .i64 60]) (by simp [results, Tryz.results18, go_sem]) rfl ?_
  exact ⟨rfl, hb1⟩
set_option maxHeartbeats 1600000 in
set_option maxRecDepth 100000 in
theorem rprecise_bad {b n : Int} (hn : n < 1 ∨ 1100 < n) (w : World) :
    Calls Tryz.prog 18 #[.int .u64 b, .int .i64 n] w fun e w' => e = .returned (.tuple #[.string ⟨#[]⟩, .int .i64 0, .int .i64 130]) ∧ Below w.heap.size w w' := by
  rcases hn with hn | hn
  all_goals
    go_enter Tryz.func18, Tryz.ntmps18
    go_wp2
    first
      | (refine bodyPost_ret (v := .tuple #[.string ⟨#[]⟩, .int .i64 0, .int .i64 130]) (by simp [results, Tryz.results18, go_sem]) rfl ?_
         exact ⟨rfl, Below.refl _ _⟩)
set_option maxHeartbeats 1600000 in
set_option maxRecDepth 100000 in
theorem precises_go {b n0 : Int} {s : ByteArray} {X E : Int} (h1 : ∀ w, Calls Tryz.prog 17 #[.int .u64 b, .int .i64 n0] w fun e w' => e = .returned (.tuple #[.string s, .int .i64 X, .int .i64 E]) ∧ Below w.heap.size w w')
    (h2 : ∀ w, Calls Tryz.prog 18 #[.int .u64 b, .int .i64 n0] w fun e w' => e = .returned (.tuple #[.string s, .int .i64 X, .int .i64 E]) ∧ Below w.heap.size w w') (hE : -1000 ≤ E ∧ E ≤ 1000) {w : World} :
    Calls Tryz.prog 5 #[.int .u64 b, .int .i64 n0] w fun r w' => r = .returned (.bool true) ∧ Below w.heap.size w w' := by
  have hA := alive13_any
  go_enter Tryz.func5, Tryz.ntmps5
  go_wp2_with fail
  refine (h1 w).mono ?_
  rintro e w1 ⟨rfl, hb1⟩
  go_wp2_with fail
  refine (h2 w1).mono ?_
  rintro e w2 ⟨rfl, hb2⟩
  have hB2 := hb1.trans (hb2.mono hb1.size)
  go_wp2_with fail
  refine (hA w2).mono ?_
  rintro e w3 ⟨rfl, hb3⟩
  have hB3 := hB2.trans (hb3.mono hB2.size)
  go_wp2
  go_ret
  exact ⟨rfl, hB3⟩
theorem precises_walk {b n0 : Int} (hu : U b) (i0 : -9223372036854775808 ≤ n0) (i1 : n0 ≤ 9223372036854775807) {w : World} :
    Calls Tryz.prog 5 #[.int .u64 b, .int .i64 n0] w fun r w' => r = .returned (.bool true) ∧ Below w.heap.size w w' := by
  by_cases hn : n0 < 1 ∨ 1100 < n0
  · exact precises_go (fun w => precise_bad hn w) (fun w => rprecise_bad hn w) (by omega)
  · obtain ⟨n, rfl⟩ := Int.eq_ofNat_of_zero_le (show 0 ≤ n0 by omega)
    by_cases hf : ef b = 2047
    · exact precises_go (fun w => precise_inf hu hf (by omega) (by omega) w) (fun w => rprecise_inf hu hf (by omega) (by omega) w) (by omega)
    · obtain ⟨D, X, hP⟩ : ∃ D X, Pz (szA b) n D X := by
        by_cases h0 : szA b = 0
        · exact ⟨0, 0, Or.inl ⟨h0, rfl, rfl⟩⟩
        · obtain ⟨N, L, x, hd⟩ := dec_ex (A := szA b) (by omega)
          have := rn_le (n := n) hd.hi
          by_cases q : rn L N n < 10 ^ n
          · exact ⟨_, _, Or.inr ⟨N, L, x, by omega, hd, Or.inl ⟨q, rfl, rfl⟩⟩⟩
          · exact ⟨_, _, Or.inr ⟨N, L, x, by omega, hd, Or.inr ⟨by omega, rfl, rfl⟩⟩⟩
      refine precises_go (s := ⟨(dg n D).toArray⟩) (X := X) (E := 0) (fun w => ?_) (fun w => ?_) (by omega)
      · refine (precise_fin hu hf (by omega) (by omega) w).mono ?_
        rintro e w' ⟨D', X', h1, _, rfl, hb⟩
        obtain ⟨rfl, rfl⟩ := pz_uniq h1 hP
        exact ⟨rfl, hb⟩
      · refine (rprecise_fin hu hf (by omega) (by omega) w).mono ?_
        rintro e w' ⟨D', X', h1, _, rfl, hb⟩
        obtain ⟨rfl, rfl⟩ := pz_uniq h1 hP
        exact ⟨rfl, hb⟩
end Go.Proofs.YtcnkgkogjaiohaaGreatDoor

/- Layer 13: Fixed. -/
import Derived.Test.YtceecgklgkiffaaGreatDoorExpF
namespace Go.Proofs.YtceecgklgkiffaaGreatDoor
open Go.ChangeShapes Go.WideShapes Go.ChangeAt Go.RowKit
open Na Ar Ep
set_option linter.unusedVariables false
namespace Ep
theorem fxR_zero (n : Nat) : fxR 0 n = 0 := by
  unfold fxR rq up
  rw [Nat.zero_mul, Nat.zero_mod, Nat.zero_div, decide_eq_false (by omega), decide_eq_false (p := 2 * 0 = dT) (by have := dT_pos; omega)]
  rfl
/-- how Fixed rounds: which row, how long -/
theorem fix_plan {A N L n : Nat} {x : Int} (h : Dz A N L x) (hL : 1 ≤ L ∧ L ≤ 1300 ∧ -1100 ≤ x ∧ x ≤ 1300) (hn : n ≤ 1100) :
    ∃ l, l ≤ 4000 ∧ fxR A n < 10 ^ l ∧ Mok (fxR A n) n (max l (n + 1)) ∧ (((L : Int) + x + n < 0 ∧ l = 0 ∧ fxR A n = 0) ∨ ∃ T : Nat, T ≤ 4000 ∧ (L : Int) + x + n = T ∧ rw13 L N T = dg l (fxR A n) ∧ N < 10 ^ L ∧ (N % 10 ≠ 0 ∨ L ≤ T)) := by
  rcases h with ⟨rfl, rfl, rfl, rfl⟩ | ⟨h0, hd⟩
  · rw [fxR_zero]
    have p := Nat.pow_pos (n := n + 1) (show 0 < 10 by omega)
    refine ⟨n + 1, by omega, p, Or.inl ⟨by omega, p⟩, Or.inr ⟨n + 1, by omega, by omega, ?_, by omega, Or.inr (by omega)⟩⟩
    unfold rw13
    have : rn 1 0 (n + 1) = 0 := by unfold rn; rw [if_pos (by omega), Nat.zero_mul]
    rw [this, if_pos p]
  · obtain ⟨f1, f2⟩ := dec_fixed (n := n) hd
    by_cases hneg : (L : Int) + x + n < 0
    · have := f2 hneg
      rw [this]
      exact ⟨0, by omega, by omega, Or.inl ⟨by omega, Nat.pow_pos (by omega)⟩, Or.inl ⟨hneg, rfl, rfl⟩⟩
    · obtain ⟨T, hT⟩ : ∃ T : Nat, (L : Int) + x + n = T := ⟨((L : Int) + x + n).toNat, by omega⟩
      have hr := f1 T hT
      have hf := rl_fits (t := T) hd.hi
      have hm := mok_of (t := T) (n := n) hd.L1 hd.lo hd.hi
      rw [hr] at hf hm
      refine ⟨rl L N T, by omega, hf.1, hm, Or.inr ⟨T, by omega, hT, ?_, hd.hi, Or.inl hd.last⟩⟩
      unfold rw13 rl
      rw [hr]
theorem ptL_len {M W n : Nat} (h : n + 1 ≤ M) : (ptL M W n).length ≤ M + 1 := by
  unfold ptL
  split
  · rw [dg_len]; omega
  · rw [List.length_append, List.length_cons, dg_len, dg_len]; omega
def sgL (s : Bool) : List UInt8 := if s = true then [45] else []
theorem minus_app (l : List UInt8) : (⟨#[45]⟩ : ByteArray) ++ ⟨l.toArray⟩ = ⟨(sgL true ++ l).toArray⟩ := by
  apply ByteArray.ext
  simp [sgL]
end Ep
set_option maxHeartbeats 3200000 in
set_option maxRecDepth 100000 in
theorem fixed_fin {b : Int} {n : Nat} (hu : U b) (hf : ef b ≠ 2047) (hn : n ≤ 1100) (w : World) :
    Calls Tryz.prog 12 #[.int .u64 b, .int .i64 (n : Int)] w fun e w' => ∃ M, Mok (fxR (szA b) n) n M ∧ M ≤ 4000 ∧ e = .returned (.tuple #[.string ⟨(sgL (spS b) ++ ptL M (fxR (szA b) n) n).toArray⟩, .int .i64 0]) ∧ Below w.heap.size w w' := by
  have hS := fun w => sizeOf_fin hu hf w
  have hSp := fun w => f6Split_any hu w
  have z0 : (n : Int) ≤ 1100 := by omega
  have hE : fiE b = 0 := by unfold fiE; rw [if_neg hf]
  rw [hE] at hSp
  generalize szA b = A at *
  generalize spS b = sS at *
  clear hf hE
  go_enter Tryz.func12, Tryz.ntmps12
  go_wp2_with fail
  refine (hS w).mono ?_
  rintro e w1 ⟨B, c, N, L, x, rfl, hBg, hR, hD, hbd, hb1⟩
  obtain ⟨l, hl, hRl, hM, hrow⟩ := fix_plan hD hbd hn
  have hba := alloc_below (w := w1) (.cells #[.slice (some ⟨B, 0, none⟩) L c, .int .i64 x] 62)
  have sd := sd_new w1 (.slice (some ⟨B, 0, none⟩) L c) (.int .i64 x) 62
  have hR1 := hR.later hba
  have hB1 := hb1.trans (hba.mono hb1.size)
  obtain ⟨g, hg⟩ : ∃ g, g = w1.heap.size := ⟨_, rfl⟩
  obtain ⟨W, hW⟩ : ∃ W, W = w1.alloc (.cells #[.slice (some ⟨B, 0, none⟩) L c, .int .i64 x] 62) := ⟨_, rfl⟩
  rw [← hW] at sd hR1 hB1
  rw [← hg] at sd
  obtain ⟨R, hRR⟩ : ∃ R, R = fxR A n := ⟨_, rfl⟩
  rw [← hRR] at hM hRl hrow
  have HRR : Hid (fxR A n = R) := hRR.symm
  have hT : ∀ {w9 : World}, Below W.heap.size W w9 → Calls Tryz.prog 33 #[.agg #[.slice (some ⟨B, 0, none⟩) L c, .int .i64 x]] w9 fun e w' => e = .returned (.int .i64 ((L : Int) + x)) ∧ Below W.heap.size W w' := fun {w9} hb => (top13_any (by omega) (by omega) (by omega) w9).mono fun e w' h => ⟨h.1, hb.trans (h.2.mono hb.size)⟩
  have hRd : ∀ {w9 : World}, Below W.heap.size W w9 → Calls Tryz.prog 32 #[.slice (some ⟨B, 0, none⟩) L c, .int .i64 ((L : Int) + x + (n : Int))] w9 fun e w' => ∃ a' c', e = .returned (.slice a' l c') ∧ Rb w' a' l c' (dg l R) ∧ Below W.heap.size W w' := fun {w9} hb => by
    rcases hrow with ⟨t1, t2, t3⟩ | ⟨T, t1, t2, t3, t4, t5⟩
    · refine (rounded13_neg t1 w9).mono ?_
      rintro e w' ⟨rfl, rfl⟩
      subst t2
      exact ⟨none, 0, rfl, Rb.nil _ _ _ (by omega), hb⟩
    · rw [t2]
      refine (rounded13_any (hR1.later hb) hbd.1 (by omega) t1 t4 t5).mono ?_
      rintro e w' ⟨a', n', c', rfl, hr, hb'⟩
      rw [t3] at hr
      have := hr.len
      rw [dg_len] at this
      subst this
      exact ⟨a', c', rfl, hr, hb.trans (hb'.mono hb.size)⟩
  rw [show (L : Int) + x + (n : Int) = IntKind.i64.wrap ((L : Int) + x + (n : Int)) from (IntWalk.i64_in _ (by omega)).symm] at hRd
  have hPt : ∀ {w9 : World} {a : Option Addr} {c : Nat}, Rb w9 a l c (dg l R) → Below W.heap.size W w9 → Calls Tryz.prog 31 #[.slice a l c, .int .i64 (n : Int)] w9 fun e w' => e = .returned (.string ⟨(ptL (max l (n + 1)) R n).toArray⟩) ∧ Below W.heap.size W w' := fun {w9 a c} hr hb => (pointed13_any hr hRl hl (by omega) rfl).mono fun e w' h => ⟨h.1, hb.trans (h.2.mono hb.size)⟩
  have hcl : ∀ w', Below W.heap.size W w' → w'.cell? ⟨g, 0, none⟩ = some (.slice (some ⟨B, 0, none⟩) L c) ∧ w'.cell? ⟨g, 1, none⟩ = some (.int .i64 x) := fun w' hb => (sd.later hb).cells
  obtain ⟨p0, p1⟩ := hcl W (Below.refl _ _)
  have q1 : (L : Int) ≤ 1300 := by omega
  have q2 : -1100 ≤ x := by omega
  have q3 : x ≤ 1300 := by omega
  have HMok : Hid (Mok (fxR A n) n (max l (n + 1))) := by show Mok _ _ _; rw [HRR.out]; exact hM
  have hlen : (ptL (max l (n + 1)) R n).length ≤ 5000 := by have := ptL_len (W := R) (n := n) (M := max l (n + 1)) (by omega); omega
  generalize hPP : ptL (max l (n + 1)) R n = PP at hPt hlen
  have HPP : Hid (ptL (max l (n + 1)) (fxR A n) n = PP) := by show _ = _; rw [HRR.out]; exact hPP
  have hg0 : g < W.heap.size := sd.lt
  clear hS hR hR1 hba hb1 sd hrow hRl hM hRR hPP hbd
  go_wp2_with fail
  rw [← hW, ← hg]
  clear hW hg
  go_region_held3 (fun w' => w'.cell? ⟨g, 0, none⟩ = some (.slice (some ⟨B, 0, none⟩) L c) ∧ w'.cell? ⟨g, 1, none⟩ = some (.int .i64 x)) (go_keep) (first | (go_at_call 33; refine (hT (by first | exact Below.refl _ _ | exact below_drewN (Below.refl _ _) _)).mono ?_; rintro r wA ⟨rfl, hbA⟩; obtain ⟨z1, z2⟩ := hcl wA hbA) | (go_at_call 32; refine (hRd (by first | exact hbA | exact below_drewN hbA _)).mono ?_; rintro r wB ⟨aB, cB, rfl, rB, hbB⟩; obtain ⟨z1, z2⟩ := hcl wB hbB) | (go_at_call 31; refine (hPt rB hbB).mono ?_; rintro r wC ⟨rfl, hbC⟩; obtain ⟨z1, z2⟩ := hcl wC hbC; have hBC := hB1.trans (hbC.mono hB1.size)))
  cases sS
  · have HPQ : Hid (sgL false ++ ptL (max l (n + 1)) (fxR A n) n = PP) := by show _ = _; rw [HPP.out]; rfl
    go_wp2_with (first | (go_at_call 34; refine (hSp _).mono ?_; rintro e w' ⟨rfl, rfl⟩))
    refine bodyPost_ret (v := .tuple #[.string ⟨PP.toArray⟩, .int .i64 0]) (by simp [results, Tryz.results12, go_sem]) rfl ?_
    exact ⟨_, HMok.out, by omega, by rw [HPQ.out], hBC⟩
  · have HPQ : Hid (sgL true ++ ptL (max l (n + 1)) (fxR A n) n = sgL true ++ PP) := by show _ = _; rw [HPP.out]
    have hmin := minus_app PP
    have hsz : ((⟨PP.toArray⟩ : ByteArray).size : Int) ≤ 5000 := by
      have : (⟨PP.toArray⟩ : ByteArray).size = PP.length := by rw [Lib.size_eq]
      omega
    have hsz2 : PP.toArray.size ≤ 5000 := by simpa using hlen
    generalize sgL true ++ PP = QQ at hmin HPQ
    go_wp2_with (first | (go_at_call 34; refine (hSp _).mono ?_; rintro e w' ⟨rfl, rfl⟩))
    refine bodyPost_ret (v := .tuple #[.string ⟨QQ.toArray⟩, .int .i64 0]) (by simp [results, Tryz.results12, go_sem]) rfl ?_
    exact ⟨_, HMok.out, by omega, by rw [HPQ.out], hBC⟩
set_option maxHeartbeats 1600000 in
set_option maxRecDepth 100000 in
theorem fixed_inf {b : Int} {n : Nat} (hu : U b) (hf : ef b = 2047) (hn : n ≤ 1100) (w : World) :
    Calls Tryz.prog 12 #[.int .u64 b, .int .i64 (n : Int)] w fun e w' => e = .returned (.tuple #[.string ⟨#[]⟩, .int .i64 60]) ∧ Below w.heap.size w w' := by
  have hS := fun w => sizeOf_inf hu hf w
  have z0 : (n : Int) ≤ 1100 := by omega
  go_enter Tryz.func12, Tryz.ntmps12
  go_wp2_with fail
  refine (hS w).mono ?_
  rintro e w1 ⟨rfl, hb1⟩
  have hba := alloc_below (w := w1) (.cells #[.slice none 0 0, .int .i64 0] 62)
  have hB1 := hb1.trans (hba.mono hb1.size)
  go_wp2
  refine bodyPost_ret (v := .tuple #[.string ⟨#[]⟩, .int .i64 60]) (by simp [results, Tryz.results12, go_sem]) rfl ?_
  exact ⟨rfl, hB1⟩
set_option maxHeartbeats 1600000 in
set_option maxRecDepth 100000 in
theorem fixed_bad {b n : Int} (hn : n < 0 ∨ 1100 < n) (w : World) :
    Calls Tryz.prog 12 #[.int .u64 b, .int .i64 n] w fun e w' => e = .returned (.tuple #[.string ⟨#[]⟩, .int .i64 130]) ∧ Below w.heap.size w w' := by
  rcases hn with hn | hn
  all_goals
    go_enter Tryz.func12, Tryz.ntmps12
    go_wp2
    first
      | (refine bodyPost_ret (v := .tuple #[.string ⟨#[]⟩, .int .i64 130]) (by simp [results, Tryz.results12, go_sem]) rfl ?_
         exact ⟨rfl, Below.refl _ _⟩)
end Go.Proofs.YtceecgklgkiffaaGreatDoor

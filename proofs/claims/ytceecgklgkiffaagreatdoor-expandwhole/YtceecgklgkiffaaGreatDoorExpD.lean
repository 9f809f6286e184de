/- Layer 13: pointed. -/
import Derived.Test.YtceecgklgkiffaaGreatDoorExpC
namespace Go.Proofs.YtceecgklgkiffaaGreatDoor
open Go.ChangeShapes Go.WideShapes Go.ChangeAt Go.RowKit
open Na Ar Ep
set_option linter.unusedVariables false
namespace Ep
/-- a whole number of tens to the -n, in so many digits -/
def ptL (M W n : Nat) : List UInt8 := if n = 0 then dg M W else dg (M - n) (W / 10 ^ n) ++ (46 :: dg n W)
end Ep
theorem slice_tail13 (g : Nat) {M l : Nat} (h : l ≤ M) (W : World) : (Instr.slice 60 (.slice (some ⟨g, 0, none⟩) M M) (some (.int .i64 ((M - l : Nat) : Int))) none none).run Tryz.prog W = .ok (.slice (some (if M = M - l then (⟨g, 0, none⟩ : Addr) else ⟨g, M - l, none⟩)) l l) W := by
  have hz : ∀ w, (Go.sizeOf 5).run Tryz.prog w = .ok 1 w := fun w => by
    obtain ⟨i, hi, hz0, hz1, hz2⟩ := info_parts info8
    simp [Go.sizeOf, typeInfo, hi, hz1]
  have he : Tryz.prog.elem 60 = 5 := by simp [Program.elem, Tryz.underlying60]
  have ht' : Tryz.prog.underlying 60 = some (.slice (Tryz.prog.elem 60)) := by rw [he]; exact Tryz.underlying60
  rw [run_slice_l W 60 _ _ _ ht' .i64 _ (by omega) (by omega), he, hz]
  have e : M - (M - l) = l := by omega
  by_cases h0 : M = M - l
  · simp only [Result.andThen, sliced, Int.toNat_natCast, e]
    have h1 : l = 0 ∨ M = 0 := by omega
    rw [if_pos h0]
    by_cases hl : l = 0
    · simp [hl]
    · have : M = 0 := by omega
      subst this
      have : l = 0 := by omega
      exact absurd this hl
  · simp only [Result.andThen, sliced, Int.toNat_natCast, e]
    rw [if_neg h0]
    by_cases h1 : M - l = 0
    · simp [h1, Addr.add]
    · simp [Addr.add, h0, h1]
set_option maxHeartbeats 3200000 in
set_option maxRecDepth 100000 in
theorem pointed13_any {w : World} {a : Option Addr} {l c W n M : Nat} (hr0 : Rb w a l c (dg l W)) (hW : W < 10 ^ l) (hl : l ≤ 4000) (hn : n ≤ 2000) (hM : M = max l (n + 1)) :
    Calls Tryz.prog 31 #[.slice a l c, .int .i64 (n : Int)] w fun e w' => e = .returned (.string ⟨(ptL M W n).toArray⟩) ∧ Below w.heap.size w w' := by
  obtain ⟨i_u8, hi_u8, hz0_u8, hz1_u8, hz2_u8⟩ := info_parts info8
  have hM1 : l ≤ M ∧ n + 1 ≤ M ∧ M ≤ 4000 := by omega
  have hmax : max (l : Int) ((n : Int) + 1) = (M : Int) := by omega
  have hZ := fun w => zeros13_any (n := M) (by omega) (by omega) w
  have e1 : (M : Int) - (l : Int) = ((M - l : Nat) : Int) := by omega
  have e2 : (M : Int) - (n : Int) = ((M - n : Nat) : Int) := by omega
  have HRow : Hid (List.replicate (M - l) 48 ++ dg l W = dg M W) := by
    show _ = _
    rw [← dg_pad (M - l) hW, show M - l + l = M by omega]
  have q0 : (n : Int) ≤ 2000 := by omega
  have q1 : ((M - l : Nat) : Int) ≤ (M : Int) := by omega
  have q2 : (M : Int) ≤ 4000 := by omega
  have HM : Hid (M = max l (n + 1)) := hM
  clear hM hW
  have hcut := fun (w : World) (g : Nat) (h : Rb w (some ⟨g, 0, none⟩) M M (dg M W)) => (by
    have := cut13_any h (n := M - n) (by omega)
    rw [dg_take (by omega), dg_drop (by omega), show M - (M - n) = n by omega] at this
    exact this : Calls Tryz.prog 47 #[.slice (some ⟨g, 0, none⟩) M M, .int .i64 ((M - n : Nat) : Int)] w fun e w' => ∃ a1 a2, e = .returned (.tuple #[.slice a1 (M - n) (M - n), .slice a2 n n]) ∧ Rb w' a1 (M - n) (M - n) (dg (M - n) (W / 10 ^ n)) ∧ Rb w' a2 n n (dg n W) ∧ Below w.heap.size w w')
  have hcopy : ∀ (w1 : World) (base g : Nat), Wr w1 base g M (List.replicate M 48) → Rb w1 a l c (dg l W) → ∃ w2, (Builtin.copy_ #[60, 60] 3 #[.slice (some (if M = M - l then ⟨g, 0, none⟩ else ⟨g, M - l, none⟩)) l l, .slice a l c]).run Tryz.prog w1 = .ok (goInt l) w2 ∧ Rb w2 (some ⟨g, 0, none⟩) M M (dg M W) ∧ Below base w1 w2 := by
    intro w1 base g hWr hR
    by_cases h0 : l = 0
    · subst h0
      obtain ⟨w2, hr, hW2, hb⟩ := hWr.copy hR (o := 0) (dLen := 0) (dCap := 0) (Nat.le_refl _) (by omega) 3
      refine ⟨w2, by rw [if_pos (by omega)]; exact hr, ?_, hb⟩
      have := hW2.row (c := M) (Nat.le_refl _) (by omega)
      rw [← HRow.out]
      simpa [dg] using this
    · obtain ⟨w2, hr, hW2, hb⟩ := hWr.copy hR (o := M - l) (dLen := l) (dCap := l) (Nat.le_refl _) (by omega) 3
      refine ⟨w2, by rw [if_neg (by omega)]; exact hr, ?_, hb⟩
      have := hW2.row (c := M) (Nat.le_refl _) (by omega)
      rw [List.take_replicate, Nat.min_eq_left (by omega), List.drop_of_length_le (by simp; omega), List.append_nil, HRow.out] at this
      exact this
  go_enter Tryz.func31, Tryz.ntmps31
  go_wp2_with fail
  all_goals
    (first | (have eM : (l : Int) = (M : Int) := by omega
              rw [eM]; clear eM) | (have eM : (n : Int) + 1 = (M : Int) := by omega
                                    rw [eM]; clear eM))
    refine (hZ _).mono ?_
    rintro e w1 ⟨g, rfl, hWr, hb1⟩
    obtain ⟨w2, hr2, hR2, hb2⟩ := hcopy w1 _ g hWr (hr0.later hb1)
    have hC := hcut w2 g hR2
    have hB2 : Below w.heap.size w w2 := hb1.trans hb2
    have hsl := slice_tail13 g (M := M) (l := l) (by omega)
    generalize (if M = M - l then (⟨g, 0, none⟩ : Addr) else ⟨g, M - l, none⟩) = D at hr2 hsl
    clear hZ hcopy hcut hWr hb1 hb2 hmax
    go_wp2_with (first | (at_builtin; refine wpList_copy8 rfl _ _ 60 60 rfl _ _ rfl rfl hr2 ?_) | fail)
    refine hC.mono ?_
    rintro e w3 ⟨a1, a2, rfl, h1, h2, hb3⟩
    have hB3 := hB2.trans (hb3.mono hB2.size)
    clear hC hr2 hR2 hb3 hB2 hsl
    by_cases hn0 : n = 0
    · have hz : ((n : Int) == 0) = true := by simp; omega
      have HP : Hid (ptL M W n = dg (M - n) (W / 10 ^ n)) := by
        show _ = _
        unfold ptL
        rw [if_pos hn0, hn0]
        simp
      have hcv := conv8 h1
      generalize dg (M - n) (W / 10 ^ n) = LL at hcv HP
      clear h2 h1 hn0
      go_wp2
      go_ret
      exact ⟨by rw [HP.out]; rfl, hB3⟩
    · have hz : ((n : Int) == 0) = false := by simp; omega
      have HP : Hid (ptL M W n = dg (M - n) (W / 10 ^ n) ++ [46] ++ dg n W) := by
        show _ = _
        unfold ptL
        rw [if_neg hn0, List.append_assoc]
        rfl
      obtain ⟨g1, o1, rfl, _, _⟩ := h1.cells (by omega)
      obtain ⟨g2, o2, rfl, _, _⟩ := h2.cells (by omega)
      have hba := alloc_below (w := w3) (.cells #[.int .u8 46] 5)
      have hO := own_one (w := w3) (base := w3.heap.size) 46 (Nat.le_refl _)
      obtain ⟨ad, cd, hd, hlit⟩ := rb_own (l := [46]) hO
      simp only [Value.slice.injEq] at hd
      obtain ⟨rfl, h46, rfl⟩ := hd
      clear h46
      have hlit1 : Rb (w3.alloc (.cells #[.int .u8 46] 5)) (some ⟨w3.heap.size, 0, none⟩) 1 1 [46] := hlit
      obtain ⟨v4, w4, hr4, hO4, hb4⟩ := append8 (h1.later hba) hlit1 (by omega) (by omega) 60
      have h2b := (h2.later hba).later hb4
      have hB4 : Below w.heap.size w w4 := (hB3.trans (hba.mono hB3.size)).trans (hb4.mono (by have := hB3.size; simp; omega))
      have hl4 : (dg (M - n) (W / 10 ^ n) ++ [46]).length = M - n + 1 := by rw [List.length_append, dg_len]; rfl
      have hOw := (hO4.wider (base' := w.heap.size) (by have := hB3.size; simp; omega)).row
      have hsrc : ∀ (j : Nat) u, ((nz (dg n W)).map (Value.int .u8))[j]? = some u → w4.cell? ((⟨g2, o2, none⟩ : Addr).add j) = some u := fun jj u hj => by
        rw [List.getElem?_map] at hj
        obtain ⟨x, hx, rfl⟩ := Option.map_eq_some_iff.1 hj
        exact h2b.add jj x hx
      have hsl2 : ((nz (dg n W)).map (Value.int .u8)).length = n * 1 := by rw [List.length_map, h2b.1.1, Nat.mul_one]
      have hone : ∀ u ∈ (nz (dg n W)).map (Value.int .u8), u.oneCell' = true := fun u hu => by obtain ⟨x, _, rfl⟩ := List.mem_map.1 hu; rfl
      have hl5 : (nz (dg (M - n) (W / 10 ^ n) ++ [46])).length + n ≤ 5000 := by rw [nz_len, hl4]; omega
      obtain ⟨v5, w5, hr5, hO5, hg5, _⟩ := run_append_own (P := Tryz.prog) w4 w.heap.size 60 60 5 i_u8 (.int .u8 0) 1 1 Tryz.underlying60 hi_u8 hz0_u8 hz1_u8 hz2_u8 rfl (by decide) _ _ _ hOw ⟨g2, o2, none⟩ n n _ hsl2 hsrc hone (by unfold maxLen; omega) (by omega) hB4.size
      have hB5 : Below w.heap.size w w5 := hB4.grown hg5 hB4.size (fun k hk => (hOw.lt k hk).1)
      have hO5' : Own .u8 w5 w.heap.size 5 v5 (nz (dg (M - n) (W / 10 ^ n) ++ [46] ++ dg n W)) := by
        unfold Own
        rw [nz_app (dg (M - n) (W / 10 ^ n) ++ [46]), List.length_append, List.map_append, h2b.1.1]
        exact hO5
      obtain ⟨a5, c5, rfl, hR5⟩ := rb_own hO5'
      have hcv := conv8 hR5
      obtain ⟨N5, hN5⟩ : ∃ N5, N5 = (dg (M - n) (W / 10 ^ n) ++ [46] ++ dg n W).length := ⟨_, rfl⟩
      rw [← hN5] at hcv hr5
      clear hN5 hR5 hl4 h2b hn0
      generalize dg (M - n) (W / 10 ^ n) ++ [46] ++ dg n W = LL at hcv HP
      clear h1 h2 hba hO hlit hlit1 hb4 hB3 hOw hsrc hsl2 hone hl5 hO5 hO5' hg5 hO4
      go_wp2_with (at_builtin; first | refine wpList_append8 rfl _ _ 60 rfl _ _ rfl rfl hr4 ?_ | refine wpList_append8 rfl _ _ 60 rfl _ _ rfl rfl hr5 ?_)
      go_ret
      exact ⟨by rw [HP.out]; rfl, hB5⟩
end Go.Proofs.YtceecgklgkiffaaGreatDoor

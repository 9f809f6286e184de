/- plumbref03: Shl by any number. -/
import Derived.Test.YtbbmoaipilmmdabGreatDoorRef3Sum
namespace Go.Proofs.YtbbmoaipilmmdabGreatDoor
open Go.ChangeShapes Go.WideShapes Go.ChangeAt Go.RowKit
open Na Ar
set_option linter.unusedVariables false
namespace Na
theorem rep_snoc (k : Nat) : List.replicate k (0 : Int) ++ [0] = List.replicate (k + 1) 0 := by rw [List.replicate_succ']
theorem shl_done {xs zs : List Int} {t : Nat} {c : Int} (h : SlI xs (t % 64) xs.length c zs) : Ws (List.replicate (t / 64) 0 ++ zs ++ [c]) ∧ num (List.replicate (t / 64) 0 ++ zs ++ [c]) = num xs * 2 ^ t := by
  obtain ⟨a, b⟩ := slI_done h (by omega)
  rw [List.append_assoc]
  refine ⟨(Dg_zeros (by omega) _).append a, ?_⟩
  have e : num (List.replicate (t / 64) 0 ++ (zs ++ [c])) = 18446744073709551616 ^ (t / 64) * num (zs ++ [c]) := by
    unfold num
    rw [val_append, val_zeros]; simp
  rw [e, b]
  have p : (2 : Int) ^ t = 18446744073709551616 ^ (t / 64) * 2 ^ (t % 64) := by
    have e1 : (18446744073709551616 : Int) = 2 ^ 64 := rfl
    rw [e1, ← Int.pow_mul, ← Int.pow_add]
    congr 1; omega
  rw [p]; exact Int.mul_left_comm _ _ _
end Na
set_option maxHeartbeats 3200000 in
set_option maxRecDepth 100000 in
theorem ref3Shl_any {a : Option Addr} {n c1 : Nat} {xs : List Int} {w : World} (hr1 : RowAt .u64 w a n xs) (hx : Ws xs) (hn : n ≤ 3000000) (t : Nat) (ht : t ≤ 200000000) :
    Calls Tryz.prog 64 #[.slice a n c1, .int .i64 (t : Int)] w fun e w' => ∃ v, e = .returned v ∧ Own .u64 w' w.heap.size 22 v (words (num xs * 2 ^ t)) ∧ Below w.heap.size w w' := by
  obtain ⟨i_u64, hi_u64, hz0_u64, hz1_u64, hz2_u64⟩ := info_parts info_u64
  have LX : Hid (xs.length = n) := hr1.1
  have hq : t / 64 ≤ 3125000 := by omega
  have hr : t % 64 < 64 := by omega
  have HD := @Na.shl_done xs
  go_enter Tryz.func64, Tryz.ntmps64
  go_wp2
  go_loopw [5, 6] (fun v i w4 => ∃ (k : Nat) (L : List Int), i = .int .i64 k ∧ k ≤ t / 64 ∧ Own .u64 w4 w.heap.size 22 v L ∧ L.length = k ∧ Hid (L = List.replicate k 0) ∧ Below w.heap.size w w4) (fun _ i _ => t / 64 - (intOf i).toNat)
  case atStart => exact ⟨0, [], rfl, Nat.zero_le _, own_nil _ _ _ _, rfl, rfl, Below.refl _ _⟩
  case round =>
    obtain ⟨q, L, rfl, hk, hown, hLl, HL, hnx⟩ := hrel
    have hsz := hnx.size
    by_cases hlt : q < t / 64
    · go_wp2_with (at_builtin; refine wpList_append_own _ rfl _ _ 34 rfl w.heap.size 22 i_u64 (.int .u64 0) 1 8 Tryz.underlying34 hi_u64 hz0_u64 hz1_u64 hz2_u64 rfl (by decide) _ _ _ rfl (hown.row.alloc _) ⟨wr.heap.size, 0, none⟩ 1 1 [.int .u64 0] rfl rfl one_new one_cell (by unfold maxLen; omega) (by omega) (by simp; omega) ?_)
      intro v' w1 hown' hgrow _
      have hb' := grow_below hsz hown.row hnx hgrow
      have ho' := own_next hown' (by omega)
      clear hown' hgrow hown hnx
      go_wp2
      go_roundw
      case rel => exact ⟨q + 1, L ++ [0], by go_num, by omega, ho', by simp [hLl], by show _ = _; rw [HL.out]; exact rep_snoc q, hb'⟩
      case measure => simp [intOf]; omega
    · have HK : Hid (q = t / 64) := by show _ = _; omega
      have hq3 : q ≤ 3125000 := by omega
      go_wp2
      go_loopw [5, 8, 9] (fun v c i w4 => ∃ (k : Nat) (C : Int) (zs L : List Int), i = .int .i64 k ∧ c = .int .u64 C ∧ k ≤ n ∧ Own .u64 w4 w.heap.size 22 v L ∧ Hid (L = List.replicate q 0 ++ zs) ∧ SlI xs (t % 64) k C zs ∧ Below w.heap.size w w4) (fun _ _ i _ => n - (intOf i).toNat)
      case atStart => exact ⟨0, 0, [], L, rfl, rfl, Nat.zero_le _, hown, by show _ = _; rw [HL.out, List.append_nil], slI_start _ _, hnx⟩
      case round =>
        clear hown HL hLl hsz hnx hlt hk
        obtain ⟨k, C, zs, L, rfl, rfl, hk, hown, HL, hinv, hnx⟩ := hrel
        have hsz := hnx.size
        have hzl := hinv.2.1
        have hC := hinv.2.2.1
        have hLl : L.length = q + k := by rw [HL.out]; simp [hzl]
        by_cases hlt : k < n
        · obtain ⟨b0, o0, rfl, hb0, hc0⟩ := hr1.at (by omega)
          have hcx := fun (w5 : World) (h : Below w.heap.size w w5) => (h.cell (p := ⟨b0, o0 + k, none⟩) hb0).trans (hc0 k hlt)
          have hcx0 := hcx _ hnx
          have ux : U (xs.getD k 0) := hx.getAnyB k
          have hstep := slI_step hinv hx (by omega) (by rw [LX.out]; exact hlt)
          generalize xs.getD k 0 = x at *
          have hor : bits .or .u64 (IntKind.u64.wrap (x * 2 ^ (t % 64))) C = slW x C (t % 64) := or_parts (k := t % 64) (by omega) hC.1 hC.2
          have HA : Hid (L ++ [slW x C (t % 64)] = List.replicate q 0 ++ (zs ++ [slW x C (t % 64)])) := by show _ = _; rw [HL.out, List.append_assoc]
          clear hinv hc0 hC HL HD
          by_cases hr0 : t % 64 = 0
          · have hcc : slC x (t % 64) = 0 := by
              unfold slC; rw [hr0]
              have h64 : (2 : Int) ^ (64 - 0) = 18446744073709551616 := rfl
              rw [h64]; unfold U at ux; omega
            rw [hcc] at hstep
            have hor' : bits .or .u64 (IntKind.u64.wrap x) C = slW x C (t % 64) := by
              have := hor
              rw [hr0, Int.pow_zero, Int.mul_one] at this
              rw [this, hr0]
            clear hcc ux hor
            generalize slW x C (t % 64) = y at *
            go_wp2_with (at_builtin; refine wpList_append_own _ rfl _ _ 34 rfl w.heap.size 22 i_u64 (.int .u64 0) 1 8 Tryz.underlying34 hi_u64 hz0_u64 hz1_u64 hz2_u64 rfl (by decide) _ _ _ rfl (hown.row.alloc _) ⟨wr.heap.size, 0, none⟩ 1 1 [.int .u64 y] rfl rfl one_new one_cell (by unfold maxLen; omega) (by omega) (by simp; omega) ?_)
            intro v' w1 hown' hgrow _
            have hb' := grow_below hsz hown.row hnx hgrow
            have ho' := own_next hown' (by omega)
            have hcx1 := hcx _ hb'
            clear hown' hgrow hown hnx hcx hcx0
            go_wp2
            go_roundw
            case rel => exact ⟨k + 1, _, _, _, by go_num, rfl, by omega, ho', HA, hstep, hb'⟩
            case measure => simp [intOf]; omega
          · have hcc : slC x (t % 64) = x / 2 ^ (64 - t % 64) := rfl
            rw [hcc] at hstep
            clear hcc ux
            generalize slW x C (t % 64) = y at *
            have t1 : decide ((t : Int) % 64 > 0) = true := by simp; omega
            have t2 : decide (0 < (t : Int) % 64) = true := by simp; omega
            go_wp2_with (at_builtin; refine wpList_append_own _ rfl _ _ 34 rfl w.heap.size 22 i_u64 (.int .u64 0) 1 8 Tryz.underlying34 hi_u64 hz0_u64 hz1_u64 hz2_u64 rfl (by decide) _ _ _ rfl (hown.row.alloc _) ⟨wr.heap.size, 0, none⟩ 1 1 [.int .u64 y] rfl rfl one_new one_cell (by unfold maxLen; omega) (by omega) (by simp; omega) ?_)
            intro v' w1 hown' hgrow _
            have hb' := grow_below hsz hown.row hnx hgrow
            have ho' := own_next hown' (by omega)
            have hcx1 := hcx _ hb'
            clear hown' hgrow hown hnx hcx hcx0
            go_wp2
            go_roundw
            case rel => exact ⟨k + 1, _, _, _, by go_num, rfl, by omega, ho', HA, hstep, hb'⟩
            case measure => simp [intOf]; omega
        · have ek : k = xs.length := by rw [LX.out]; omega
          rw [ek] at hinv
          obtain ⟨hws, hnum⟩ := HD hinv
          rw [← HK.out, ← HL.out] at hws hnum
          have HN : Hid (num (L ++ [C]) = num xs * 2 ^ t) := hnum
          clear hinv hnum ek hC hr1 HD
          go_wp2_with (at_builtin; refine wpList_append_own _ rfl _ _ 34 rfl w.heap.size 22 i_u64 (.int .u64 0) 1 8 Tryz.underlying34 hi_u64 hz0_u64 hz1_u64 hz2_u64 rfl (by decide) _ _ _ rfl (hown.row.alloc _) ⟨wr.heap.size, 0, none⟩ 1 1 [.int .u64 C] rfl rfl one_new one_cell (by unfold maxLen; omega) (by omega) (by simp; omega) ?_)
          intro v' w1 hown' hgrow _
          have hb' := grow_below hsz hown.row hnx hgrow
          have ho' := own_next hown' (by omega)
          obtain ⟨va, vc, rfl, hvr⟩ := ho'.readsC
          have hl5 : (L ++ [C]).length = q + k + 1 := by simp [hLl]
          rw [hl5] at hvr ⊢
          have cn := ref3Norm_any (cap := vc) hvr.1 hws (by omega)
          rw [HN.out] at cn
          clear hown' hgrow hown hnx ho' hvr hl5
          go_wp2_with fail
          refine cn.mono ?_
          rintro e w2 ⟨o, rfl, ho, hb2⟩
          have ho2 := ho.wider hb'.size
          have hB := hb'.trans (hb2.mono hb'.size)
          clear cn ho
          go_wp2
          go_ret
          exact ⟨_, rfl, ho2, hB⟩
end Go.Proofs.YtbbmoaipilmmdabGreatDoor

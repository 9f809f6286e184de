/- plumbref03: Word, Add, Sub, Shl (by one, by two). -/
import Derived.Test.YtbbmoaipilmmdabGreatDoorRef3SumA
namespace Go.Proofs.YtbbmoaipilmmdabGreatDoor
open Go.ChangeShapes Go.WideShapes Go.ChangeAt Go.RowKit
open Na Ar
set_option linter.unusedVariables false
namespace Na
theorem ad_all {x y c S T : Int} (hx : U x) (hy : U y) (hc : c = 0 ∨ c = 1) (hS : S = (x + y) % 18446744073709551616) (hT : T = (S + c) % 18446744073709551616) : T = adW x y c ∧ (S < x → ¬ T < S ∧ adC x y c = 1) ∧ (¬ S < x → T < S → adC x y c = 1) ∧ (¬ S < x → ¬ T < S → adC x y c = 0) := by
  unfold U at *
  unfold adW adC
  omega
end Na
set_option maxHeartbeats 1600000 in
theorem ref3Word_any {v : Int} (hv : U v) (w : World) :
    Calls Tryz.prog 78 #[.int .u64 v] w fun e w' => ∃ o, e = .returned o ∧ Own .u64 w' w.heap.size 22 o (words v) ∧ Below w.heap.size w w' := by
  have hb0 : Below w.heap.size w (w.alloc (.cells #[.int .u64 v] 22)) := (Below.refl _ _).alloc (Nat.le_refl _) _
  have hone := rowC_one w v 22
  have cn := ref3Norm_any (cap := 1) hone.1 (Dg.one hv) (by omega)
  have en : num [v] = v := by simp [num, val]
  rw [en] at cn
  have hs := hb0.size
  clear hone
  go_enter Tryz.func78, Tryz.ntmps78
  go_wp2_with fail
  refine cn.mono ?_
  rintro e w1 ⟨o, rfl, ho, hb1⟩
  have ho' := ho.wider hs
  have hB := hb0.trans (hb1.mono hb0.size)
  clear cn ho
  go_wp2
  go_ret
  exact ⟨_, rfl, ho', hB⟩
set_option maxHeartbeats 3200000 in
set_option maxRecDepth 100000 in
theorem ref3Add_any {a b : Option Addr} {n m c1 c2 : Nat} {xs ys : List Int} {w : World} (hr1 : RowAt .u64 w a n xs) (hr2 : RowAt .u64 w b m ys) (hx : Ws xs) (hy : Ws ys) (hn : n ≤ 3000000) (hm : m ≤ 3000000) :
    Calls Tryz.prog 40 #[.slice a n c1, .slice b m c2] w fun e w' => ∃ v, e = .returned v ∧ Own .u64 w' w.heap.size 22 v (words (num xs + num ys)) ∧ Below w.heap.size w w' := by
  obtain ⟨i_u64, hi_u64, hz0_u64, hz1_u64, hz2_u64⟩ := info_parts info_u64
  have l1 := hr1.1
  have l2 := hr2.1
  by_cases hmn : (n : Int) < (m : Int)
  · have px := pad_ws hx m
    have py := pad_ws hy m
    have lpx := pad_length (xs := xs) (N := m) (by omega)
    have lpy := pad_length (xs := ys) (N := m) (by omega)
    go_enter Tryz.func40, Tryz.ntmps40
    go_wp2
    go_loopw [6, 7, 8, 9, 10, 11] (fun v c i _ _ _ wr => ∃ (k : Nat) (C : Int) (zs : List Int), i = .int .i64 k ∧ c = .int .u64 C ∧ k ≤ m ∧ Own .u64 wr w.heap.size 22 v zs ∧ AdI (pad xs m) (pad ys m) k C zs ∧ Below w.heap.size w wr) (fun _ _ i _ _ _ _ => m - (intOf i).toNat)
    case atStart => exact ⟨0, 0, [], rfl, rfl, Nat.zero_le _, own_nil _ _ _ _, adI_start _ _, Below.refl _ _⟩
    case round =>
      obtain ⟨k, C, zs, rfl, rfl, hk, hown, hinv, hnx⟩ := hrel
      have hsz := hnx.size
      have hzl := hinv.2.1
      have hC := hinv.2.2.1
      by_cases hlt : k < m
      · have ca := ref3At_any (c1 := c1) (hr1.later hnx) (by omega) k (by omega)
        have cb := ref3At_any (c1 := c2) (hr2.later hnx) (by omega) k (by omega)
        have ux : U (xs.getD k 0) := hx.getAnyB k
        have uy : U (ys.getD k 0) := hy.getAnyB k
        have hstep := adI_step hinv px py (by rw [lpx]; exact hlt) (by rw [lpy]; exact hlt)
        rw [pad_get, pad_get] at hstep
        generalize xs.getD k 0 = x at *
        generalize ys.getD k 0 = y at *
        obtain ⟨S, hS⟩ : ∃ S, S = (x + y) % 18446744073709551616 := ⟨_, rfl⟩
        obtain ⟨T, hT⟩ : ∃ T, T = (S + C) % 18446744073709551616 := ⟨_, rfl⟩
        obtain ⟨a1, a2, a3, a4⟩ := ad_all ux uy hC hS hT
        have hwS : IntKind.u64.wrap (x + y) = S := by rw [wrapU]; exact hS.symm
        have hwT : IntKind.u64.wrap (S + C) = T := by rw [wrapU]; exact hT.symm
        rw [← a1] at hstep
        clear hS hT a1 hinv
        by_cases h1 : S < x
        · obtain ⟨h2, h3⟩ := a2 h1
          rw [h3] at hstep
          clear a2 a3 a4 h3 ux uy hC
          go_wp2_with fail
          refine ca.mono ?_
          rintro e w' ⟨rfl, rfl⟩
          go_wp2_with fail
          refine cb.mono ?_
          rintro e w' ⟨rfl, rfl⟩
          go_wp2_with fail
          refine ca.mono ?_
          rintro e w' ⟨rfl, rfl⟩
          clear ca cb
          go_wp2_with (at_builtin; refine wpList_append_own _ rfl _ _ 34 rfl w.heap.size 22 i_u64 (.int .u64 0) 1 8 Tryz.underlying34 hi_u64 hz0_u64 hz1_u64 hz2_u64 rfl (by decide) _ _ _ rfl (hown.row.alloc _) ⟨wr.heap.size, 0, none⟩ 1 1 [.int .u64 T] rfl rfl one_new one_cell (by unfold maxLen; omega) (by omega) (by simp; omega) ?_)
          intro v' w1 hown' hgrow _
          have hb' := grow_below hsz hown.row hnx hgrow
          have ho' := own_next hown' (by omega)
          clear hown' hgrow hown hnx
          go_wp2
          go_roundw
          case rel => exact ⟨k + 1, _, _, by go_num, rfl, by omega, ho', hstep, hb'⟩
          case measure => simp [intOf]; omega
        · by_cases h2 : T < S
          · have h3 := a3 h1 h2
            rw [h3] at hstep
            clear a2 a3 a4 h3 ux uy hC
            go_wp2_with fail
            refine ca.mono ?_
            rintro e w' ⟨rfl, rfl⟩
            go_wp2_with fail
            refine cb.mono ?_
            rintro e w' ⟨rfl, rfl⟩
            go_wp2_with fail
            refine ca.mono ?_
            rintro e w' ⟨rfl, rfl⟩
            clear ca cb
            go_wp2_with (at_builtin; refine wpList_append_own _ rfl _ _ 34 rfl w.heap.size 22 i_u64 (.int .u64 0) 1 8 Tryz.underlying34 hi_u64 hz0_u64 hz1_u64 hz2_u64 rfl (by decide) _ _ _ rfl (hown.row.alloc _) ⟨wr.heap.size, 0, none⟩ 1 1 [.int .u64 T] rfl rfl one_new one_cell (by unfold maxLen; omega) (by omega) (by simp; omega) ?_)
            intro v' w1 hown' hgrow _
            have hb' := grow_below hsz hown.row hnx hgrow
            have ho' := own_next hown' (by omega)
            clear hown' hgrow hown hnx
            go_wp2
            go_roundw
            case rel => exact ⟨k + 1, _, _, by go_num, rfl, by omega, ho', hstep, hb'⟩
            case measure => simp [intOf]; omega
          · have h3 := a4 h1 h2
            rw [h3] at hstep
            clear a2 a3 a4 h3 ux uy hC
            go_wp2_with fail
            refine ca.mono ?_
            rintro e w' ⟨rfl, rfl⟩
            go_wp2_with fail
            refine cb.mono ?_
            rintro e w' ⟨rfl, rfl⟩
            go_wp2_with fail
            refine ca.mono ?_
            rintro e w' ⟨rfl, rfl⟩
            clear ca cb
            go_wp2_with (at_builtin; refine wpList_append_own _ rfl _ _ 34 rfl w.heap.size 22 i_u64 (.int .u64 0) 1 8 Tryz.underlying34 hi_u64 hz0_u64 hz1_u64 hz2_u64 rfl (by decide) _ _ _ rfl (hown.row.alloc _) ⟨wr.heap.size, 0, none⟩ 1 1 [.int .u64 T] rfl rfl one_new one_cell (by unfold maxLen; omega) (by omega) (by simp; omega) ?_)
            intro v' w1 hown' hgrow _
            have hb' := grow_below hsz hown.row hnx hgrow
            have ho' := own_next hown' (by omega)
            clear hown' hgrow hown hnx
            go_wp2
            go_roundw
            case rel => exact ⟨k + 1, _, _, by go_num, rfl, by omega, ho', hstep, hb'⟩
            case measure => simp [intOf]; omega
      · have ek : k = m := by omega
        have hfin := adI_done hinv (by rw [lpx]; omega) (by rw [lpy]; omega)
        rw [pad_num, pad_num] at hfin
        obtain ⟨hws, hnum⟩ := hfin
        have HN : Hid (num (zs ++ [C]) = num xs + num ys) := hnum
        clear hinv hnum ek hC hr1 hr2
        go_wp2_with (at_builtin; refine wpList_append_own _ rfl _ _ 34 rfl w.heap.size 22 i_u64 (.int .u64 0) 1 8 Tryz.underlying34 hi_u64 hz0_u64 hz1_u64 hz2_u64 rfl (by decide) _ _ _ rfl (hown.row.alloc _) ⟨wr.heap.size, 0, none⟩ 1 1 [.int .u64 C] rfl rfl one_new one_cell (by unfold maxLen; omega) (by omega) (by simp; omega) ?_)
        intro v' w1 hown' hgrow _
        have hb' := grow_below hsz hown.row hnx hgrow
        have ho' := own_next hown' (by omega)
        obtain ⟨va, vc, rfl, hvr⟩ := ho'.readsC
        have hl5 : (zs ++ [C]).length = k + 1 := by simp [hzl]
        rw [hl5] at hvr ⊢
        have cn := ref3Norm_any (cap := vc) hvr.1 hws (by omega)
        rw [HN.out] at cn
        clear hown' hgrow hown hnx ho' hvr hl5
        go_wp2_with fail
        refine cn.mono ?_
        rintro e w2 ⟨o, rfl, ho, hb2⟩
        have ho2 := ho.wider hb'.size
        have hB := hb'.trans (hb2.mono hb'.size)
        clear cn ho
        go_wp2
        go_ret
        exact ⟨_, rfl, ho2, hB⟩
  · have px := pad_ws hx n
    have py := pad_ws hy n
    have lpx := pad_length (xs := xs) (N := n) (by omega)
    have lpy := pad_length (xs := ys) (N := n) (by omega)
    go_enter Tryz.func40, Tryz.ntmps40
    go_wp2
    go_loopw [6, 7, 8, 9, 10, 11] (fun v c i _ _ _ wr => ∃ (k : Nat) (C : Int) (zs : List Int), i = .int .i64 k ∧ c = .int .u64 C ∧ k ≤ n ∧ Own .u64 wr w.heap.size 22 v zs ∧ AdI (pad xs n) (pad ys n) k C zs ∧ Below w.heap.size w wr) (fun _ _ i _ _ _ _ => n - (intOf i).toNat)
    case atStart => exact ⟨0, 0, [], rfl, rfl, Nat.zero_le _, own_nil _ _ _ _, adI_start _ _, Below.refl _ _⟩
    case round =>
      obtain ⟨k, C, zs, rfl, rfl, hk, hown, hinv, hnx⟩ := hrel
      have hsz := hnx.size
      have hzl := hinv.2.1
      have hC := hinv.2.2.1
      by_cases hlt : k < n
      · have ca := ref3At_any (c1 := c1) (hr1.later hnx) (by omega) k (by omega)
        have cb := ref3At_any (c1 := c2) (hr2.later hnx) (by omega) k (by omega)
        have ux : U (xs.getD k 0) := hx.getAnyB k
        have uy : U (ys.getD k 0) := hy.getAnyB k
        have hstep := adI_step hinv px py (by rw [lpx]; exact hlt) (by rw [lpy]; exact hlt)
        rw [pad_get, pad_get] at hstep
        generalize xs.getD k 0 = x at *
        generalize ys.getD k 0 = y at *
        obtain ⟨S, hS⟩ : ∃ S, S = (x + y) % 18446744073709551616 := ⟨_, rfl⟩
        obtain ⟨T, hT⟩ : ∃ T, T = (S + C) % 18446744073709551616 := ⟨_, rfl⟩
        obtain ⟨a1, a2, a3, a4⟩ := ad_all ux uy hC hS hT
        have hwS : IntKind.u64.wrap (x + y) = S := by rw [wrapU]; exact hS.symm
        have hwT : IntKind.u64.wrap (S + C) = T := by rw [wrapU]; exact hT.symm
        rw [← a1] at hstep
        clear hS hT a1 hinv
        by_cases h1 : S < x
        · obtain ⟨h2, h3⟩ := a2 h1
          rw [h3] at hstep
          clear a2 a3 a4 h3 ux uy hC
          go_wp2_with fail
          refine ca.mono ?_
          rintro e w' ⟨rfl, rfl⟩
          go_wp2_with fail
          refine cb.mono ?_
          rintro e w' ⟨rfl, rfl⟩
          go_wp2_with fail
          refine ca.mono ?_
          rintro e w' ⟨rfl, rfl⟩
          clear ca cb
          go_wp2_with (at_builtin; refine wpList_append_own _ rfl _ _ 34 rfl w.heap.size 22 i_u64 (.int .u64 0) 1 8 Tryz.underlying34 hi_u64 hz0_u64 hz1_u64 hz2_u64 rfl (by decide) _ _ _ rfl (hown.row.alloc _) ⟨wr.heap.size, 0, none⟩ 1 1 [.int .u64 T] rfl rfl one_new one_cell (by unfold maxLen; omega) (by omega) (by simp; omega) ?_)
          intro v' w1 hown' hgrow _
          have hb' := grow_below hsz hown.row hnx hgrow
          have ho' := own_next hown' (by omega)
          clear hown' hgrow hown hnx
          go_wp2
          go_roundw
          case rel => exact ⟨k + 1, _, _, by go_num, rfl, by omega, ho', hstep, hb'⟩
          case measure => simp [intOf]; omega
        · by_cases h2 : T < S
          · have h3 := a3 h1 h2
            rw [h3] at hstep
            clear a2 a3 a4 h3 ux uy hC
            go_wp2_with fail
            refine ca.mono ?_
            rintro e w' ⟨rfl, rfl⟩
            go_wp2_with fail
            refine cb.mono ?_
            rintro e w' ⟨rfl, rfl⟩
            go_wp2_with fail
            refine ca.mono ?_
            rintro e w' ⟨rfl, rfl⟩
            clear ca cb
            go_wp2_with (at_builtin; refine wpList_append_own _ rfl _ _ 34 rfl w.heap.size 22 i_u64 (.int .u64 0) 1 8 Tryz.underlying34 hi_u64 hz0_u64 hz1_u64 hz2_u64 rfl (by decide) _ _ _ rfl (hown.row.alloc _) ⟨wr.heap.size, 0, none⟩ 1 1 [.int .u64 T] rfl rfl one_new one_cell (by unfold maxLen; omega) (by omega) (by simp; omega) ?_)
            intro v' w1 hown' hgrow _
            have hb' := grow_below hsz hown.row hnx hgrow
            have ho' := own_next hown' (by omega)
            clear hown' hgrow hown hnx
            go_wp2
            go_roundw
            case rel => exact ⟨k + 1, _, _, by go_num, rfl, by omega, ho', hstep, hb'⟩
            case measure => simp [intOf]; omega
          · have h3 := a4 h1 h2
            rw [h3] at hstep
            clear a2 a3 a4 h3 ux uy hC
            go_wp2_with fail
            refine ca.mono ?_
            rintro e w' ⟨rfl, rfl⟩
            go_wp2_with fail
            refine cb.mono ?_
            rintro e w' ⟨rfl, rfl⟩
            go_wp2_with fail
            refine ca.mono ?_
            rintro e w' ⟨rfl, rfl⟩
            clear ca cb
            go_wp2_with (at_builtin; refine wpList_append_own _ rfl _ _ 34 rfl w.heap.size 22 i_u64 (.int .u64 0) 1 8 Tryz.underlying34 hi_u64 hz0_u64 hz1_u64 hz2_u64 rfl (by decide) _ _ _ rfl (hown.row.alloc _) ⟨wr.heap.size, 0, none⟩ 1 1 [.int .u64 T] rfl rfl one_new one_cell (by unfold maxLen; omega) (by omega) (by simp; omega) ?_)
            intro v' w1 hown' hgrow _
            have hb' := grow_below hsz hown.row hnx hgrow
            have ho' := own_next hown' (by omega)
            clear hown' hgrow hown hnx
            go_wp2
            go_roundw
            case rel => exact ⟨k + 1, _, _, by go_num, rfl, by omega, ho', hstep, hb'⟩
            case measure => simp [intOf]; omega
      · have ek : k = n := by omega
        have hfin := adI_done hinv (by rw [lpx]; omega) (by rw [lpy]; omega)
        rw [pad_num, pad_num] at hfin
        obtain ⟨hws, hnum⟩ := hfin
        have HN : Hid (num (zs ++ [C]) = num xs + num ys) := hnum
        clear hinv hnum ek hC hr1 hr2
        go_wp2_with (at_builtin; refine wpList_append_own _ rfl _ _ 34 rfl w.heap.size 22 i_u64 (.int .u64 0) 1 8 Tryz.underlying34 hi_u64 hz0_u64 hz1_u64 hz2_u64 rfl (by decide) _ _ _ rfl (hown.row.alloc _) ⟨wr.heap.size, 0, none⟩ 1 1 [.int .u64 C] rfl rfl one_new one_cell (by unfold maxLen; omega) (by omega) (by simp; omega) ?_)
        intro v' w1 hown' hgrow _
        have hb' := grow_below hsz hown.row hnx hgrow
        have ho' := own_next hown' (by omega)
        obtain ⟨va, vc, rfl, hvr⟩ := ho'.readsC
        have hl5 : (zs ++ [C]).length = k + 1 := by simp [hzl]
        rw [hl5] at hvr ⊢
        have cn := ref3Norm_any (cap := vc) hvr.1 hws (by omega)
        rw [HN.out] at cn
        clear hown' hgrow hown hnx ho' hvr hl5
        go_wp2_with fail
        refine cn.mono ?_
        rintro e w2 ⟨o, rfl, ho, hb2⟩
        have ho2 := ho.wider hb'.size
        have hB := hb'.trans (hb2.mono hb'.size)
        clear cn ho
        go_wp2
        go_ret
        exact ⟨_, rfl, ho2, hB⟩
set_option maxHeartbeats 3200000 in
set_option maxRecDepth 100000 in
theorem ref3Shl1_any {a : Option Addr} {n c1 : Nat} {xs : List Int} {w : World} (hr1 : RowAt .u64 w a n xs) (hx : Ws xs) (hn : n ≤ 3000000) :
    Calls Tryz.prog 64 #[.slice a n c1, .int .i64 1] w fun e w' => ∃ v, e = .returned v ∧ Own .u64 w' w.heap.size 22 v (words (2 * num xs)) ∧ Below w.heap.size w w' := by
  obtain ⟨i_u64, hi_u64, hz0_u64, hz1_u64, hz2_u64⟩ := info_parts info_u64
  have LX : Hid (xs.length = n) := hr1.1
  go_enter Tryz.func64, Tryz.ntmps64
  go_wp2
  go_loopw [5, 6] (fun v i wr => v = .slice none 0 0 ∧ i = .int .i64 0 ∧ wr = w) (fun _ _ _ => 0)
  case atStart => exact ⟨rfl, rfl, rfl⟩
  case round =>
    obtain ⟨rfl, rfl, rfl⟩ := hrel
    obtain ⟨w0, hw0⟩ : ∃ w0, w0 = wr := ⟨_, rfl⟩
    subst hw0
    go_wp2
    go_loopw [5, 8, 9] (fun v c i w4 => ∃ (k : Nat) (C : Int) (zs : List Int), i = .int .i64 k ∧ c = .int .u64 C ∧ k ≤ n ∧ Own .u64 w4 w0.heap.size 22 v zs ∧ SlI xs 1 k C zs ∧ Below w0.heap.size w0 w4) (fun _ _ i _ => n - (intOf i).toNat)
    case atStart => exact ⟨0, 0, [], rfl, rfl, Nat.zero_le _, own_nil _ _ _ _, slI_start _ _, Below.refl _ _⟩
    case round =>
      obtain ⟨k, C, zs, rfl, rfl, hk, hown, hinv, hnx⟩ := hrel
      have hsz := hnx.size
      have hzl := hinv.2.1
      have hC := hinv.2.2.1
      by_cases hlt : k < n
      · obtain ⟨b0, o0, rfl, hb0, hc0⟩ := hr1.at (by omega)
        have hcx := fun (w5 : World) (h : Below w0.heap.size w0 w5) => (h.cell (p := ⟨b0, o0 + k, none⟩) hb0).trans (hc0 k hlt)
        have hcx0 := hcx _ hnx
        have ux : U (xs.getD k 0) := hx.getAnyB k
        have hstep := slI_step hinv hx (by omega) (by rw [LX.out]; exact hlt)
        generalize xs.getD k 0 = x at *
        have hor : bits .or .u64 (IntKind.u64.wrap (x * 2)) C = slW x C 1 := or_parts (k := 1) (by omega) hC.1 hC.2
        have hcc : slC x 1 = x / 9223372036854775808 := rfl
        rw [hcc] at hstep
        clear hinv hc0 hcc hC ux
        go_wp2_with (at_builtin; refine wpList_append_own _ rfl _ _ 34 rfl w0.heap.size 22 i_u64 (.int .u64 0) 1 8 Tryz.underlying34 hi_u64 hz0_u64 hz1_u64 hz2_u64 rfl (by decide) _ _ _ rfl (hown.row.alloc _) ⟨wr.heap.size, 0, none⟩ 1 1 [.int .u64 (slW x C 1)] rfl rfl one_new one_cell (by unfold maxLen; omega) (by omega) (by simp; omega) ?_)
        intro v' w1 hown' hgrow _
        have hb' := grow_below hsz hown.row hnx hgrow
        have ho' := own_next hown' (by omega)
        have hcx1 := hcx _ hb'
        clear hown' hgrow hown hnx hcx hcx0
        go_wp2
        go_roundw
        case rel => exact ⟨k + 1, _, _, by go_num, rfl, by omega, ho', hstep, hb'⟩
        case measure => simp [intOf]; omega
      · have ek : k = xs.length := by rw [LX.out]; omega
        rw [ek] at hinv
        have hfin := slI_done hinv (by omega)
        obtain ⟨hws, hnum⟩ := hfin
        have HN : Hid (num (zs ++ [C]) = 2 * num xs) := by show _ = _; rw [hnum, Int.mul_comm]; rfl
        clear hinv hnum ek hC hr1
        go_wp2_with (at_builtin; refine wpList_append_own _ rfl _ _ 34 rfl w0.heap.size 22 i_u64 (.int .u64 0) 1 8 Tryz.underlying34 hi_u64 hz0_u64 hz1_u64 hz2_u64 rfl (by decide) _ _ _ rfl (hown.row.alloc _) ⟨wr.heap.size, 0, none⟩ 1 1 [.int .u64 C] rfl rfl one_new one_cell (by unfold maxLen; omega) (by omega) (by simp; omega) ?_)
        intro v' w1 hown' hgrow _
        have hb' := grow_below hsz hown.row hnx hgrow
        have ho' := own_next hown' (by omega)
        obtain ⟨va, vc, rfl, hvr⟩ := ho'.readsC
        have hl5 : (zs ++ [C]).length = k + 1 := by simp [hzl]
        rw [hl5] at hvr ⊢
        have cn := ref3Norm_any (cap := vc) hvr.1 hws (by omega)
        rw [HN.out] at cn
        clear hown' hgrow hown hnx ho' hvr hl5
        go_wp2_with fail
        refine cn.mono ?_
        rintro e w2 ⟨o, rfl, ho, hb2⟩
        have ho2 := ho.wider hb'.size
        have hB := hb'.trans (hb2.mono hb'.size)
        clear cn ho
        go_wp2
        go_ret
        exact ⟨_, rfl, ho2, hB⟩
set_option maxHeartbeats 3200000 in
set_option maxRecDepth 100000 in
theorem ref3Shl2_any {a : Option Addr} {n c1 : Nat} {xs : List Int} {w : World} (hr1 : RowAt .u64 w a n xs) (hx : Ws xs) (hn : n ≤ 3000000) :
    Calls Tryz.prog 64 #[.slice a n c1, .int .i64 2] w fun e w' => ∃ v, e = .returned v ∧ Own .u64 w' w.heap.size 22 v (words (4 * num xs)) ∧ Below w.heap.size w w' := by
  obtain ⟨i_u64, hi_u64, hz0_u64, hz1_u64, hz2_u64⟩ := info_parts info_u64
  have LX : Hid (xs.length = n) := hr1.1
  go_enter Tryz.func64, Tryz.ntmps64
  go_wp2
  go_loopw [5, 6] (fun v i wr => v = .slice none 0 0 ∧ i = .int .i64 0 ∧ wr = w) (fun _ _ _ => 0)
  case atStart => exact ⟨rfl, rfl, rfl⟩
  case round =>
    obtain ⟨rfl, rfl, rfl⟩ := hrel
    obtain ⟨w0, hw0⟩ : ∃ w0, w0 = wr := ⟨_, rfl⟩
    subst hw0
    go_wp2
    go_loopw [5, 8, 9] (fun v c i w4 => ∃ (k : Nat) (C : Int) (zs : List Int), i = .int .i64 k ∧ c = .int .u64 C ∧ k ≤ n ∧ Own .u64 w4 w0.heap.size 22 v zs ∧ SlI xs 2 k C zs ∧ Below w0.heap.size w0 w4) (fun _ _ i _ => n - (intOf i).toNat)
    case atStart => exact ⟨0, 0, [], rfl, rfl, Nat.zero_le _, own_nil _ _ _ _, slI_start _ _, Below.refl _ _⟩
    case round =>
      obtain ⟨k, C, zs, rfl, rfl, hk, hown, hinv, hnx⟩ := hrel
      have hsz := hnx.size
      have hzl := hinv.2.1
      have hC := hinv.2.2.1
      by_cases hlt : k < n
      · obtain ⟨b0, o0, rfl, hb0, hc0⟩ := hr1.at (by omega)
        have hcx := fun (w5 : World) (h : Below w0.heap.size w0 w5) => (h.cell (p := ⟨b0, o0 + k, none⟩) hb0).trans (hc0 k hlt)
        have hcx0 := hcx _ hnx
        have ux : U (xs.getD k 0) := hx.getAnyB k
        have hstep := slI_step hinv hx (by omega) (by rw [LX.out]; exact hlt)
        generalize xs.getD k 0 = x at *
        have hor : bits .or .u64 (IntKind.u64.wrap (x * 4)) C = slW x C 2 := or_parts (k := 2) (by omega) hC.1 hC.2
        have hcc : slC x 2 = x / 4611686018427387904 := rfl
        rw [hcc] at hstep
        clear hinv hc0 hcc hC ux
        go_wp2_with (at_builtin; refine wpList_append_own _ rfl _ _ 34 rfl w0.heap.size 22 i_u64 (.int .u64 0) 1 8 Tryz.underlying34 hi_u64 hz0_u64 hz1_u64 hz2_u64 rfl (by decide) _ _ _ rfl (hown.row.alloc _) ⟨wr.heap.size, 0, none⟩ 1 1 [.int .u64 (slW x C 2)] rfl rfl one_new one_cell (by unfold maxLen; omega) (by omega) (by simp; omega) ?_)
        intro v' w1 hown' hgrow _
        have hb' := grow_below hsz hown.row hnx hgrow
        have ho' := own_next hown' (by omega)
        have hcx1 := hcx _ hb'
        clear hown' hgrow hown hnx hcx hcx0
        go_wp2
        go_roundw
        case rel => exact ⟨k + 1, _, _, by go_num, rfl, by omega, ho', hstep, hb'⟩
        case measure => simp [intOf]; omega
      · have ek : k = xs.length := by rw [LX.out]; omega
        rw [ek] at hinv
        have hfin := slI_done hinv (by omega)
        obtain ⟨hws, hnum⟩ := hfin
        have HN : Hid (num (zs ++ [C]) = 4 * num xs) := by show _ = _; rw [hnum, Int.mul_comm]; rfl
        clear hinv hnum ek hC hr1
        go_wp2_with (at_builtin; refine wpList_append_own _ rfl _ _ 34 rfl w0.heap.size 22 i_u64 (.int .u64 0) 1 8 Tryz.underlying34 hi_u64 hz0_u64 hz1_u64 hz2_u64 rfl (by decide) _ _ _ rfl (hown.row.alloc _) ⟨wr.heap.size, 0, none⟩ 1 1 [.int .u64 C] rfl rfl one_new one_cell (by unfold maxLen; omega) (by omega) (by simp; omega) ?_)
        intro v' w1 hown' hgrow _
        have hb' := grow_below hsz hown.row hnx hgrow
        have ho' := own_next hown' (by omega)
        obtain ⟨va, vc, rfl, hvr⟩ := ho'.readsC
        have hl5 : (zs ++ [C]).length = k + 1 := by simp [hzl]
        rw [hl5] at hvr ⊢
        have cn := ref3Norm_any (cap := vc) hvr.1 hws (by omega)
        rw [HN.out] at cn
        clear hown' hgrow hown hnx ho' hvr hl5
        go_wp2_with fail
        refine cn.mono ?_
        rintro e w2 ⟨o, rfl, ho, hb2⟩
        have ho2 := ho.wider hb'.size
        have hB := hb'.trans (hb2.mono hb'.size)
        clear cn ho
        go_wp2
        go_ret
        exact ⟨_, rfl, ho2, hB⟩
end Go.Proofs.YtbbmoaipilmmdabGreatDoor

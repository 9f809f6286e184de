/- radix.lay: by halves. -/
import Derived.Test.YtmenhfnakcdnnabDoorRadixLay
import Derived.Test.YtmenhfnakcdnnabDoorQuotDivMod
import Derived.WalkLawsBesides
import Derived.WalkSpells
import Derived.Deep.RegionWith
import Derived.Deep.DeepCutAuto
namespace Go.Proofs.YtmenhfnakcdnnabDoor
open Go.ChangeShapes Go.WideShapes Go.ChangeAt Go.RowKit
open Na Ar
set_option linter.unusedVariables false
theorem Own.off {w : World} {base : Nat} {e : TypeId} {a : Option Addr} {n c : Nat} {xs : List Int} (h : Own .u64 w base e (.slice a n c) xs) {g : Nat} (hg : g < base) : Off a g := by
  rcases h.2 with ⟨hv, _⟩ | ⟨g', cap, cur, hv, hb, _⟩
  · simp only [Value.slice.injEq] at hv
    rw [hv.1]
    intro b o h
    simp at h
  · simp only [Value.slice.injEq] at hv
    rw [hv.1]
    exact off_of (by omega)
namespace Na
theorem half_pow (c r : Nat) : c * 2 ^ (r + 1) / 2 = c * 2 ^ r ∧ c * 2 ^ (r + 1) = c * 2 ^ r + c * 2 ^ r := by
  have e : c * 2 ^ (r + 1) = c * 2 ^ r + c * 2 ^ r := by rw [Nat.pow_succ, ← Nat.mul_assoc]; omega
  omega
end Na
set_option maxHeartbeats 6400000 in
set_option maxRecDepth 100000 in
theorem lay_any {b : Int} (hb : 2 ≤ b) (hb9 : b ≤ 36) {c : Nat} (hc1 : 1 ≤ c) (hc : b ^ c < 18446744073709551616) {g cap N base R : Nat} {w0 : World} (hg0 : w0.heap.size ≤ g) (hN' : N ≤ 12000000) (hR6 : R ≤ 60) {ra : Option Addr} {xss : List (List Int)} (hR : RowsC w0 ra R xss) (hX : ∀ i, i < R → xss.getD i [] = words (b ^ (c * 2 ^ i)) ∧ (words (b ^ (c * 2 ^ i))).length ≤ 5000) (r : Nat) :
    ∀ {rc o dcap : Nat} {ds : List Int} {X : Int} {xa : Option Addr} {xn xc : Nat} {w : World}, r ≤ R → r ≤ rc →
      Own .u8 w base 5 (.slice (some ⟨g, 0, none⟩) N cap) ds → N = ds.length → o + c * 2 ^ r ≤ N → c * 2 ^ r ≤ dcap → dcap ≤ maxLen → 0 ≤ X → X < b ^ (c * 2 ^ r) → RowC w xa xn xc (words X) → xn ≤ 5000 → Off xa g → Below w0.heap.size w0 w →
      Calls Tryd.prog 43 #[.slice (some ⟨g, o, none⟩) (c * 2 ^ r) dcap, .slice xa xn xc, .slice ra r rc, .int .i64 b] w fun e w' => e = .returned (.tuple #[]) ∧ Own .u8 w' base 5 (.slice (some ⟨g, 0, none⟩) N cap) (over ds (laidD b (c * 2 ^ r) X) o) ∧ In g (g + 1) w w' := by
  have hwb : IntKind.u64.wrap b = b := by rw [wrapU]; omega
  induction r with
  | zero =>
    intro rc o dcap ds X xa xn xc w hrR hrc hown hNd ho hdc hdm hX0 hXb hxr hxn hoff hb0
    rw [Nat.pow_zero, Nat.mul_one] at ho hdc hXb ⊢
    have uX : U X := by unfold U; omega
    have dX := Dg_words X
    have nX := num_words hX0
    have hw := natWord_any hxr dX (by omega)
    have e1 : wordV X = X := by unfold wordV; rw [if_pos uX.2]
    rw [nX, e1] at hw
    generalize wordB X = B at *
    clear e1
    go_enter Tryd.func43, Tryd.ntmps43
    go_wp2_with fail
    refine hw.mono ?_
    rintro e w1 ⟨rfl, hb1⟩
    have hown1 := hown.later hb1
    have hl := layWord_in (o := o) (m := c) (dcap := dcap) hown1 hNd ho hN' uX hb hb9
    clear hw hown hown1
    go_wp2_with fail
    refine hl.mono ?_
    rintro e w2 ⟨rfl, ho2, hi2⟩
    have hI := (In.of_below (lo := g) (hi := g + 1) hb1).trans hi2
    clear hl
    go_wp2
    (try simp only [Exit.inBlock, Exit.then])
    refine bodyPost_ret (results_none rfl _ _ _) rfl ?_
    exact ⟨rfl, ho2, hI⟩
  | succ r ih =>
    intro rc o dcap ds X xa xn xc w hrR hrc hown hNd ho hdc hdm hX0 hXb hxr hxn hoff hb0
    obtain ⟨hh1, hh2⟩ := half_pow c r
    obtain ⟨hx1, hx2⟩ := hX r (by omega)
    obtain ⟨rb, ro, hra, hrb, hcell⟩ := hR.2.resolve_left (by omega)
    obtain ⟨ai, ci, hcl, hrow⟩ := hcell r (by omega)
    rw [hx1] at hcl hrow
    have hcl1 := (hb0.cell (p := ⟨rb, ro + r, none⟩) hrb).trans hcl
    have hrow1 := hrow.later hb0
    obtain ⟨D, hD⟩ : ∃ D, D = b ^ (c * 2 ^ r) := ⟨_, rfl⟩
    have HD : Hid (D = b ^ (c * 2 ^ r)) := hD
    have hD0 : 0 < D := by rw [hD]; exact Int.pow_pos (by omega)
    rw [← hD] at hcl1 hrow1 hx2
    have hXD : X < D * D := by rw [hD, ← Int.pow_add, ← hh2]; exact hXb
    have hdm1 := divMod_any hxr hrow1 (Dg_words X) (Dg_words D) (by omega) (by omega) (by rw [num_words (by omega)]; exact hD0)
    rw [num_words hX0, num_words (by omega)] at hdm1
    have q0 : 0 ≤ X / D := Int.ediv_nonneg hX0 (by omega)
    have q1 : X / D < D := Int.ediv_lt_of_lt_mul hD0 hXD
    have r0 := Int.emod_nonneg X (show D ≠ 0 by omega)
    have r1 := Int.emod_lt_of_pos X hD0
    have hlq := words_mono q0 (Int.le_of_lt q1)
    have hlr := words_mono r0 (Int.le_of_lt r1)
    have hglt := hown.lt
    have HS : Hid (laidD b (c * 2 ^ (r + 1)) X = laidD b (c * 2 ^ r) (X / D) ++ laidD b (c * 2 ^ r) (X % D)) := by
      show _ = _
      rw [hh2, laidD_split hb, ← hD, HD.out, laidD_mod hb]
    have hlen := fun Y => laidD_length b (c * 2 ^ r) Y
    subst hra
    obtain ⟨H, hH⟩ : ∃ H, H = c * 2 ^ r := ⟨_, rfl⟩
    obtain ⟨M, hM⟩ : ∃ M, M = c * 2 ^ (r + 1) := ⟨_, rfl⟩
    have HH : Hid (H = c * 2 ^ r) := hH
    rw [← hH] at hh1 hh2 hlen ih HS HD
    rw [← hM] at hh1 hh2 ho hdc HS ⊢
    have hMi : (M : Int) / 2 = (H : Int) := by omega
    have hH1 : 1 ≤ H := by rw [hH]; exact Nat.mul_pos hc1 (Nat.pow_pos (by omega))
    have hk1 : ¬ (dcap = H) := by omega
    have hk2 : ¬ (H = dcap) := by omega
    have hk3 : ¬ (M = H) := by omega
    have hHN : (H : Int) ≤ 12000000 := by omega
    have hr6 : (r : Int) ≤ 60 := by omega
    have HC : Hid (M = H + H) := hh2
    have hMN : (M : Int) ≤ 12000000 := by omega
    have hHM : (H : Int) ≤ (M : Int) := by omega
    have hHd : (H : Int) ≤ (dcap : Int) := by omega
    have oH : o + H ≤ N := by omega
    have oH2 : o + H + H ≤ N := by omega
    have dH : H ≤ dcap := by omega
    have dH2 : H ≤ dcap - H := by omega
    clear hX hR hcell hcl hrow hXb hXD hD hx1 hh1 hh2 hH hM
    go_enter Tryd.func43, Tryd.ntmps43
    go_wp2_with fail
    refine hdm1.mono ?_
    rintro e w1 ⟨v1, v2, rfl, ho1, ho2, hb1, _⟩
    obtain ⟨qa, qc, rfl, hqr⟩ := ho1.readsC
    obtain ⟨sa, sc, rfl, hsr⟩ := ho2.readsC
    have hqo := ho1.off hglt
    have hso := ho2.off hglt
    have hown1 := hown.later hb1
    have hB1 := hb0.trans (hb1.mono hb0.size)
    have HIN1 := In.of_below (lo := g) (hi := g + 1) hb1
    have hql : (words (X / D)).length ≤ 5000 := by omega
    have hsl : (words (X % D)).length ≤ 5000 := by omega
    generalize (words (X / D)).length = ql at *
    generalize (words (X % D)).length = sl at *
    have bd := below_drewN (Below.refl w1.heap.size w1) 1
    have hown2 : Own .u8 w1.drew base 5 (.slice (some ⟨g, 0, none⟩) N cap) ds := hown1.later bd
    have hqr2 : RowC w1.drew _ _ _ _ := hqr.later bd
    have hB2 : Below w0.heap.size w0 w1.drew := hB1.trans (bd.mono hB1.size)
    have c1 := ih (rc := rc) (o := o) (dcap := dcap) (X := X / D) (by omega) (by omega) hown2 hNd oH dH hdm q0 (by rw [← HD.out]; exact q1) hqr2 hql hqo hB2
    clear hdm1 ho1 ho2 hown hxr hrow1 hcl1 hown2 hqr2 hB2
    go_upto_region 5 with (fail)
    go_cut [] from 44 to 52 (fun wx => Own .u8 wx base 5 (.slice (some ⟨g, 0, none⟩) N cap) (over ds (laidD b H (X / D)) o) ∧ In g (g + 1) w1 wx)
    case first =>
      go_region_with (go_at_call 43; refine c1.mono ?_; rintro e wm ⟨rfl, hoo, hii⟩)
      all_goals (go_wp2_with fail; go_meet; exact ⟨hoo, (In.of_below bd).trans hii⟩)
    obtain ⟨hoo, hii⟩ := hcut
    obtain ⟨w3, hw3⟩ : ∃ w3, w3 = wc := ⟨_, rfl⟩
    subst hw3
    have hsr3 := hsr.inn hii (fun _ => hso)
    have hB3 : Below w0.heap.size w0 w3 := below_inn hB1 hii hg0 (Nat.le_refl _)
    have bd3 := below_drewN (Below.refl w3.heap.size w3) 1
    have hown4 : Own .u8 w3.drew base 5 (.slice (some ⟨g, 0, none⟩) N cap) (over ds (laidD b H (X / D)) o) := hoo.later bd3
    have hsr4 : RowC w3.drew _ _ _ _ := hsr3.later bd3
    have hB4 : Below w0.heap.size w0 w3.drew := hB3.trans (bd3.mono hB3.size)
    have hNd3 : N = (over ds (laidD b H (X / D)) o).length := by rw [over_length (by rw [hlen]; omega)]; exact hNd
    have c2 := ih (rc := rc) (o := o + H) (dcap := dcap - H) (X := X % D) (by omega) (by omega) hown4 hNd3 oH2 dH2 (by omega) r0 (by rw [← HD.out]; exact r1) hsr4 hsl hso hB4
    have HE : Hid (over (over ds (laidD b H (X / D)) o) (laidD b H (X % D)) (o + H) = over ds (laidD b M X) o) := by
      show _ = _
      have q := over_over (ds := ds) (A := laidD b H (X / D)) (B := laidD b H (X % D)) (o := o) (by rw [hlen, hlen]; omega)
      rw [hlen] at q
      rw [q, HS.out]
    have hMH : M - H = H := by rw [HC.out]; omega
    have hI3 := HIN1.trans hii
    clear hoo hii hsr hsr3 hown4 hsr4 hB4 hNd3 c1 bd hown1 hqr hNd
    go_upto_region 6 with (fail)
    go_region_with (go_at_call 43; refine c2.mono ?_; rintro e wm ⟨rfl, hoo, hii⟩)
    all_goals (
      rw [HE.out] at hoo
      go_wp2
      go_end0
      exact ⟨rfl, hoo, hI3.trans ((In.of_below bd3).trans hii)⟩)
end Go.Proofs.YtmenhfnakcdnnabDoor

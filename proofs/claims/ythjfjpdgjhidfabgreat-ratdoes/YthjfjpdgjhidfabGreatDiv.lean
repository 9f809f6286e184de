/- wide.divHalf, wide.Div -/
import Derived.Test.YthjfjpdgjhidfabGreatBaseA
import Derived.Test.YthjfjpdgjhidfabGreatDivArith
namespace Go.Proofs.YthjfjpdgjhidfabGreat
open Go.ChangeShapes Go.WideShapes Go.ChangeAt Go.RowKit
open Ar
set_option linter.unusedVariables false

theorem join_same {a b : Int} (hb : H b) (w : World) :
    Calls Tryz.prog 104 #[.int .u64 a, .int .u64 b] w fun e w' => e = .returned (.int .u64 (a % 4294967296 * 4294967296 + b)) ∧ w' = w := by
  refine (join_any hb w).mono ?_
  rintro e w' ⟨_, rfl, rfl, rfl⟩
  exact ⟨rfl, rfl⟩
theorem divHalf_any {t n b : Int} (hb : Big b) (ht : U t) (htb : t < b) (hn : H n) (w : World) :
    Calls Tryz.prog 103 #[.int .u64 t, .int .u64 n, .int .u64 b] w fun e w' => e = .returned (.tuple #[.int .u64 ((t * 4294967296 + n) / b), .int .u64 ((t * 4294967296 + n) % b)]) ∧ w = w' := by
  have hs := half_start hb ht htb hn
  have hu : U b := by unfold Big at hb; unfold U; omega
  have hl := and_half hu
  obtain ⟨g1, g2⟩ := big_halves hb
  have ht0 := ht.1
  have hz : (b / 4294967296 == 0) = false := beq_no (by omega)
  have hquo : IntKind.u64.wrap (t.tdiv (b / 4294967296)) = t / (b / 4294967296) := by
    rw [Int.tdiv_eq_ediv_of_nonneg ht.1, wrapU]
    have h0 : 0 ≤ t / (b / 4294967296) := Int.ediv_nonneg ht.1 (by omega)
    have h1 : t / (b / 4294967296) ≤ t := Int.ediv_le_self _ ht.1
    unfold U at ht
    omega
  have HQ : Hid (IntKind.u64.wrap (t.tdiv (b / 4294967296)) = t / (b / 4294967296)) := hquo
  clear hquo htb
  go_enter Tryz.func103, Tryz.ntmps103
  go_wp2
  go_loop [10, 11] (fun q r => ∃ Q R : Int, q = .int .u64 Q ∧ r = .int .u64 R ∧ HalfInv t n b Q R) (fun q _ => (intOf q).toNat)
  case atStart => exact ⟨_, _, by rw [HQ.out], rfl, hs⟩
  case round =>
    obtain ⟨Q, R, rfl, rfl, hr⟩ := hrel
    clear hs
    have ff := half_fits hr
    have hfb := hr
    obtain ⟨_, _, hR0, hQ0, hQ1, _, hR9⟩ := hfb
    by_cases hR : R < 4294967296
    · have hR' : R ≤ 4294967295 := by omega
      have hj : R % 4294967296 * 4294967296 + n = R * 4294967296 + n := by omega
      by_cases hq : R * 4294967296 + n < Q * (b % 4294967296)
      · obtain ⟨q1, hn'⟩ := half_step hb hn hr hR hq
        clear hr hR
        go_wp2_with (go_at_call 104; refine (join_any hn _).mono ?_; rintro e w' ⟨_, rfl, rfl, rfl⟩)
        go_round
        case rel => exact ⟨_, _, rfl, rfl, hn'⟩
        case measure => simp [intOf]; omega
      · have he := half_end hb hr (half_ok hb hn hr (by omega))
        have HE : Hid (Q = (t * 4294967296 + n) / b) := he
        clear he hr hR
        go_wp2_with (go_at_call 104; refine (join_any hn _).mono ?_; rintro e w' ⟨_, rfl, rfl, rfl⟩)
        go_ret2
        exact ⟨ret_two HE.out (by rw [HE.out]; exact half_rest hb hn), rfl⟩
    · have he := half_end hb hr (half_big hb hn hr (by omega))
      have HE : Hid (Q = (t * 4294967296 + n) / b) := he
      have hR' : 4294967295 < R := by omega
      clear he hr
      go_wp2_with (go_at_call 104; refine (join_any hn _).mono ?_; rintro e w' ⟨_, rfl, rfl, rfl⟩)
      go_ret2
      exact ⟨ret_two HE.out (by rw [HE.out]; exact half_rest hb hn), rfl⟩

/-- what wide.Div answers where it answers -/
def divQ (h l b : Int) : Int := (h * 18446744073709551616 + l) / b
def divR (h l b : Int) : Int := (h * 18446744073709551616 + l) % b
theorem div_zero_any {h l b : Int} (hb : b = 0) (w : World) :
    Calls Tryz.prog 87 #[.int .u64 h, .int .u64 l, .int .u64 b] w fun e w' => e = .returned (.tuple #[.int .u64 0, .int .u64 0, .int .i64 10]) ∧ Gr w w' := by
  have t : (b == 0) = true := beq_of hb
  go_enter Tryz.func87, Tryz.ntmps87
  go_wp2
  go_ret3
  exact ⟨rfl, gr_refl _⟩
theorem div_great_any {h l b : Int} (hb : b ≠ 0) (hh : b ≤ h) (w : World) :
    Calls Tryz.prog 87 #[.int .u64 h, .int .u64 l, .int .u64 b] w fun e w' => e = .returned (.tuple #[.int .u64 0, .int .u64 0, .int .i64 11]) ∧ Gr w w' := by
  have t : (b == 0) = false := beq_no hb
  go_enter Tryz.func87, Tryz.ntmps87
  go_wp2
  go_ret3
  exact ⟨rfl, gr_refl _⟩
theorem div_any {h l b : Int} (uh : U h) (ul : U l) (ub : U b) (hb : b ≠ 0) (hh : h < b) (w : World) :
    Calls Tryz.prog 87 #[.int .u64 h, .int .u64 l, .int .u64 b] w fun e w' => e = .returned (.tuple #[.int .u64 (divQ h l b), .int .u64 (divR h l b), .int .i64 0]) ∧ Gr w w' := by
  have t : (b == 0) = false := beq_no hb
  obtain ⟨s, hs, e, hB, eB⟩ := norm_shift ub hb
  obtain ⟨f1, f2, f3, f4, f5, f6, f7⟩ := div_final uh ul hh (s := s) (by unfold U at uh; omega) hB hs
  have hcl := clampN_of s (by omega)
  have u1 := U_shHi h l s
  have u2 := U_shLo h l s
  have u3 := H_div u2
  have hm := and_half u2
  have u4 := H_mod (shLo h l s)
  obtain ⟨b1, b2⟩ := lenW_bd ub
  have F6 : Hid _ := f6
  have F7 : Hid _ := f7
  clear f6 f7
  go_enter Tryz.func87, Tryz.ntmps87
  go_wp2_with (first | (go_at_call 88; refine (len_any ub _).mono ?_; rintro e w' ⟨rfl, rfl⟩) | (go_at_call 102; refine (shl_any uh ul _ _).mono ?_; rintro e w' ⟨rfl, hg⟩) | (go_at_call 103; refine (divHalf_any hB (by assumption) (by assumption) (by assumption) _).mono ?_; rintro e w' ⟨rfl, rfl⟩) | (go_at_call 104; refine (join_any (by assumption) _).mono ?_; rintro e w' ⟨_, rfl, rfl, rfl⟩))
  go_quiet ((go_at_call 104; exact Calls.quiet_of_same (join_same (by assumption) _)))
  go_wp2
  go_ret3
  exact ⟨ret_three F6.out F7.out rfl, gr_drewN hg _⟩
end Go.Proofs.YthjfjpdgjhidfabGreat

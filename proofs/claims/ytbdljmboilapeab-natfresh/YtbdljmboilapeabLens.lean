/- wide.Len, wide.Zeros -/
import Derived.Test.YtbdljmboilapeabWide
import Derived.Test.YtbdljmboilapeabBits
namespace Go.Proofs.Ytbdljmboilapeab
open Go.ChangeShapes Go.WideShapes Go.ChangeAt Go.RowKit
open Ar
set_option linter.unusedVariables false

set_option maxHeartbeats 1000000 in
set_option maxRecDepth 100000 in
theorem len_any {x : Int} (hx : U x) (w : World) :
    Calls Try.prog 67 #[.int .u64 x] w fun e w' => e = .returned (.int .i64 (lenW x)) ∧ w = w' := by
  have hi := len_start hx
  go_enter Try.func67, Try.ntmps67
  go_wp2
  go_loop [0, 3, 4] (fun v n s => ∃ X N S : Int, v = .int .u64 X ∧ n = .int .i64 N ∧ s = .int .i64 S ∧ LenInv x X N S) (fun _ _ s => (intOf s).toNat)
  case atStart => exact ⟨x, 0, 32, rfl, rfl, rfl, hi⟩
  case round =>
    obtain ⟨X, N, S, rfl, rfl, rfl, hr⟩ := hrel
    clear hi
    have bd := len_bd hr
    have st := len_steps hr
    obtain ⟨b1, b2, b3⟩ := bd
    rcases st with rfl | rfl | rfl | rfl | rfl | rfl | rfl
    · have hy := fun h => len_yes (s := 32) (Or.inl ⟨rfl, rfl⟩) hr h
      have hn := fun h => len_no (s := 32) (Or.inl ⟨rfl, rfl⟩) hr h
      clear hr
      by_cases q : X / 4294967296 = 0
      · have q' : (X / 4294967296 != 0) = false := bne_of q
        replace hn := hn q
        clear hy q
        go_wp2
        go_round
        case rel => exact ⟨X, N, _, rfl, rfl, rfl, hn⟩
        case measure => simp [intOf]
      · have q' : (X / 4294967296 != 0) = true := bne_yes q
        replace hy := hy q
        clear hn q
        go_wp2
        go_round
        case rel => exact ⟨_, _, _, rfl, rfl, rfl, hy⟩
        case measure => simp [intOf]
    · have hy := fun h => len_yes (s := 16) (Or.inr (Or.inl ⟨rfl, rfl⟩)) hr h
      have hn := fun h => len_no (s := 16) (Or.inr (Or.inl ⟨rfl, rfl⟩)) hr h
      clear hr
      by_cases q : X / 65536 = 0
      · have q' : (X / 65536 != 0) = false := bne_of q
        replace hn := hn q
        clear hy q
        go_wp2
        go_round
        case rel => exact ⟨X, N, _, rfl, rfl, rfl, hn⟩
        case measure => simp [intOf]
      · have q' : (X / 65536 != 0) = true := bne_yes q
        replace hy := hy q
        clear hn q
        go_wp2
        go_round
        case rel => exact ⟨_, _, _, rfl, rfl, rfl, hy⟩
        case measure => simp [intOf]
    · have hy := fun h => len_yes (s := 8) (Or.inr (Or.inr (Or.inl ⟨rfl, rfl⟩))) hr h
      have hn := fun h => len_no (s := 8) (Or.inr (Or.inr (Or.inl ⟨rfl, rfl⟩))) hr h
      clear hr
      by_cases q : X / 256 = 0
      · have q' : (X / 256 != 0) = false := bne_of q
        replace hn := hn q
        clear hy q
        go_wp2
        go_round
        case rel => exact ⟨X, N, _, rfl, rfl, rfl, hn⟩
        case measure => simp [intOf]
      · have q' : (X / 256 != 0) = true := bne_yes q
        replace hy := hy q
        clear hn q
        go_wp2
        go_round
        case rel => exact ⟨_, _, _, rfl, rfl, rfl, hy⟩
        case measure => simp [intOf]
    · have hy := fun h => len_yes (s := 4) (Or.inr (Or.inr (Or.inr (Or.inl ⟨rfl, rfl⟩)))) hr h
      have hn := fun h => len_no (s := 4) (Or.inr (Or.inr (Or.inr (Or.inl ⟨rfl, rfl⟩)))) hr h
      clear hr
      by_cases q : X / 16 = 0
      · have q' : (X / 16 != 0) = false := bne_of q
        replace hn := hn q
        clear hy q
        go_wp2
        go_round
        case rel => exact ⟨X, N, _, rfl, rfl, rfl, hn⟩
        case measure => simp [intOf]
      · have q' : (X / 16 != 0) = true := bne_yes q
        replace hy := hy q
        clear hn q
        go_wp2
        go_round
        case rel => exact ⟨_, _, _, rfl, rfl, rfl, hy⟩
        case measure => simp [intOf]
    · have hy := fun h => len_yes (s := 2) (Or.inr (Or.inr (Or.inr (Or.inr (Or.inl ⟨rfl, rfl⟩))))) hr h
      have hn := fun h => len_no (s := 2) (Or.inr (Or.inr (Or.inr (Or.inr (Or.inl ⟨rfl, rfl⟩))))) hr h
      clear hr
      by_cases q : X / 4 = 0
      · have q' : (X / 4 != 0) = false := bne_of q
        replace hn := hn q
        clear hy q
        go_wp2
        go_round
        case rel => exact ⟨X, N, _, rfl, rfl, rfl, hn⟩
        case measure => simp [intOf]
      · have q' : (X / 4 != 0) = true := bne_yes q
        replace hy := hy q
        clear hn q
        go_wp2
        go_round
        case rel => exact ⟨_, _, _, rfl, rfl, rfl, hy⟩
        case measure => simp [intOf]
    · have hy := fun h => len_yes (s := 1) (Or.inr (Or.inr (Or.inr (Or.inr (Or.inr ⟨rfl, rfl⟩))))) hr h
      have hn := fun h => len_no (s := 1) (Or.inr (Or.inr (Or.inr (Or.inr (Or.inr ⟨rfl, rfl⟩))))) hr h
      clear hr
      by_cases q : X / 2 = 0
      · have q' : (X / 2 != 0) = false := bne_of q
        replace hn := hn q
        clear hy q
        go_wp2
        go_round
        case rel => exact ⟨X, N, _, rfl, rfl, rfl, hn⟩
        case measure => simp [intOf]
      · have q' : (X / 2 != 0) = true := bne_yes q
        replace hy := hy q
        clear hn q
        go_wp2
        go_round
        case rel => exact ⟨_, _, _, rfl, rfl, rfl, hy⟩
        case measure => simp [intOf]
    · have hl := len_last hr
      go_wp2
      go_ret
      exact ⟨ret_int (len_end hr), rfl⟩

theorem zeros_any {x : Int} (hx : U x) (w : World) :
    Calls Try.prog 68 #[.int .u64 x] w fun e w' => ∃ n, e = .returned (.int .i64 n) ∧ w = w' ∧ n = zerosW x := by
  by_cases h : x = 0
  · have h' : (x == 0) = true := beq_of h
    go_enter Try.func68, Try.ntmps68
    go_wp2
    go_ret
    exact ⟨_, rfl, rfl, by unfold zerosW; rw [if_pos h]⟩
  · have h' : (x == 0) = false := beq_no h
    have hu : U (bits .and .u64 x (IntKind.u64.wrap (-x))) := U_bits_and hx (U_wrap _)
    obtain ⟨b1, b2⟩ := lenW_bd hu
    go_enter Try.func68, Try.ntmps68
    go_wp2_with (go_at_call 67; refine (len_any hu _).mono ?_; rintro e w' ⟨rfl, rfl⟩)
    go_ret
    exact ⟨_, rfl, rfl, by unfold zerosW; rw [if_neg h]⟩
end Go.Proofs.Ytbdljmboilapeab

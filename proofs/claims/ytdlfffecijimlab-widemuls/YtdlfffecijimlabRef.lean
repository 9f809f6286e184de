/- What the document's answer (plumbref01) is: its loops, bit by bit. -/
import Derived.Test.YtdlfffecijimlabWide
import Derived.Test.YtdlfffecijimlabBits
import Derived.Deep.QuietTactic
import Derived.BigQuiet
namespace Go.Proofs.Ytdlfffecijimlab
open Go.ChangeShapes Go.WideShapes Go.ChangeAt Go.RowKit
open Ar
set_option linter.unusedVariables false
theorem refAdd_any {a b c : Int} (ha : U a) (hb : U b) (hc : U c) (w : World) :
    Calls Try.prog 29 #[.int .u64 a, .int .u64 b, .int .u64 c] w fun e w' => e = .returned (.tuple #[.int .u64 (addLo a b c), .int .u64 (addHi a b c)]) ∧ Grown w w' := by
  go_enter Try.func29, Try.ntmps29
  go_wp2
  go_loopw [8, 9, 10] (fun v s i wr => ∃ (k : Nat) (C S : Int), v = .int .u64 C ∧ s = .int .u64 S ∧ i = .int .i64 k ∧ k ≤ 64 ∧ Grown w wr ∧ AddInv a b (c % 2) k C S) (fun _ _ i _ => 64 - (intOf i).toNat)
  case atStart => exact ⟨0, _, 0, rfl, rfl, rfl, by omega, Grown.refl _, by rw [and_one hc]; exact add_start a b c⟩
  case round =>
    obtain ⟨k, C, S, rfl, rfl, rfl, hk, hg, hr⟩ := hrel
    by_cases hlt : k < 64
    · go_wp2
      go_quiet (fail)
      go_wp2
      go_roundw
      case rel =>
        exact ⟨k + 1, _, _, rfl, rfl, by go_num, by omega, hg, add_step ha hb hlt hr⟩
      case measure => simp [intOf]; omega
    · go_wp2
      go_ret2
      have e : k = 64 := by omega
      subst e
      obtain ⟨e1, e2⟩ := add_end ha hb hr
      exact ⟨ret_two e1 e2, hg⟩

end Go.Proofs.Ytdlfffecijimlab

/- What each call of package wide answers: its contract, for every argument. -/
import Derived.Test.YtbdljmboilapeabRows
import Derived.WalkKit
import Derived.ProofKit
import Derived.OpenShut
import Derived.ShutString
import Derived.WalkLawsBesides
import Derived.WalkSpells
import Derived.Test.YtbdljmboilapeabArith
namespace Go.Proofs.Ytbdljmboilapeab
open Go.ChangeShapes Go.WideShapes Go.ChangeAt Go.RowKit
open Ar
set_option linter.unusedVariables false

/-- the world has at most new blocks, and draws -/
def Gr (w w' : World) : Prop := Grown w w' ∧ Below w.heap.size w w'
theorem gr_refl (w : World) : Gr w w := ⟨Grown.refl _, Below.refl _ _⟩
theorem gr_trans {a b c : World} (h : Gr a b) (k : Gr b c) : Gr a c :=
  ⟨⟨World.keptBut_trans h.1.1 k.1.1, fun x => (k.1.2.1 x).trans (h.1.2.1 x), Nat.le_trans h.1.2.2 k.1.2.2⟩, h.2.trans (k.2.mono h.2.size)⟩
theorem gr_alloc {a b : World} (h : Gr a b) (c : Array Value) (t : TypeId) : Gr a (b.alloc (.cells c t)) := ⟨h.1.alloc c t, h.2.alloc h.2.size _⟩
theorem gr_drewN {a b : World} (h : Gr a b) (n : Nat) : Gr a (b.drewN n) := ⟨h.1, ⟨h.2.os, h.2.tape, h.2.output, h.2.size, h.2.block⟩⟩

theorem ret_bool {p : Bool} (h : p = true) : Ending.returned (.bool p) = .returned (.bool true) := by rw [h]
theorem ret_int {k : IntKind} {a b : Int} (h : a = b) : Ending.returned (.int k a) = .returned (.int k b) := by rw [h]
theorem ret_two {k l : IntKind} {a b c d : Int} (h : a = b) (h' : c = d) : Ending.returned (.tuple #[.int k a, .int l c]) = .returned (.tuple #[.int k b, .int l d]) := by rw [h, h']
theorem ret_three {k l m : IntKind} {a b c d e f : Int} (h : a = b) (h' : c = d) (h'' : e = f) : Ending.returned (.tuple #[.int k a, .int l c, .int m e]) = .returned (.tuple #[.int k b, .int l d, .int m f]) := by rw [h, h', h'']
theorem ret_iib {k l : IntKind} {a b c d : Int} {p q : Bool} (h : a = b) (h' : c = d) (h'' : p = q) : Ending.returned (.tuple #[.int k a, .int l c, .bool p]) = .returned (.tuple #[.int k b, .int l d, .bool q]) := by rw [h, h', h'']
theorem beq_of {a b : Int} (h : a = b) : (a == b) = true := by rw [h]; exact beq_self_eq_true _
theorem bne_of {a b : Int} (h : a = b) : (a != b) = false := by rw [h]; simp
theorem beq_no {a b : Int} (h : a ≠ b) : (a == b) = false := by simpa using h
theorem bne_yes {a b : Int} (h : a ≠ b) : (a != b) = true := by simpa using h

theorem add_any {a b c : Int} (ha : U a) (hb : U b) (hc : U c) (w : World) :
    Calls Try.prog 95 #[.int .u64 a, .int .u64 b, .int .u64 c] w fun e w' => ∃ x y, e = .returned (.tuple #[.int .u64 x, .int .u64 y]) ∧ w = w' ∧ x = addLo a b c ∧ y = addHi a b c := by
  go_enter Try.func95, Try.ntmps95
  go_wp2
  go_ret2
  refine ⟨_, _, rfl, rfl, ?_, ?_⟩
  · exact add_lo hc
  · rw [add_lo hc]; exact add_hi ha hb

theorem sub_any {a b c : Int} (ha : U a) (hb : U b) (hc : U c) (w : World) :
    Calls Try.prog 94 #[.int .u64 a, .int .u64 b, .int .u64 c] w fun e w' => ∃ x y, e = .returned (.tuple #[.int .u64 x, .int .u64 y]) ∧ w = w' ∧ x = subLo a b c ∧ y = subHi a b c := by
  go_enter Try.func94, Try.ntmps94
  go_wp2
  go_ret2
  refine ⟨_, _, rfl, rfl, ?_, ?_⟩
  · exact sub_lo hc
  · rw [sub_lo hc]; exact sub_hi ha hb

theorem join_any {a b : Int} (hb : H b) (w : World) :
    Calls Try.prog 101 #[.int .u64 a, .int .u64 b] w fun e w' => ∃ x, e = .returned (.int .u64 x) ∧ w = w' ∧ x = a % 4294967296 * 4294967296 + b := by
  go_enter Try.func101, Try.ntmps101
  go_wp2
  go_ret
  exact ⟨_, rfl, rfl, or_join hb⟩

theorem mul_any {a b : Int} (ha : U a) (hb : U b) (w : World) :
    Calls Try.prog 96 #[.int .u64 a, .int .u64 b] w fun e w' => ∃ x y, e = .returned (.tuple #[.int .u64 x, .int .u64 y]) ∧ Gr w w' ∧ x = mulHi a b ∧ y = mulLo a b := by
  go_enter Try.func96, Try.ntmps96
  go_wp2
  refine wp_loop_rounds 3 ?_
  rw [rounds_succ]
  go_wp2
  rw [rounds_succ]
  go_wp2
  rw [rounds_succ]
  go_wp2
  go_ret2
  exact ⟨_, _, rfl, gr_alloc (gr_refl _) _ _, mul_hi ha hb, mul_lo ha hb⟩

theorem order_any (a b : Int) (w : World) :
    Calls Try.prog 106 #[.int .u64 a, .int .u64 b] w fun e w' => ∃ x, e = .returned (.int .i64 x) ∧ w = w' ∧ x = ord a b := by
  go_enter Try.func106, Try.ntmps106
  go_wp2
  all_goals go_ret
  · exact ⟨_, rfl, rfl, by unfold ord; rw [if_pos (by assumption)]⟩
  · exact ⟨_, rfl, rfl, by unfold ord; rw [if_neg (by omega), if_pos (by assumption)]⟩
  · exact ⟨_, rfl, rfl, by unfold ord; rw [if_neg (by omega), if_neg (by omega)]⟩

theorem cmp_any (a b c d : Int) (w : World) :
    Calls Try.prog 97 #[.int .u64 a, .int .u64 b, .int .u64 c, .int .u64 d] w fun e w' => ∃ x, e = .returned (.int .i64 x) ∧ w = w' ∧ x = cmp2 a b c d := by
  by_cases h : a = c
  · have h' : (a != c) = false := by simp [h]
    go_enter Try.func97, Try.ntmps97
    go_wp2_with (go_at_call 106; refine (order_any _ _ _).mono ?_; rintro e w' ⟨_, rfl, rfl, rfl⟩)
    go_ret
    exact ⟨_, rfl, rfl, by unfold cmp2; rw [if_pos h]⟩
  · have h' : (a != c) = true := by simp [h]
    go_enter Try.func97, Try.ntmps97
    go_wp2_with (go_at_call 106; refine (order_any _ _ _).mono ?_; rintro e w' ⟨_, rfl, rfl, rfl⟩)
    go_ret
    exact ⟨_, rfl, rfl, by unfold cmp2; rw [if_neg h]⟩

end Go.Proofs.Ytbdljmboilapeab

/- plumbref04: step, TooLong, Text, Count. -/
import Derived.Test.YtmenhfnakcdnnabDoorRadixRefTrim
import Derived.Test.YtmenhfnakcdnnabDoorRadixRefTextM
import Derived.Test.YtmenhfnakcdnnabDoorRef3Bits
namespace Go.Proofs.YtmenhfnakcdnnabDoor
open Go.ChangeShapes Go.WideShapes Go.ChangeAt Go.RowKit
open Na Ar
set_option linter.unusedVariables false
/-- lists of unlike kinds lie in unlike blocks -/
theorem Own.innT {k : IntKind} {w w' : World} {base base' g n cap : Nat} {e e' : TypeId} {v : Value} {xs ls : List Int} (h : Own k w base e v xs) (hl : Own .u64 w base' e' (.slice (some ⟨g, 0, none⟩) n cap) ls) (he : e ≠ e') (hi : In g (g + 1) w w') : Own k w' base e v xs := by
  obtain ⟨h1, h2⟩ := h
  refine ⟨h1, ?_⟩
  rcases h2 with h2 | ⟨g2, c, cur, hv, hb, hc, r⟩
  · exact Or.inl h2
  · refine Or.inr ⟨g2, c, cur, hv, hb, ?_, r⟩
    have hlt : g2 < w.heap.size := by
      by_cases hlt : g2 < w.heap.size
      · exact hlt
      · simp [Array.getElem?_eq_none (Nat.le_of_not_lt hlt)] at hc
    have hne : g2 ≠ g := by
      rcases hl.2 with ⟨h0, _⟩ | ⟨g', c', cur', hv', _, hc', _⟩
      · simp at h0
      · simp only [Value.slice.injEq, Option.some.injEq, Addr.mk.injEq] at hv'
        intro hh
        have eg : g' = g2 := by omega
        rw [eg, hc] at hc'
        simp only [Option.some.injEq, Obj.cells.injEq] at hc'
        exact he hc'.2.1
    rw [hi.block g2 hlt (by omega)]; exact hc
theorem Own.shape8 {k : IntKind} {w : World} {base : Nat} {e : TypeId} {v : Value} {xs : List Int} (h : Own k w base e v xs) (hp : 0 < xs.length) : ∃ g c, v = .slice (some ⟨g, 0, none⟩) xs.length c ∧ base ≤ g := by
  rcases h.2 with ⟨_, h0⟩ | ⟨g, c, cur, hv, hb, _⟩
  · omega
  · exact ⟨g, c, hv, hb⟩
theorem LimbsOf.kept {w w' : World} {base base' : Nat} {a : Option Addr} {n c k : Nat} {us : List Int} {V : Int} {vb : Value} {bs : List Value} (h : LimbsOf w base a n c us V) (hb : w.ownsRow base' 5 1 vb k bs) (hg : w.grownBy w' vb.ownBlock) : LimbsOf w' base a n c us V := by
  obtain ⟨h1, h2⟩ := h
  exact ⟨h1.keptT hg (h1.apartT hb (by decide)), h2⟩
theorem LimbsOf.later {w w' : World} {base : Nat} {a : Option Addr} {n c : Nat} {us : List Int} {V : Int} (h : LimbsOf w base a n c us V) (hb : Below w.heap.size w w') : LimbsOf w' base a n c us V := ⟨h.1.later hb, h.2⟩
set_option maxHeartbeats 1600000 in
set_option maxRecDepth 100000 in
theorem step4_any (b : Int) (hb : 2 ≤ b) (hb9 : b ≤ 36) (w : World) :
    Calls Tryd.prog 54 #[.int .i64 b] w fun e w' => ∃ c : Nat, e = .returned (.tuple #[.int .u64 (b ^ c), .int .i64 (c : Int)]) ∧ (1 ≤ c ∧ c ≤ 32 ∧ b ^ c < 4294967296) ∧ w = w' := by
  go_enter Tryd.func54, Tryd.ntmps54
  have hb1 : b ^ 1 = b := Int.pow_one b
  have hwb : IntKind.u64.wrap b = b := by rw [wrapU]; omega
  go_wp2
  go_loop [4, 5] (fun s c => ∃ k : Nat, s = .int .u64 (b ^ k) ∧ c = .int .i64 (k : Int) ∧ 1 ≤ k ∧ k < 32 ∧ b ^ k < 4294967296) (fun _ c => 32 - (RowKit.intOf c).toNat)
  case atStart => exact ⟨1, by rw [hb1], rfl, by omega, by omega, by rw [hb1]; omega⟩
  case round =>
    obtain ⟨k, rfl, rfl, hk1, hk2, hkB⟩ := hrel
    have hp : 0 < b ^ k := Int.pow_pos (by omega)
    have hs : b ^ (k + 1) = b ^ k * b := Int.pow_succ ..
    have hsm := step_small4 (b := b) (c := k + 1) hb
    have hm9 : b ^ k * b ≤ 4294967296 * 36 := Int.mul_le_mul (by omega) hb9 (by omega) (by omega)
    have hm0 : 0 ≤ b ^ k * b := Int.mul_nonneg (by omega) (by omega)
    have hmw : IntKind.u64.wrap (b ^ k * b) = b ^ k * b := by rw [wrapU]; omega
    clear hb1
    by_cases hlt : b ^ k * b < 4294967296
    · have h32 := hsm (by rw [hs]; exact hlt)
      have HS : Hid (b ^ (k + 1) = b ^ k * b) := hs
      clear hs hsm hm9
      generalize b ^ k = P at *
      go_wp2
      go_round
      case rel => exact ⟨k + 1, by rw [HS.out], by go_num, by omega, h32, by rw [HS.out]; exact hlt⟩
      case measure => simp [RowKit.intOf]; omega
    · clear hs hsm
      go_wp2
      go_ret2
      exact ⟨k, rfl, ⟨hk1, by omega, hkB⟩, rfl⟩
set_option maxRecDepth 100000 in
theorem tooLong4_any {a : Option Addr} {n cap : Nat} {xs : List Int} {w : World} {B : Bool} (hrow : RowC w a n cap xs) (hw : Ws xs) (hn : n ≤ 2500000) (hB : decide (262144 < bitsN (num xs)) = B) :
    Calls Tryd.prog 53 #[.slice a n cap] w fun e w' => e = .returned (.bool B) ∧ w = w' := by
  have bc := ref3Bits_any (cap := cap) hrow.1 hw (by omega)
  generalize bitsN (num xs) = X at *
  subst hB
  go_enter Tryd.func53, Tryd.ntmps53
  go_wp2_with fail
  refine bc.mono ?_
  rintro e w' ⟨rfl, rfl⟩
  clear bc
  go_wp2
  go_ret
  exact ⟨rfl, rfl⟩
end Go.Proofs.YtmenhfnakcdnnabDoor

import Derived.Deep.RegionLaw
import Derived.Deep.RegionHeld3
import Derived.Below
import Derived.BigQuiet
import Derived.ChangeOld
import Derived.Deep.QuietTactic
import Derived.Laws.BitsAllLaws
import Derived.OpenShut
import Derived.OwnWalk
import Derived.ProofKit
import Derived.ShutString
import Derived.WalkKit
import Derived.WalkLawsBesides
import Derived.WalkSpells
import Derived.Test.YtgobnjeankjkjaaGreatDoorPb6
/- Layer 16: Hex, the program's and the document's. -/
namespace Go.Proofs.YtgobnjeankjkjaaGreatDoor
open Go.ChangeShapes Go.WideShapes Go.ChangeAt Go.RowKit
open Ep Oc
set_option linter.unusedVariables false
namespace Oc
theorem hex_at (k : Nat) (hk : k < 16) (h : k < (ByteArray.mk #[48, 49, 50, 51, 52, 53, 54, 55, 56, 57, 97, 98, 99, 100, 101, 102]).size) : (ByteArray.mk #[48, 49, 50, 51, 52, 53, 54, 55, 56, 57, 97, 98, 99, 100, 101, 102])[k]'h = hexD k := by
  have : ∀ k : Fin 16, ∀ h, (ByteArray.mk #[48, 49, 50, 51, 52, 53, 54, 55, 56, 57, 97, 98, 99, 100, 101, 102])[k.val]'h = hexD k.val := by decide
  exact this ⟨k, hk⟩ h
end Oc
theorem Ob.drew {w : World} {base : Nat} {v : Value} {l : List UInt8} (h : Ob w base v l) : Ob w.drew base v l := h.later (below_drewN (Below.refl _ _) 1)
set_option maxHeartbeats 3200000 in
set_option maxRecDepth 100000 in
theorem hex16_any {w : World} {a : Option Addr} {n c : Nat} {l : List UInt8} (h : Rb w a n c l) (hn : n ≤ 100000000) :
    Calls Tryz.prog 33 #[.slice a n c] w fun e w' => e = .returned (.string ⟨(hexL l).toArray⟩) ∧ Below w.heap.size w w' := by
  have HL : Hid (l.length = n) := h.len
  have hc9 := h.2
  go_enter Tryz.func33, Tryz.ntmps33
  go_wp2_with (at_make; refine wpList_make8 rfl _ _ rfl (n := 0) (k := 2 * n) rfl rfl rfl (by omega) (by omega) (by omega) ?_)
  intro w1 hO1 hb1
  go_wp2
  go_loopw [3, 12] (fun o i wr => ∃ k : Nat, k ≤ n ∧ i = .int .i64 (k : Int) ∧ Ob wr w.heap.size o (hexL (l.take k)) ∧ Below w.heap.size w wr) (fun _ i _ => n - (intOf i).toNat)
  case atStart => exact ⟨0, Nat.zero_le _, rfl, hO1, hb1⟩
  case round =>
    obtain ⟨k, hk, rfl, hO3, hb3⟩ := hrel
    clear hO1 hb1
    by_cases hlt : k < n
    · obtain ⟨b, off, rfl, hbB, hc⟩ := h.cells (by omega)
      have c1 := (hb3.cell (p := ⟨b, off + k, none⟩) hbB).trans (hc k hlt)
      have HA : Hid (hexL (l.take (k + 1)) = hexL (l.take k) ++ hexB (l.getD k 0)) := by show _ = _; rw [takeD (by rw [HL.out]; exact hlt), hexL_snoc]
      have HN : Hid ((hexL (l.take k)).length ≤ 2 * n) := by show _ ≤ _; rw [hexL_len, List.length_take]; omega
      generalize l.getD k 0 = x at *
      generalize hexL (l.take k) = P at *
      have hx := x.toNat_lt
      obtain ⟨X, hX⟩ : ∃ X : Nat, X = x.toNat := ⟨_, rfl⟩
      obtain ⟨q, hq⟩ : ∃ q : Nat, q = X / 16 := ⟨_, rfl⟩
      obtain ⟨r, hr⟩ : ∃ r : Nat, r = X % 16 := ⟨_, rfl⟩
      have HB : Hid (hexB x = [hexD q, hexD r]) := by show _ = _; rw [hq, hr, hX]; rfl
      rw [← hX] at c1 hx
      have hq16 : q < 16 := by omega
      have hr16 : r < 16 := by omega
      have e1 : (X : Int) / 16 = (q : Int) := by omega
      have e2 : bits BinOp.and IntKind.u8 (X : Int) 15 = (r : Int) := by
        have : ∀ k : Fin 256, bits BinOp.and IntKind.u8 ((k.val : Nat) : Int) 15 = ((k.val % 16 : Nat) : Int) := by decide
        rw [hr]
        exact this ⟨X, hx⟩
      have x1 : ∀ h, (ByteArray.mk #[48, 49, 50, 51, 52, 53, 54, 55, 56, 57, 97, 98, 99, 100, 101, 102])[q]'h = hexD q := fun h => hex_at q hq16 h
      have x2 : ∀ h, (ByteArray.mk #[48, 49, 50, 51, 52, 53, 54, 55, 56, 57, 97, 98, 99, 100, 101, 102])[r]'h = hexD r := fun h => hex_at r hr16 h
      have q16 : (q : Int) < 16 := by omega
      have r16 : (r : Int) < 16 := by omega
      have hs3 := hb3.size
      rw [HB.out] at HA
      clear hX hq hr hc HB h
      generalize hexD q = y at *
      generalize hexD r = z at *
      go_wp2
      go_region_law (refine step_app8 rfl (.tmp 16) (.tmp 23) rfl rfl (hO3.drew.alloc _) rfl (rb_two wr.drew (x := y) (y := z) rfl rfl) (by have := HN.out; omega) (by simp; omega) ?_; intro v' w5 hO5 hg5 hkp)
      all_goals
        have hb5 := (hO3.drew.alloc _).below ((below_drewN hb3 1).alloc (by simpa using hb3.size) _) (Nat.le_refl _) hg5
        rw [← HA.out] at hO5
        clear hkp hg5 hO3 hb3
        go_wp2
        go_roundw
        case rel => exact ⟨k + 1, by omega, by go_num, hO5, hb5⟩
        case measure => simp [intOf]; omega
    · have hkn : k = n := by omega
      have HE : Hid (l.take k = l) := by show _ = _; rw [List.take_of_length_le (by rw [HL.out]; omega)]
      rw [HE.out] at hO3
      obtain ⟨oa, oc, rfl, hor⟩ := hO3.row
      have hcv := conv8 hor
      clear hkn hO3 hor h
      generalize (hexL l).length = m at *
      go_wp2
      go_ret
      exact ⟨rfl, hb3⟩
end Go.Proofs.YtgobnjeankjkjaaGreatDoor


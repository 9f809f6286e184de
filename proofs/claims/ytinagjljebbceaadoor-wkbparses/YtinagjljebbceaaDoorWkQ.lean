/- Layer 17: WkbParses, whole. -/
import Derived.Test.YtinagjljebbceaaDoorWkP
import Derived.Test.YtinagjljebbceaaDoorWkRe
namespace Go.Proofs.YtinagjljebbceaaDoor
open Go.ChangeShapes Go.WideShapes Go.ChangeAt Go.RowKit
open Ep Oc Tr Wk
set_option linter.unusedVariables false
set_option maxRecDepth 100000 in
theorem trod_bytesF {H : Type} {enc : TypeId × Value → H} {w : World} {base fuel : Nat} {spare : Nat → Bool} {held : Bool} {a : Option Addr} {n c : Nat} {d : DataW H} {p : List MemPlace}
    (hf : DataW.trod enc Tryd.prog w base spare held fuel 28 [.slice a n c] = some (d, p)) (hall : ∀ g, spare g = true) :
    ∃ l, Rb w a n c l := by
  rcases open_ints Tryd.underlying28 Tryd.underlying5 (by kernel_rfl) hf with ⟨hcs, _⟩ | ⟨x, l', c', zs, hcs, _, hl, hm, hz, hdd, hcell, hwz⟩
  · simp at hcs
    obtain ⟨rfl, rfl, rfl⟩ := hcs
    exact ⟨[], Rb.nil _ _ _ (by omega)⟩
  · simp at hcs
    obtain ⟨rfl, rfl, rfl⟩ := hcs
    rw [if_pos (hall _)] at hz
    exact ⟨_, rb_of (Or.inr ⟨x, rfl, hl, hm, hz, hcell, hwz⟩)⟩
set_option maxRecDepth 100000 in
theorem open_bytesF {H : Type} {enc : TypeId × Value → H} {w : World} {r : Reach} {base b0 : Nat} {spare : Nat → Bool} {held : Bool} {v : Value} {d : DataW H} {p : List MemPlace}
    (hv : Value.okWide Tryd.prog w r b0 28 v) (h : DataW.Trod enc Tryd.prog w base spare held 28 v d p) (hall : ∀ g, spare g = true) :
    ∃ a n c l, v = .slice a n c ∧ Rb w a n c l := by
  obtain ⟨a, n, c, rfl⟩ := okWide_slice Tryd.underlying28 hv
  obtain ⟨fuel, hf⟩ := h
  obtain ⟨l, h1⟩ := trod_bytesF (by simpa [Value.cells] using hf) hall
  exact ⟨a, n, c, l, rfl, h1⟩
theorem parses_walk {w : World} {a : Option Addr} {n c : Nat} {l : List UInt8} {md mb : Int} (h : Rb w a n c l) (m1 : -9223372036854775808 ≤ md) (m2 : md ≤ 9223372036854775807) (m3 : -9223372036854775808 ≤ mb) (m4 : mb ≤ 9223372036854775807) (hE : ErrVar w) :
    Calls Tryd.prog 4 #[.slice a n c, .int .i64 md, .int .i64 mb] w fun e w' => e = .returned (.bool true) ∧ Below w.heap.size w w' :=
  parses_walk0 (fun {w0 w1 g a n c D l} h1 h2 h3 h4 => rgeom17 h1 h2 h3 D.toNat 0 1 (by omega) (by omega) h4 (Nat.zero_le _) (Nat.le_refl _)) h hE
end Go.Proofs.YtinagjljebbceaaDoor

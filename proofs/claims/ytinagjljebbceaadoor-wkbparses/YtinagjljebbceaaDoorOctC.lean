/- Layer 16: the document's Put; bytes among the inputs. -/
import Derived.Test.YtinagjljebbceaaDoorOctB
namespace Go.Proofs.YtinagjljebbceaaDoor
open Go.ChangeShapes Go.WideShapes Go.ChangeAt Go.RowKit
open Ep Oc
set_option linter.unusedVariables false
namespace Ep
def by8 (l : List Int) : List UInt8 := l.map fun z => UInt8.ofNat z.toNat
theorem nz_by8 {l : List Int} (h : ∀ n ∈ l, (Lit.int .u8 n).wf = true) : nz (by8 l) = l := by
  unfold nz by8
  rw [List.map_map]
  conv => rhs; rw [← List.map_id l]
  refine List.map_congr_left fun x hx => ?_
  have hw := h x hx
  simp only [Lit.wf, Bool.and_eq_true, decide_eq_true_eq] at hw
  have h1 : IntKind.u8.min = 0 := rfl
  have h2 : IntKind.u8.max = 255 := rfl
  simp
  omega
end Ep
theorem rb_of {w : World} {a : Option Addr} {len cap : Nat} {zs : List Int} (h : (a = none ∧ len = 0 ∧ cap = 0 ∧ zs = []) ∨
    ∃ x, a = some x ∧ len ≤ cap ∧ cap ≤ maxLen ∧ zs.length = cap ∧ (∀ i, i < zs.length → w.cell? (x.add i) = some (.int .u8 (zs.getD i 0))) ∧ ∀ n ∈ zs, (Lit.int .u8 n).wf = true) :
    Rb w a len cap (by8 (zs.take len)) := by
  rcases h with ⟨rfl, rfl, rfl, rfl⟩ | ⟨x, rfl, hl, hm, hz, hc, hw⟩
  · exact Rb.nil _ _ _ (by omega)
  · unfold maxLen at hm
    refine ⟨?_, hl, by omega⟩
    rw [nz_by8 (fun n hn => hw n (List.mem_of_mem_take hn))]
    refine ⟨by rw [List.length_take]; omega, ?_⟩
    by_cases h0 : len = 0
    · exact Or.inl h0
    · have hc0 := hc 0 (by omega)
      obtain ⟨bb, off, pt⟩ := x
      have hp : pt = none := by
        simpa [Addr.add] using World.cell?_spot hc0
      subst hp
      have e : ∀ i, (⟨bb, off, none⟩ : Addr).add i = ⟨bb, off + i, none⟩ := fun i => by
        unfold Addr.add
        by_cases h0 : i = 0
        · subst h0; simp
        · simp [h0]
      rw [e] at hc0
      have hlt : bb < w.heap.size := by
        by_cases hlt : bb < w.heap.size
        · exact hlt
        · have := Array.getElem?_eq_none (xs := w.heap) (i := bb) (Nat.le_of_not_lt hlt)
          simp [World.cell?, this] at hc0
      refine Or.inr ⟨bb, off, rfl, hlt, fun i hi => ?_⟩
      have := hc i (by omega)
      rw [e] at this
      rw [this, List.getD_eq_getElem?_getD, List.getD_eq_getElem?_getD, List.getElem?_take_of_lt hi]
end Go.Proofs.YtinagjljebbceaaDoor

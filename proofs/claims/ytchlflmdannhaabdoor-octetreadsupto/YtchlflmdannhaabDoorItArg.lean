/- Items and calls of a reader among the inputs. -/
import Derived.Test.YtchlflmdannhaabDoorByArg
namespace Go.Proofs.YtchlflmdannhaabDoor
open Go.ChangeShapes Go.WideShapes Go.ChangeAt Go.RowKit
open Ep Oc
set_option linter.unusedVariables false
namespace Oc
def itA (x v : Int) (b : Bool) : Array Value := #[.int .i64 x, .int .u64 v, .bool b]
structure It where
  x : Int
  v : Int
  b : Bool
structure Opc where
  x : Int
  b : Bool
instance : Inhabited It := ⟨⟨0, 0, false⟩⟩
instance : Inhabited Opc := ⟨⟨0, false⟩⟩
def It.ok (i : It) : Prop := (-9223372036854775808 ≤ i.x ∧ i.x ≤ 9223372036854775807) ∧ (0 ≤ i.v ∧ i.v < 18446744073709551616)
def Opc.ok (i : Opc) : Prop := -9223372036854775808 ≤ i.x ∧ i.x ≤ 9223372036854775807
end Oc
/-- a list of items in memory -/
def Its (w : World) (a : Option Addr) (n : Nat) (l : List It) : Prop :=
  l.length = n ∧ ∀ i (h : i < l.length), l[i].ok ∧ ∃ b o, a = some ⟨b, o, none⟩ ∧ b < w.heap.size ∧ w.cell? ⟨b, o + 3 * i, none⟩ = some (.int .i64 l[i].x) ∧ w.cell? ⟨b, o + 3 * i + 1, none⟩ = some (.int .u64 l[i].v) ∧ w.cell? ⟨b, o + 3 * i + 2, none⟩ = some (.bool l[i].b)
def Opl (w : World) (a : Option Addr) (n : Nat) (l : List Opc) : Prop :=
  l.length = n ∧ ∀ i (h : i < l.length), l[i].ok ∧ ∃ b o, a = some ⟨b, o, none⟩ ∧ b < w.heap.size ∧ w.cell? ⟨b, o + 2 * i, none⟩ = some (.int .i64 l[i].x) ∧ w.cell? ⟨b, o + 2 * i + 1, none⟩ = some (.bool l[i].b)
theorem Its.later {w w' : World} {a : Option Addr} {n : Nat} {l : List It} (h : Its w a n l) (hb : Below w.heap.size w w') : Its w' a n l :=
  ⟨h.1, fun i hi => by
    obtain ⟨h0, b, o, e, hlt, c0, c1, c2⟩ := h.2 i hi
    exact ⟨h0, b, o, e, Nat.lt_of_lt_of_le hlt hb.size, (hb.cell (p := ⟨b, _, none⟩) hlt).trans c0, (hb.cell (p := ⟨b, _, none⟩) hlt).trans c1, (hb.cell (p := ⟨b, _, none⟩) hlt).trans c2⟩⟩
theorem Opl.later {w w' : World} {a : Option Addr} {n : Nat} {l : List Opc} (h : Opl w a n l) (hb : Below w.heap.size w w') : Opl w' a n l :=
  ⟨h.1, fun i hi => by
    obtain ⟨h0, b, o, e, hlt, c0, c1⟩ := h.2 i hi
    exact ⟨h0, b, o, e, Nat.lt_of_lt_of_le hlt hb.size, (hb.cell (p := ⟨b, _, none⟩) hlt).trans c0, (hb.cell (p := ⟨b, _, none⟩) hlt).trans c1⟩⟩
theorem spot_of {w : World} {a : Addr} {v : Value} (h : w.cell? (a.add 0) = some v) : ∃ b o, a = ⟨b, o, none⟩ ∧ b < w.heap.size := by
  have e : a.add 0 = a := by unfold Addr.add; simp
  rw [e] at h
  have hs := World.cell?_spot h
  obtain ⟨b, o, s⟩ := a
  have hn : s = none := hs
  subst hn
  refine ⟨b, o, rfl, ?_⟩
  by_cases hlt : b < w.heap.size
  · exact hlt
  · have := Array.getElem?_eq_none (xs := w.heap) (i := b) (Nat.le_of_not_lt hlt)
    simp [World.cell?, this] at h
theorem add_none (b o j : Nat) : (⟨b, o, none⟩ : Addr).add j = ⟨b, o + j, none⟩ := by
  unfold Addr.add
  split <;> simp_all
theorem cells_op16 : Tryd.prog.cellsOf 31 = 2 := by kernel_rfl
theorem cells_pi64 : Tryd.prog.cellsOf 3 = 1 := by kernel_rfl
theorem cells_pbool : Tryd.prog.cellsOf 4 = 1 := by kernel_rfl
set_option maxRecDepth 100000 in
theorem trod_op {H : Type} {enc : TypeId × Value → H} {w : World} {base fuel : Nat} {spare : Nat → Bool} {held : Bool} {cs : List Value} {y : DataW H × List MemPlace}
    (hf : DataW.trod enc Tryd.prog w base spare held fuel 31 cs = some y) : ∃ i : Opc, i.ok ∧ cs = [.int .i64 i.x, .bool i.b] := by
  obtain ⟨xs, m, _, _, hl, hx, hi⟩ := DataW.trod_struct Tryd.underlying31 hf
  rw [cells_op16] at hl
  match cs, hl with
  | [c0, c2], _ =>
    have i0 := hi 0 _ rfl
    have i2 := hi 1 _ rfl
    match xs, hx with
    | [x0, x2], _ =>
      simp [cells_pi64, cells_pbool] at i0 i2
      obtain ⟨s0, e0, _, hw0⟩ := DataW.trod_int Tryd.underlying3 i0
      obtain ⟨s2, e2, _⟩ := DataW.trod_bool Tryd.underlying4 i2
      simp at e0 e2
      simp only [Lit.wf, Bool.and_eq_true, decide_eq_true_eq] at hw0
      have k1 : IntKind.i64.min = -9223372036854775808 := rfl
      have k2 : IntKind.i64.max = 9223372036854775807 := rfl
      subst e0 e2
      exact ⟨⟨s0, s2⟩, ⟨by show _ ≤ s0; omega, by show s0 ≤ _; omega⟩, rfl⟩
set_option maxRecDepth 100000 in
theorem open_ops {H : Type} {enc : TypeId × Value → H} {w : World} {r : Reach} {base b0 : Nat} {spare : Nat → Bool} {held : Bool} {v : Value} {d : DataW H} {p : List MemPlace}
    (hv : Value.okWide Tryd.prog w r b0 23 v) (h : DataW.Trod enc Tryd.prog w base spare held 23 v d p) (hall : ∀ g, spare g = true) (hb : Rows.uptoBulk d ≤ 1048576) :
    ∃ a n c l, v = .slice a n c ∧ Opl w a n l ∧ n ≤ 1048576 ∧ n ≤ c ∧ c ≤ 9223372036854775807 := by
  obtain ⟨a, n, c, rfl⟩ := okWide_slice Tryd.underlying23 hv
  obtain ⟨fuel, hf⟩ := h
  rcases DataW.trod_slice Tryd.underlying23 hf with ⟨hcs, _⟩ | ⟨x, len, cap, elems, rest, m, _, hcs, hd, hbb, hl, hm, hlen, hel, hsp, hns⟩
  · simp [Value.cells] at hcs
    obtain ⟨rfl, rfl, rfl⟩ := hcs
    exact ⟨none, 0, 0, [], rfl, ⟨rfl, fun i hi => by simp at hi⟩, by omega, by omega, by omega⟩
  · simp [Value.cells] at hcs
    obtain ⟨rfl, rfl, rfl⟩ := hcs
    simp only [Prod.mk.injEq] at hd
    rw [hd.1] at hb
    simp only [Rows.uptoBulk] at hb
    have h1 := bulkAll_len (elems.map (·.1))
    rw [List.length_map, hlen] at h1
    have hspot : 0 < n → ∃ b o, x = ⟨b, o, none⟩ ∧ b < w.heap.size := by
      intro h0
      have hb' := hel 0 h0
      rw [List.getElem?_eq_getElem (by omega), cells_op16, Option.bind_eq_some_iff] at hb'
      obtain ⟨cs', hcs, hy⟩ := hb'
      obtain ⟨it, hok, rfl⟩ := trod_op hy
      obtain ⟨_, _, hcell⟩ := World.cells?_some hcs
      have q0 := hcell 0 (by omega)
      have e : x.add (0 * 2) = x := by unfold Addr.add; simp
      rw [e] at q0
      exact spot_of q0
    have each : ∀ i, i < n → ∃ it : Opc, it.ok ∧ ∃ b o, x = ⟨b, o, none⟩ ∧ b < w.heap.size ∧ w.cell? ⟨b, o + 2 * i, none⟩ = some (.int .i64 it.x) ∧ w.cell? ⟨b, o + 2 * i + 1, none⟩ = some (.bool it.b) := by
      intro i hi
      obtain ⟨b, o, rfl, hlt⟩ := hspot (by omega)
      have hb' := hel i hi
      rw [List.getElem?_eq_getElem (by omega), cells_op16, Option.bind_eq_some_iff] at hb'
      obtain ⟨cs', hcs, hy⟩ := hb'
      obtain ⟨it, hok, rfl⟩ := trod_op hy
      obtain ⟨_, _, hcell⟩ := World.cells?_some hcs
      have q0 := hcell 0 (by omega)
      have q1 := hcell 1 (by omega)
      rw [add_none, add_none] at q0 q1
      refine ⟨it, hok, b, o, rfl, hlt, ?_, ?_⟩
      · rw [show o + 2 * i = o + i * 2 + 0 by omega]; exact q0
      · rw [show o + 2 * i + 1 = o + i * 2 + 1 by omega]; exact q1
    have pick : ∃ f : Nat → Opc, ∀ i, i < n → (f i).ok ∧ ∃ b o, x = ⟨b, o, none⟩ ∧ b < w.heap.size ∧ w.cell? ⟨b, o + 2 * i, none⟩ = some (.int .i64 (f i).x) ∧ w.cell? ⟨b, o + 2 * i + 1, none⟩ = some (.bool (f i).b) := by
      refine ⟨fun i => if hi : i < n then (each i hi).choose else default, fun i hi => ?_⟩
      simp only [dif_pos hi]
      exact (each i hi).choose_spec
    obtain ⟨f, hf2⟩ := pick
    refine ⟨some x, n, c, (List.range n).map f, rfl, ⟨by simp, fun i hi => ?_⟩, by omega, hl, by unfold maxLen at hm; omega⟩
    have hi' : i < n := by simpa using hi
    obtain ⟨h0, b, o, e, r⟩ := hf2 i hi'
    have eg : ((List.range n).map f)[i] = f i := by simp
    rw [eg]
    exact ⟨h0, b, o, by rw [e], r⟩
end Go.Proofs.YtchlflmdannhaabDoor

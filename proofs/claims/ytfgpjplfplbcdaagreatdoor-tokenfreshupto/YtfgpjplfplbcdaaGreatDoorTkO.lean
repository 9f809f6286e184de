/- Layer 18: the law's eq. -/
import Derived.Test.YtfgpjplfplbcdaaGreatDoorTkM
namespace Go.Proofs.YtfgpjplfplbcdaaGreatDoor
open Go.ChangeShapes Go.WideShapes Go.ChangeAt Go.RowKit
open Lx Tk Go.Shelf
set_option linter.unusedVariables false
namespace Tk
theorem Rt.at {w : World} {a : Option Addr} {n c : Nat} {l : List Tg} (h : Rt w (.slice a n c) l) {i : Nat} {t : Tg} (hi : l[i]? = some t) : ∃ g o, a = some ⟨g, o, none⟩ ∧ ∀ (j : Nat) (u : Value), (tgA t)[j]? = some u → w.cell? ⟨g, o + i * 9 + j, none⟩ = some u := by
  obtain ⟨a', c', h1, h2⟩ := h
  simp only [Value.slice.injEq] at h1
  obtain ⟨rfl, _, _⟩ := h1
  exact h2 i t hi
theorem Rt.slice {w : World} {v : Value} {l : List Tg} (h : Rt w v l) : ∃ a c, v = .slice a l.length c := by
  obtain ⟨a, c, h1, _⟩ := h
  exact ⟨a, c, h1⟩
theorem Rt.later {w w' : World} {v : Value} {l : List Tg} (h : Rt w v l) (hb : Below w.heap.size w w') : Rt w' v l := h.keep hb (Nat.le_refl _)
end Tk
set_option maxHeartbeats 3200000 in
set_option maxRecDepth 100000 in
theorem eq18_same {w : World} {v u : Value} {l : List Tg} (h1 : Rt w v l) (h2 : Rt w u l) (hl : l.length ≤ 1000000000) :
    Calls Tryz.prog 9 #[v, u] w fun e w' => e = .returned (.bool true) ∧ Below w.heap.size w w' := by
  obtain ⟨a1, k1, rfl⟩ := h1.slice
  obtain ⟨a2, k2, rfl⟩ := h2.slice
  have H1 : Hid (Rt w (.slice a1 l.length k1) l) := h1
  have H2 : Hid (Rt w (.slice a2 l.length k2) l) := h2
  clear h1 h2
  go_enter Tryz.func9, Tryz.ntmps9
  go_wp2
  go_loopw [5] (fun iv wr => ∃ (i : Nat), iv = .int .i64 (i : Int) ∧ i ≤ l.length ∧ Hid (Below w.heap.size w wr)) (fun i _ => l.length - (intOf i).toNat)
  case atStart => exact ⟨0, rfl, Nat.zero_le _, Below.refl _ _⟩
  case round =>
    obtain ⟨i, rfl, hi, HW⟩ := hrel
    by_cases hlt : i < l.length
    · obtain ⟨t, ht⟩ : ∃ t, l[i]? = some t := ⟨_, List.getElem?_eq_getElem hlt⟩
      obtain ⟨g1, o1, rfl, hc1⟩ := H1.out.at ht
      obtain ⟨g2, o2, rfl, hc2⟩ := H2.out.at ht
      have hii : (i : Int) < (l.length : Int) := by omega
      have p0 : wr.cell? ⟨g1, o1 + i * 9, none⟩ = some (.int .i64 t.kind) := by
        have h := hc1 0 _ rfl
        exact (HW.out.cell (p := ⟨g1, o1 + i * 9 + 0, none⟩) (cell_lt h)).trans h
      have q0 : wr.cell? ⟨g2, o2 + i * 9, none⟩ = some (.int .i64 t.kind) := by
        have h := hc2 0 _ rfl
        exact (HW.out.cell (p := ⟨g2, o2 + i * 9 + 0, none⟩) (cell_lt h)).trans h
      have p1 : wr.cell? ⟨g1, o1 + i * 9 + 1, none⟩ = some (.int .i64 t.fr) := by
        have h := hc1 1 _ rfl
        exact (HW.out.cell (p := ⟨g1, o1 + i * 9 + 1, none⟩) (cell_lt h)).trans h
      have q1 : wr.cell? ⟨g2, o2 + i * 9 + 1, none⟩ = some (.int .i64 t.fr) := by
        have h := hc2 1 _ rfl
        exact (HW.out.cell (p := ⟨g2, o2 + i * 9 + 1, none⟩) (cell_lt h)).trans h
      have p2 : wr.cell? ⟨g1, o1 + i * 9 + 2, none⟩ = some (.int .i64 t.till) := by
        have h := hc1 2 _ rfl
        exact (HW.out.cell (p := ⟨g1, o1 + i * 9 + 2, none⟩) (cell_lt h)).trans h
      have q2 : wr.cell? ⟨g2, o2 + i * 9 + 2, none⟩ = some (.int .i64 t.till) := by
        have h := hc2 2 _ rfl
        exact (HW.out.cell (p := ⟨g2, o2 + i * 9 + 2, none⟩) (cell_lt h)).trans h
      have p3 : wr.cell? ⟨g1, o1 + i * 9 + 3, none⟩ = some (.string (str t.word)) := by
        have h := hc1 3 _ rfl
        exact (HW.out.cell (p := ⟨g1, o1 + i * 9 + 3, none⟩) (cell_lt h)).trans h
      have q3 : wr.cell? ⟨g2, o2 + i * 9 + 3, none⟩ = some (.string (str t.word)) := by
        have h := hc2 3 _ rfl
        exact (HW.out.cell (p := ⟨g2, o2 + i * 9 + 3, none⟩) (cell_lt h)).trans h
      have p4 : wr.cell? ⟨g1, o1 + i * 9 + 4, none⟩ = some (.int .i64 t.num.kind) := by
        have h := hc1 4 _ rfl
        exact (HW.out.cell (p := ⟨g1, o1 + i * 9 + 4, none⟩) (cell_lt h)).trans h
      have q4 : wr.cell? ⟨g2, o2 + i * 9 + 4, none⟩ = some (.int .i64 t.num.kind) := by
        have h := hc2 4 _ rfl
        exact (HW.out.cell (p := ⟨g2, o2 + i * 9 + 4, none⟩) (cell_lt h)).trans h
      have p5 : wr.cell? ⟨g1, o1 + i * 9 + 5, none⟩ = some (.bool t.num.neg) := by
        have h := hc1 5 _ rfl
        exact (HW.out.cell (p := ⟨g1, o1 + i * 9 + 5, none⟩) (cell_lt h)).trans h
      have q5 : wr.cell? ⟨g2, o2 + i * 9 + 5, none⟩ = some (.bool t.num.neg) := by
        have h := hc2 5 _ rfl
        exact (HW.out.cell (p := ⟨g2, o2 + i * 9 + 5, none⟩) (cell_lt h)).trans h
      have p6 : wr.cell? ⟨g1, o1 + i * 9 + 6, none⟩ = some (.string (str t.num.num)) := by
        have h := hc1 6 _ rfl
        exact (HW.out.cell (p := ⟨g1, o1 + i * 9 + 6, none⟩) (cell_lt h)).trans h
      have q6 : wr.cell? ⟨g2, o2 + i * 9 + 6, none⟩ = some (.string (str t.num.num)) := by
        have h := hc2 6 _ rfl
        exact (HW.out.cell (p := ⟨g2, o2 + i * 9 + 6, none⟩) (cell_lt h)).trans h
      have p7 : wr.cell? ⟨g1, o1 + i * 9 + 7, none⟩ = some (.int .i64 t.num.exp) := by
        have h := hc1 7 _ rfl
        exact (HW.out.cell (p := ⟨g1, o1 + i * 9 + 7, none⟩) (cell_lt h)).trans h
      have q7 : wr.cell? ⟨g2, o2 + i * 9 + 7, none⟩ = some (.int .i64 t.num.exp) := by
        have h := hc2 7 _ rfl
        exact (HW.out.cell (p := ⟨g2, o2 + i * 9 + 7, none⟩) (cell_lt h)).trans h
      have p8 : wr.cell? ⟨g1, o1 + i * 9 + 8, none⟩ = some (.string (str t.num.den)) := by
        have h := hc1 8 _ rfl
        exact (HW.out.cell (p := ⟨g1, o1 + i * 9 + 8, none⟩) (cell_lt h)).trans h
      have q8 : wr.cell? ⟨g2, o2 + i * 9 + 8, none⟩ = some (.string (str t.num.den)) := by
        have h := hc2 8 _ rfl
        exact (HW.out.cell (p := ⟨g2, o2 + i * 9 + 8, none⟩) (cell_lt h)).trans h
      clear hc1 hc2 ht H1 H2
      generalize str t.word = W1 at *
      generalize str t.num.num = W2 at *
      generalize str t.num.den = W3 at *
      go_wp2_with fail
      go_quiet (fail)
      go_wp2
      exact ⟨⟨i + 1, by go_num, by omega, below_drewN HW.out _⟩, by simp [intOf]; omega⟩
    · have hii : ¬ (i : Int) < (l.length : Int) := by omega
      go_wp2
      go_ret
      exact ⟨rfl, HW.out⟩
end Go.Proofs.YtfgpjplfplbcdaaGreatDoor

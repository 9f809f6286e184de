/- plumblaw02.marked: marks in each list, then more behind it. -/
import Derived.Test.YthigofcbmgheeabFreshAns
namespace Go.Proofs.Ythigofcbmgheeab
open Go.ChangeShapes Go.WideShapes Go.ChangeAt Go.RowKit
open Na Ar
set_option linter.unusedVariables false

theorem info_su : (Try.prog.info? 22).map (fun i => (i.zero, i.size, i.bytes)) = some (some (.slice none 0 0), 1, 24) := by kernel_rfl
theorem one_list {a : Option Addr} {n c : Nat} : ∀ u ∈ [Value.slice a n c], u.oneCell' = true := by
  intro u hu; simp at hu; subst hu; rfl
theorem Own.other {w : World} {base : Nat} {e : TypeId} {v : Value} {xs : List Int} (h : Own .u64 w base e v xs) {g k : Nat} (hne : v.ownBlock ≠ some g) (u : Value) : Own .u64 (w.setCell ⟨g, k, none⟩ u) base e v xs := by
  obtain ⟨h1, h2⟩ := h
  refine ⟨h1, ?_⟩
  rcases h2 with h2 | ⟨g', c, cur, hv, hb, hc, r⟩
  · exact Or.inl h2
  · refine Or.inr ⟨g', c, cur, hv, hb, ?_, r⟩
    rw [Below.heap_setCell _ _ _ _ (by intro hh; apply hne; rw [hv]; simp [Value.ownBlock]; exact hh)]
    exact hc
theorem OL.set {w : World} {lo hi : Nat} {vs : List Value} {xss : List (List Int)} (h : OL w lo hi vs xss) {j g n cap : Nat} (hj : vs[j]? = some (.slice (some ⟨g, 0, none⟩) n cap)) (hjl : j < xss.length) (hn : n = (xss.getD j []).length) (k : Nat) (x : Int) :
    OL (w.setCell ⟨g, k, none⟩ (.int .u64 x)) lo hi vs (xss.set j ((xss.getD j []).set k x)) := by
  refine ⟨by rw [List.length_set]; exact h.1, fun i hi' => ?_, h.2.2⟩
  rw [List.length_set] at hi'
  obtain ⟨v, h1, h2, h3⟩ := h.2.1 i hi'
  by_cases hij : i = j
  · subst hij
    rw [hj] at h1
    simp only [Option.some.injEq] at h1
    subst h1
    have e : (xss.set i ((xss.getD i []).set k x)).getD i [] = (xss.getD i []).set k x := by simp [List.getD_eq_getElem?_getD, hjl]
    rw [e]
    exact ⟨_, hj, h2.set hn k x, h3⟩
  · have e : (xss.set j ((xss.getD j []).set k x)).getD i [] = xss.getD i [] := by
      rw [List.getD_eq_getElem?_getD, List.getElem?_set_ne (fun h => hij h.symm), ← List.getD_eq_getElem?_getD]
    rw [e]
    refine ⟨v, h1, h2.other (fun hg => ?_) _, h3⟩
    exact h.2.2 j i _ v (fun h => hij h.symm) hj h1 g rfl hg
def mark1 (i : Nat) : Int := 5836665117072162816 + i
def mark2 (i : Nat) : Int := 7061644215716937728 + i
/-- the first q lists are marked -/
def Mk (q : Nat) (xss yss : List (List Int)) : Prop := yss.length = xss.length ∧ (∀ j, j < xss.length → j < q → yss.getD j [] = List.replicate (xss.getD j []).length (mark1 j)) ∧ ∀ j, j < xss.length → q ≤ j → yss.getD j [] = xss.getD j []
theorem mk_zero (xss : List (List Int)) : Mk 0 xss xss := ⟨rfl, fun j _ h => by omega, fun _ _ _ => rfl⟩
theorem Mk.next {q : Nat} {xss yss : List (List Int)} {us : List Int} (h : Mk q xss yss) (hq : q < xss.length) (hu : us = List.replicate (xss.getD q []).length (mark1 q)) : Mk (q + 1) xss (yss.set q us) := by
  refine ⟨by rw [List.length_set]; exact h.1, fun j hj hjq => ?_, fun j hj hjq => ?_⟩
  · by_cases e : j = q
    · subst e
      have : (yss.set j us).getD j [] = us := by simp [List.getD_eq_getElem?_getD, h.1, hq]
      rw [this, hu]
    · have : (yss.set q us).getD j [] = yss.getD j [] := by rw [List.getD_eq_getElem?_getD, List.getElem?_set_ne (fun h => e h.symm), ← List.getD_eq_getElem?_getD]
      rw [this]; exact h.2.1 j hj (by omega)
  · have : (yss.set q us).getD j [] = yss.getD j [] := by rw [List.getD_eq_getElem?_getD, List.getElem?_set_ne (by omega), ← List.getD_eq_getElem?_getD]
    rw [this]; exact h.2.2 j hj (by omega)
theorem cells_at {w : World} {g : Nat} {vs : List Value} {t : TypeId} (h : w.heap[g]? = some (.cells vs.toArray t (0, 0))) {j : Nat} {v : Value} (hv : vs[j]? = some v) : w.cell? ⟨g, j, none⟩ = some v := by
  simp [World.cell?, h, hv]

theorem Own.kept {w w' : World} {base : Nat} {e : TypeId} {v : Value} {xs : List Int} {row : Option Nat} (h : Own .u64 w base e v xs) (hg : w.grownBy w' row) (hne : v.ownBlock = none ∨ v.ownBlock ≠ row) : Own .u64 w' base e v xs := World.ownsRow.kept h hg hne
theorem OL.kept {w w' : World} {lo hi : Nat} {vs : List Value} {xss : List (List Int)} {row : Option Nat} (h : OL w lo hi vs xss) (hg : w.grownBy w' row) (hne : ∀ (j : Nat) (v : Value), vs[j]? = some v → v.ownBlock = none ∨ v.ownBlock ≠ row) : OL w' lo hi vs xss :=
  ⟨h.1, fun j hj => by obtain ⟨v, h1, h2, h3⟩ := h.2.1 j hj; exact ⟨v, h1, h2.kept hg (hne j v h1), h3⟩, h.2.2⟩
theorem OL.lt {w : World} {lo hi : Nat} {vs : List Value} {xss : List (List Int)} (h : OL w lo hi vs xss) {j : Nat} {v : Value} (hv : vs[j]? = some v) {g : Nat} (hg : v.ownBlock = some g) : g < hi := by
  have hjl : j < xss.length := by
    by_cases q : j < vs.length
    · rw [← h.1]; exact q
    · rw [List.getElem?_eq_none (by omega)] at hv; simp at hv
  obtain ⟨u', h1, h2, h3⟩ := h.2.1 j hjl
  rw [h1] at hv
  simp only [Option.some.injEq] at hv
  subst hv
  exact h3 g hg
/-- the lengthened lists: each behind its own elder one, or in a new block -/
def GL (w : World) (lo hi : Nat) (vs gs : List Value) (yss : List (List Int)) (q : Nat) : Prop := gs.length = q ∧
  ∀ j, j < q → ∃ v u, gs[j]? = some v ∧ vs[j]? = some u ∧ Own .u64 w lo 47 v (yss.getD j [] ++ List.replicate 70 (mark2 j)) ∧ (v.ownBlock = u.ownBlock ∨ ∃ g, v.ownBlock = some g ∧ hi ≤ g)
theorem gl_nil (w : World) (lo hi : Nat) (vs : List Value) (yss : List (List Int)) : GL w lo hi vs [] yss 0 := ⟨rfl, fun j hj => by omega⟩
theorem GL.kept {w w' : World} {lo hi : Nat} {vs gs : List Value} {yss : List (List Int)} {q : Nat} {row : Option Nat} (h : GL w lo hi vs gs yss q) (hg : w.grownBy w' row) (hne : ∀ (j : Nat) (v : Value), j < q → gs[j]? = some v → v.ownBlock = none ∨ v.ownBlock ≠ row) : GL w' lo hi vs gs yss q :=
  ⟨h.1, fun j hj => by obtain ⟨v, u, h1, h2, h3, h4⟩ := h.2 j hj; exact ⟨v, u, h1, h2, h3.kept hg (hne j v hj h1), h4⟩⟩
theorem GL.next {w : World} {lo hi : Nat} {vs gs : List Value} {yss : List (List Int)} {q : Nat} {v u : Value} (h : GL w lo hi vs gs yss q) (hu : vs[q]? = some u) (ho : Own .u64 w lo 47 v (yss.getD q [] ++ List.replicate 70 (mark2 q))) (hb : v.ownBlock = u.ownBlock ∨ ∃ g, v.ownBlock = some g ∧ hi ≤ g) : GL w lo hi vs (gs ++ [v]) yss (q + 1) := by
  refine ⟨by rw [List.length_append, h.1]; rfl, fun j hj => ?_⟩
  by_cases hlt : j < q
  · obtain ⟨v', u', h1, h2, h3, h4⟩ := h.2 j hlt
    exact ⟨v', u', by rw [List.getElem?_append_left (by rw [h.1]; exact hlt)]; exact h1, h2, h3, h4⟩
  · have e : j = q := by omega
    subst e
    exact ⟨v, u, by rw [← h.1]; simp, hu, ho, hb⟩
/-- an elder slice of the same block is the beginning of what has been lengthened -/
theorem Own.elder {w w' : World} {base : Nat} {e : TypeId} {v u : Value} {ys zs : List Int} (hv : Own .u64 w base e v (ys ++ zs)) (hu : Own .u64 w base e u ys) (hb : v.ownBlock = u.ownBlock) (hv' : Own .u64 w' base e v (ys ++ zs)) : Own .u64 w' base e u ys := by
  rcases hu.2 with ⟨h0, hn⟩ | ⟨g, cap, cur, hu1, hbg, hg, hnc, hcm, hcs, ht⟩
  · refine ⟨hu.1, Or.inl ⟨h0, hn⟩⟩
  · rcases hv.2 with ⟨h0, hn⟩ | ⟨g2, cap2, cur2, hv1, hbg2, hg2, hnc2, hcm2, hcs2, ht2⟩
    · rw [hu1, h0] at hb; simp [Value.ownBlock] at hb
    · rcases hv'.2 with ⟨h0, hn⟩ | ⟨g3, cap3, cur3, hv3, hbg3, hg3, hnc3, hcm3, hcs3, ht3⟩
      · rw [hv1] at h0; simp at h0
      · rw [hv1] at hv3
        simp only [Value.slice.injEq, Option.some.injEq, Addr.mk.injEq] at hv3
        obtain ⟨⟨rfl, _, _⟩, _, rfl⟩ := hv3
        rw [hu1, hv1] at hb
        simp only [Value.ownBlock, Option.some.injEq] at hb
        subst hb
        rw [hg2] at hg
        simp only [Option.some.injEq, Obj.cells.injEq] at hg
        obtain ⟨rfl, _⟩ := hg
        have hcap : cap = cap2 := by omega
        subst hcap
        refine ⟨hu.1, Or.inr ⟨g2, cap, cur3, hu1, hbg, hg3, hnc, hcm, hcs3, ?_⟩⟩
        simp only [Nat.mul_one] at *
        have h5 := congrArg (List.take ys.length) ht3
        have h6 : (List.map (Value.int .u64) (ys ++ zs)).take ys.length = ys.map (Value.int .u64) := by rw [List.map_append, List.take_append_of_le_length (by simp), List.take_of_length_le (by simp)]
        rw [List.take_take, Nat.min_eq_left (by simp), h6] at h5
        exact h5
/-- blocks of unlike things are unlike -/
theorem Own.apart {w : World} {base base' : Nat} {e e' : TypeId} {v l : Value} {xs : List Int} {k : Nat} {us : List Value} (h : Own .u64 w base e v xs) (hl : w.ownsRow base' e' 1 l k us) (he : e ≠ e') : v.ownBlock = none ∨ v.ownBlock ≠ l.ownBlock := by
  rcases h.2 with ⟨h0, _⟩ | ⟨g, c, cur, hv, _, hc, _⟩
  · left; rw [h0]; rfl
  · right
    rcases hl.2 with ⟨h0, _⟩ | ⟨g', c', cur', hv', _, hc', _⟩
    · rw [hv, h0]; simp [Value.ownBlock]
    · rw [hv, hv']
      simp only [Value.ownBlock, ne_eq, Option.some.injEq]
      intro hh
      subst hh
      rw [hc] at hc'
      simp only [Option.some.injEq, Obj.cells.injEq] at hc'
      exact he hc'.2.1
theorem Own.apart_block {w : World} {base g : Nat} {e e' : TypeId} {v : Value} {xs : List Int} {cs : Array Value} (h : Own .u64 w base e v xs) (hg : w.heap[g]? = some (.cells cs e' (0, 0))) (he : e ≠ e') : v.ownBlock ≠ some g := by
  rcases h.2 with ⟨h0, _⟩ | ⟨g', c, cur, hv, _, hc, _⟩
  · rw [h0]; simp [Value.ownBlock]
  · rw [hv]
    simp only [Value.ownBlock, ne_eq, Option.some.injEq]
    intro hh
    subst hh
    rw [hc] at hg
    simp only [Option.some.injEq, Obj.cells.injEq] at hg
    exact he hg.2.1

theorem grow_step {wi wr w5 : World} {lo : Nat} {e : TypeId} {u gv v' : Value} {ob : Option Nat} {yq zs : List Int} {o : Obj} (hgo : Own .u64 wr lo e gv (yq ++ zs)) (hvo : Own .u64 wr lo e u yq) (hob : u.ownBlock = ob) (hui : ∀ g, ob = some g → g < wi.heap.size)
    (hbl : gv.ownBlock = ob ∨ ∃ b, gv.ownBlock = some b ∧ wi.heap.size ≤ b) (hG : wi.grownBy wr ob) (hgrow : (wr.alloc o).grownBy w5 gv.ownBlock) (hkeep : Own .u64 w5 lo e gv (yq ++ zs)) (hblk : v'.ownBlock = gv.ownBlock ∨ ∃ g, v'.ownBlock = some g ∧ wr.heap.size + 1 ≤ g) :
    Own .u64 w5 lo e u yq ∧ (v'.ownBlock = ob ∨ ∃ b, v'.ownBlock = some b ∧ wi.heap.size ≤ b) ∧ wi.grownBy w5 ob := by
  have hs1 : (wr.alloc o).heap.size = wr.heap.size + 1 := by simp
  have hs2 := hG.size
  refine ⟨?_, ?_, ⟨hgrow.os.trans hG.os, hgrow.tape.trans hG.tape, hgrow.output.trans hG.output, by have := hgrow.size; omega, fun k hk hne => ?_⟩⟩
  · rcases hbl with hbl | ⟨b, hb, hb2⟩
    · exact Own.elder hgo hvo (hbl.trans hob.symm) hkeep
    · have h1 : Own .u64 (wr.alloc o) lo e u yq := World.ownsRow.alloc hvo o
      refine h1.kept hgrow ?_
      cases hob' : u.ownBlock with
      | none => exact Or.inl rfl
      | some g =>
        right
        rw [hb]
        intro hh
        simp only [Option.some.injEq] at hh
        have := hui g (by rw [← hob, hob'])
        omega
  · rcases hblk with h | ⟨g, h, hg⟩
    · rw [h]; exact hbl
    · exact Or.inr ⟨g, h, by omega⟩
  · have h1 := hgrow.block k (by omega) (by
      rcases hbl with hbl | ⟨b, hb, hb2⟩
      · rw [hbl]; exact hne
      · rw [hb]; simp only [ne_eq, Option.some.injEq]; omega)
    rw [h1, heap_alloc_old wr o (r := k) (by omega)]
    exact hG.block k hk hne
theorem grownBy_refl (w : World) (r : Option Nat) : w.grownBy w r := ⟨rfl, rfl, rfl, Nat.le_refl _, fun _ _ _ => rfl⟩

theorem OL.get {w : World} {lo hi : Nat} {vs : List Value} {xss : List (List Int)} (h : OL w lo hi vs xss) {j : Nat} {v : Value} (hv : vs[j]? = some v) : Own .u64 w lo 47 v (xss.getD j []) := by
  have hjl : j < xss.length := by
    by_cases q : j < vs.length
    · rw [← h.1]; exact q
    · rw [List.getElem?_eq_none (by omega)] at hv; simp at hv
  obtain ⟨u', h1, h2, h3⟩ := h.2.1 j hjl
  rw [h1] at hv
  simp only [Option.some.injEq] at hv
  subst hv
  exact h2
theorem row_other {w : World} {base g k n : Nat} {e e' : TypeId} {l : Value} {us : List Value} {cs : Array Value} (h : w.ownsRow base e 1 l n us) (hg : w.heap[g]? = some (.cells cs e' (0, 0))) (he : e ≠ e') (u : Value) : (w.setCell ⟨g, k, none⟩ u).ownsRow base e 1 l n us := by
  obtain ⟨h1, h2⟩ := h
  refine ⟨h1, ?_⟩
  rcases h2 with h2 | ⟨g', c, cur, hv, hb, hc, r⟩
  · exact Or.inl h2
  · refine Or.inr ⟨g', c, cur, hv, hb, ?_, r⟩
    rw [Below.heap_setCell _ _ _ _ (by
      intro hh
      simp only at hh
      subst hh
      rw [hc] at hg
      simp only [Option.some.injEq, Obj.cells.injEq] at hg
      exact he hg.2.1)]
    exact hc
theorem OL.other {w : World} {lo hi g k : Nat} {vs : List Value} {xss : List (List Int)} {cs : Array Value} {e' : TypeId} (h : OL w lo hi vs xss) (hg : w.heap[g]? = some (.cells cs e' (0, 0))) (he : 47 ≠ e') (u : Value) : OL (w.setCell ⟨g, k, none⟩ u) lo hi vs xss :=
  ⟨h.1, fun j hj => by obtain ⟨v, h1, h2, h3⟩ := h.2.1 j hj; exact ⟨v, h1, h2.other (h2.apart_block hg he) u, h3⟩, h.2.2⟩
theorem GL.other {w : World} {lo hi g k q : Nat} {vs gs : List Value} {yss : List (List Int)} {cs : Array Value} {e' : TypeId} (h : GL w lo hi vs gs yss q) (hg : w.heap[g]? = some (.cells cs e' (0, 0))) (he : 47 ≠ e') (u : Value) : GL (w.setCell ⟨g, k, none⟩ u) lo hi vs gs yss q :=
  ⟨h.1, fun j hj => by obtain ⟨v, u', h1, h2, h3, h4⟩ := h.2 j hj; exact ⟨v, u', h1, h2, h3.other (h3.apart_block hg he) u, h4⟩⟩
theorem GL.later {w w' : World} {lo hi q : Nat} {vs gs : List Value} {yss : List (List Int)} (h : GL w lo hi vs gs yss q) (hb : Below w.heap.size w w') : GL w' lo hi vs gs yss q :=
  ⟨h.1, fun j hj => by obtain ⟨v, u', h1, h2, h3, h4⟩ := h.2 j hj; exact ⟨v, u', h1, h2, h3.later hb, h4⟩⟩
theorem row_slice {w : World} {base n : Nat} {e : TypeId} {l : Value} {us : List Value} (h : w.ownsRow base e 1 l n us) : ∃ a m c, l = .slice a m c := by
  rcases h.2 with ⟨h0, _⟩ | ⟨g, c, _, h0, _⟩
  · exact ⟨_, _, _, h0⟩
  · exact ⟨_, _, _, h0⟩
theorem cell_set {w : World} {g : Nat} {a b x : Value} {t : TypeId} (h : w.heap[g]? = some (.cells #[a, b] t (0, 0))) : (w.setCell ⟨g, 0, none⟩ x).heap[g]? = some (.cells #[x, b] t (0, 0)) ∧ (w.setCell ⟨g, 1, none⟩ x).heap[g]? = some (.cells #[a, x] t (0, 0)) := by
  constructor
  · rw [setCell_eq_setRow w g 0 #[a, b] t (0, 0) x h, setRow_heap w g #[a, b] _ t _ h]; rfl
  · rw [setCell_eq_setRow w g 1 #[a, b] t (0, 0) x h, setRow_heap w g #[a, b] _ t _ h]; rfl
theorem mark_step {w1 wr w6 : World} {lo hi gk q s2 : Nat} {vs gs : List Value} {yss : List (List Int)} {L kg kg' gv u : Value} {o : Obj} (hO : OL wr lo hi vs yss) (hGL : GL wr lo hi vs gs yss q) (hu : vs[q]? = some u)
    (hgv : Own .u64 wr lo 47 gv (yss.getD q [] ++ List.replicate 70 (mark2 q))) (hb : gv.ownBlock = u.ownBlock ∨ ∃ g, gv.ownBlock = some g ∧ hi ≤ g) (hk : wr.heap[gk]? = some (.cells #[L, kg] 45 (0, 0)))
    (hkg : wr.ownsRow s2 22 1 kg q gs) (hI : In lo hi w1 wr) (hgk : w1.heap.size ≤ gk) (hw2 : gk < s2) (hown : w6.ownsRow s2 22 1 kg' (q + 1) (gs ++ [gv])) (hgrow : (wr.alloc o).grownBy w6 kg.ownBlock) :
    OL (w6.setCell ⟨gk, 1, none⟩ kg') lo hi vs yss ∧ GL (w6.setCell ⟨gk, 1, none⟩ kg') lo hi vs (gs ++ [gv]) yss (q + 1) ∧ (w6.setCell ⟨gk, 1, none⟩ kg').heap[gk]? = some (.cells #[L, kg'] 45 (0, 0)) ∧
      (w6.setCell ⟨gk, 1, none⟩ kg').ownsRow s2 22 1 kg' (q + 1) (gs ++ [gv]) ∧ In lo hi w1 (w6.setCell ⟨gk, 1, none⟩ kg') ∧ w6.cell? ⟨gk, 1, none⟩ = some kg ∧ w6.frozen? ⟨gk, 1, none⟩ = false ∧ wr.heap.size ≤ (w6.setCell ⟨gk, 1, none⟩ kg').heap.size := by
  have al := alloc_below (w := wr) o
  have hkga : (wr.alloc o).ownsRow s2 22 1 kg q gs := World.ownsRow.alloc hkg o
  have hgl : gk < wr.heap.size := by
    by_cases hlt : gk < wr.heap.size
    · exact hlt
    · simp [Array.getElem?_eq_none (Nat.le_of_not_lt hlt)] at hk
  have hka : (wr.alloc o).heap[gk]? = some (.cells #[L, kg] 45 (0, 0)) := by rw [al.block gk hgl]; exact hk
  have hnk : some gk ≠ kg.ownBlock := by
    intro hh
    have := (World.ownsRow.lt hkg gk hh.symm).1
    omega
  have sz := al.size
  have hk6 : w6.heap[gk]? = some (.cells #[L, kg] 45 (0, 0)) := by rw [hgrow.block gk (by omega) hnk]; exact hka
  have O6 := (hO.later al).kept hgrow (fun j v hv => ((hO.later al).get hv).apart hkga (by decide))
  have G6 := (hGL.later al).kept hgrow (fun j v hj hv => by
    obtain ⟨v', u', h1, h2, h3, h4⟩ := (hGL.later al).2 j hj
    rw [hv] at h1
    simp only [Option.some.injEq] at h1
    subst h1
    exact h3.apart hkga (by decide))
  have V6 := (hgv.later al).kept hgrow ((hgv.later al).apart hkga (by decide))
  have G7 := G6.next hu V6 hb
  have hsz6 := hgrow.size
  refine ⟨O6.other hk6 (by decide) _, G7.other hk6 (by decide) _, ?_, row_other hown hk6 (by decide) _, ?_, ?_, ?_, ?_⟩
  · rw [setCell_eq_setRow w6 gk 1 #[L, kg] 45 (0, 0) kg' hk6, setRow_heap w6 gk #[L, kg] _ 45 _ hk6]
    rfl
  · have hsI := hI.size
    refine ⟨(hgrow.os.trans al.os).trans hI.os, (hgrow.tape.trans al.tape).trans hI.tape, (hgrow.output.trans al.output).trans hI.output, by simp [World.setCell]; omega, fun k hk' hkk => ?_⟩
    have hkw : k < wr.heap.size := by omega
    rw [Below.heap_setCell _ _ _ _ (by simp only; omega), hgrow.block k (by omega) (fun hh => by have := (World.ownsRow.lt hkg k hh.symm).1; omega), al.block k hkw]
    exact hI.block k hk' hkk
  · simp [World.cell?, hk6]
  · simp [World.frozen?, hk6]
  · simp [World.setCell]; omega

set_option maxHeartbeats 1600000 in
set_option maxRecDepth 100000 in
theorem marked_any {ga lo hi : Nat} {vs : List Value} {xss : List (List Int)} {w : World} (hl : w.heap[ga]? = some (.cells vs.toArray 22 (0, 0))) (hO : OL w lo hi vs xss) (h16 : xss.length = 16) (hga : hi ≤ ga) (hlo : lo ≤ w.heap.size) (hlen : ∀ j, j < 16 → (xss.getD j []).length ≤ 5000) :
    Calls Try.prog 25 #[.slice (some ⟨ga, 0, none⟩) 16 16] w fun e w' => ∃ kg gs yss s2, e = .returned (.agg #[.slice (some ⟨ga, 0, none⟩) 16 16, kg]) ∧ Mk 16 xss yss ∧ w'.heap[ga]? = some (.cells vs.toArray 22 (0, 0)) ∧ OL w' lo hi vs yss ∧ GL w' lo hi vs gs yss 16 ∧ w'.ownsRow s2 22 1 kg 16 gs ∧ w.heap.size ≤ s2 ∧ In lo hi w w' := by
  have hgl : ga < w.heap.size := by
    by_cases hlt : ga < w.heap.size
    · exact hlt
    · simp [Array.getElem?_eq_none (Nat.le_of_not_lt hlt)] at hl
  obtain ⟨i_u64, hi_u64, hz0_u64, hz1_u64, hz2_u64⟩ := info_parts info_u64
  obtain ⟨i_su64, hi_su64, hz0_su64, hz1_su64, hz2_su64⟩ := info_parts info_su
  have H16 : Hid (xss.length = 16) := h16
  have HLEN : Hid (∀ j, j < 16 → (xss.getD j []).length ≤ 5000) := hlen
  clear h16 hlen
  go_enter Try.func25, Try.ntmps25
  have al := alloc_below (w := w) (.cells #[.slice none 0 0, .slice none 0 0] 45)
  have O1 := hO.later al
  have hl1 : (w.alloc (.cells #[.slice none 0 0, .slice none 0 0] 45)).heap[ga]? = some (.cells vs.toArray 22 (0, 0)) := by rw [al.block ga hgl]; exact hl
  have hres : (w.alloc (.cells #[.slice none 0 0, .slice none 0 0] 45)).heap[w.heap.size]? = some (.cells #[.slice none 0 0, .slice none 0 0] 45) := heap_alloc_new _ _
  have sz1 : (w.alloc (.cells #[.slice none 0 0, .slice none 0 0] 45)).heap.size = w.heap.size + 1 := by simp
  go_wp2
  generalize w.alloc (.cells #[.slice none 0 0, .slice none 0 0] 45) = w1 at *
  have hgl1 : ga < w1.heap.size := by omega
  go_loopw [3, 4] (fun i _ wr => ∃ (q : Nat) (yss : List (List Int)), i = .int .i64 q ∧ q ≤ 16 ∧ OL wr lo hi vs yss ∧ Mk q xss yss ∧ In lo hi w1 wr) (fun i _ _ => 16 - (intOf i).toNat)
  case atStart => exact ⟨0, xss, rfl, by omega, O1, mk_zero xss, In.refl _ _ _⟩
  case round =>
    obtain ⟨q, yss, rfl, hq, hOy, hMk, hIn⟩ := hrel
    clear O1
    by_cases hlt : q < 16
    · have hlr : wr.heap[ga]? = some (.cells vs.toArray 22 (0, 0)) := by rw [hIn.block ga hgl1 (Or.inr hga)]; exact hl1
      have hqx : q < xss.length := by rw [H16.out]; exact hlt
      have hqy : q < yss.length := by rw [hMk.1]; exact hqx
      have hyq : yss.getD q [] = xss.getD q [] := hMk.2.2 q hqx (Nat.le_refl _)
      obtain ⟨v, hv, hvo, hvb⟩ := hOy.2.1 q hqy
      obtain ⟨av, nv, cv, rfl⟩ := hvo.slice
      have hnv : nv = (yss.getD q []).length := by
        obtain ⟨a2, c2, h2, _⟩ := hvo.readsC
        simp only [Value.slice.injEq] at h2
        exact h2.2.1
      have hn5 : nv ≤ 5000 := by rw [hnv, hyq]; exact HLEN.out q hlt
      have hst : OL wr lo hi vs (yss.set q (yss.getD q [])) := by
        have : yss.set q (yss.getD q []) = yss := by
          apply List.ext_getElem?
          intro i
          by_cases hi' : i = q
          · subst hi'; rw [List.getElem?_set_self hqy, List.getD_eq_getElem?_getD, List.getElem?_eq_getElem hqy]; rfl
          · rw [List.getElem?_set_ne (fun h => hi' h.symm)]
        rw [this]; exact hOy
      have HNV : Hid (nv = (xss.getD q []).length) := by show _ = _; rw [hnv, hyq]
      have HV : Hid (vs[q]? = some (.slice av nv cv)) := hv
      have hcl := cells_at hlr hv
      have hq16 : (q : Int) < 16 := by omega
      have HY : Hid ((yss.getD q []).length = nv) := hnv.symm
      clear hv hvb hnv hyq
      go_wp2
      go_loopw [4] (fun k w2 => ∃ (j : Nat) (us : List Int), k = .int .i64 j ∧ j ≤ nv ∧ OL w2 lo hi vs (yss.set q us) ∧ Hid (us.length = nv) ∧ Hid (us.take j = List.replicate j (mark1 q)) ∧ In lo hi w1 w2) (fun k _ => nv - (intOf k).toNat)
      case atStart => exact ⟨0, yss.getD q [], rfl, by omega, hst, HY, (rfl : (yss.getD q []).take 0 = List.replicate 0 (mark1 q)), hIn⟩
      case round =>
        obtain ⟨j, us, rfl, hj, hO2, hul, hut, hIn2⟩ := hrel
        clear hst hOy hvo hIn hlr hcl
        have hlr2 : wr.heap[ga]? = some (.cells vs.toArray 22 (0, 0)) := by rw [hIn2.block ga hgl1 (Or.inr hga)]; exact hl1
        have hcl2 := cells_at hlr2 HV.out
        clear hlr2
        by_cases hjl : j < nv
        · have hqs : q < (yss.set q us).length := by rw [List.length_set]; exact hqy
          obtain ⟨v', hv', hvo', hvb'⟩ := hO2.2.1 q hqs
          rw [HV.out] at hv'
          simp only [Option.some.injEq] at hv'
          subst hv'
          have eu : (yss.set q us).getD q [] = us := by simp [List.getD_eq_getElem?_getD, hqy]
          rw [eu] at hvo'
          have hlu : nv = us.length := hul.out.symm
          obtain ⟨g, rfl⟩ : ∃ g, av = some ⟨g, 0, none⟩ := by
            rcases hvo'.2 with ⟨h0, _⟩ | ⟨g, _, _, h0, _⟩
            · simp only [Value.slice.injEq] at h0; omega
            · simp only [Value.slice.injEq] at h0; exact ⟨g, h0.1⟩
          have hce := hvo'.cellAt hlu hjl
          have hfz := hvo'.frozenAt hlu j
          have hb := hvo'.block_lt (g := g) rfl
          have hhi := hvb' g rfl
          have hS := hO2.set (j := q) HV.out hqs (by rw [eu]; exact hlu) j (mark1 q)
          rw [eu, List.set_set] at hS
          have HT : Hid ((us.set j (mark1 q)).take (j + 1) = List.replicate (j + 1) (mark1 q)) := by show _ = _; rw [set_take_le (by omega), hut.out, List.replicate_succ']
          have HL : Hid ((us.set j (mark1 q)).length = nv) := by show _ = _; rw [List.length_set]; exact hul.out
          have HI := hIn2.setCell (k := j) hb.1 hhi (.int .u64 (mark1 q))
          have HM : Hid (5836665117072162816 + (q : Int) = mark1 q) := rfl
          generalize us.getD j 0 = u at *
          clear hO2 hvo' hvb' hlu eu hqs hb hhi
          go_wp2
          go_roundw
          case rel => exact ⟨j + 1, _, by go_num, by omega, hS, HL, HT, HI⟩
          case measure => simp [intOf]; omega
        · have hu2 : us = List.replicate (xss.getD q []).length (mark1 q) := by
            have h := hut.out
            rw [List.take_of_length_le (by rw [hul.out]; omega)] at h
            have hj2 : j = (xss.getD q []).length := by rw [← HNV.out]; omega
            rw [h, hj2]
          have hM2 := hMk.next hqx hu2
          clear hut hul hu2
          go_wp2
          go_roundw
          case rel => exact ⟨q + 1, _, by go_num, by omega, hO2, hM2, hIn2⟩
          case measure => simp [intOf]; omega
    · have hq16 : q = 16 := by omega
      have hM16 : Mk 16 xss yss := by rw [← hq16]; exact hMk
      clear hMk hq16
      have hlr : wr.heap[ga]? = some (.cells vs.toArray 22 (0, 0)) := by rw [hIn.block ga hgl1 (Or.inr hga)]; exact hl1
      have hgr : ga < wr.heap.size := Nat.lt_of_lt_of_le hgl1 hIn.size
      have al2 := alloc_below (w := wr) (.cells #[.slice (some ⟨ga, 0, none⟩) 16 16, .slice none 0 0] 45)
      have O2 := hOy.later al2
      have hl2 : (wr.alloc (.cells #[.slice (some ⟨ga, 0, none⟩) 16 16, .slice none 0 0] 45)).heap[ga]? = some (.cells vs.toArray 22 (0, 0)) := by rw [al2.block ga hgr]; exact hlr
      have hk2 : (wr.alloc (.cells #[.slice (some ⟨ga, 0, none⟩) 16 16, .slice none 0 0] 45)).heap[wr.heap.size]? = some (.cells #[.slice (some ⟨ga, 0, none⟩) 16 16, .slice none 0 0] 45) := heap_alloc_new _ _
      have I2 := hIn.trans (In.of_below (lo := lo) (hi := hi) al2)
      have sz2 : (wr.alloc (.cells #[.slice (some ⟨ga, 0, none⟩) 16 16, .slice none 0 0] 45)).heap.size = wr.heap.size + 1 := by simp
      clear hq hOy hlr
      go_wp2
      clear hlt
      generalize wr.alloc (.cells #[.slice (some ⟨ga, 0, none⟩) 16 16, .slice none 0 0] 45) = w2 at *
      obtain ⟨gk, hgk⟩ : ∃ gk, gk = wr.heap.size := ⟨_, rfl⟩
      rw [← hgk] at hk2 sz2 hgr ⊢
      have hkI : w1.heap.size ≤ gk := by rw [hgk]; exact hIn.size
      have hgks : gk < w2.heap.size := by omega
      clear hIn al2 hgk sz2
      have hyl : yss.length = 16 := by rw [hM16.1]; exact H16.out
      have HYL : Hid (yss.length = 16) := hyl
      have HY5 : Hid (∀ j, j < 16 → (yss.getD j []).length ≤ 5000) := fun j hj => by
        rw [hM16.2.1 j (by rw [H16.out]; exact hj) hj, List.length_replicate]; exact HLEN.out j hj
      clear hyl
      go_loopw [6, 7, 8] (fun i _ _ wz => ∃ (q : Nat) (gs : List Value) (kg : Value), i = .int .i64 q ∧ q ≤ 16 ∧ OL wz lo hi vs yss ∧ GL wz lo hi vs gs yss q ∧ wz.heap[gk]? = some (.cells #[.slice (some ⟨ga, 0, none⟩) 16 16, kg] 45 (0, 0)) ∧ wz.ownsRow w2.heap.size 22 1 kg q gs ∧ In lo hi w1 wz ∧ w2.heap.size ≤ wz.heap.size) (fun i _ _ _ => 16 - (intOf i).toNat)
      case atStart => exact ⟨0, [], .slice none 0 0, rfl, by omega, O2, gl_nil _ _ _ _ _, hk2, World.ownsRow_nil _ _ _ _, I2, Nat.le_refl _⟩
      case round =>
        obtain ⟨q, gs, kg, rfl, hq, hO3, hGL, hkz, hkg, hI3, hs3⟩ := hrel
        clear O2 hk2 I2 hl2
        have hl3 : wr.heap[ga]? = some (.cells vs.toArray 22 (0, 0)) := by rw [hI3.block ga hgl1 (Or.inr hga)]; exact hl1
        by_cases hlt : q < 16
        · have hqy : q < yss.length := by rw [HYL.out]; exact hlt
          obtain ⟨v, hv, hvo, hvb⟩ := hO3.2.1 q hqy
          obtain ⟨av, nv, cv, rfl⟩ := hvo.slice
          have hcl := cells_at hl3 hv
          have HV : Hid (vs[q]? = some (.slice av nv cv)) := hv
          have hn5 := HY5.out q hlt
          have hq16 : (q : Int) < 16 := by omega
          have hst : Own .u64 wr lo 47 (.slice av nv cv) (yss.getD q [] ++ List.replicate 0 (mark2 q)) := by simpa using hvo
          obtain ⟨yq, hyq⟩ : ∃ yq, yq = yss.getD q [] := ⟨_, rfl⟩
          rw [← hyq] at hst hvo hn5
          have HYQ : Hid (yq = yss.getD q []) := hyq
          have HVB : Hid (∀ g, Value.ownBlock (.slice av nv cv) = some g → g < hi) := hvb
          obtain ⟨wi, hwi⟩ : ∃ wi, wi = wr := ⟨_, rfl⟩
          subst hwi
          obtain ⟨ob, hob⟩ : ∃ ob, Value.ownBlock (.slice av nv cv) = ob := ⟨_, rfl⟩
          have HOB : Hid (Value.ownBlock (.slice av nv cv) = ob) := hob
          have HUI : Hid (∀ g, ob = some g → g < wi.heap.size) := fun g hg => (hvo.block_lt (hob.trans hg)).2
          have hloi : lo ≤ wi.heap.size := by have := hI3.size; omega
          clear hv hvb hl3 hyq hob
          go_wp2
          go_loopw [7, 8] (fun gg n wz => ∃ (t : Nat) (ls : List Int), n = .int .i64 t ∧ t ≤ 70 ∧ Own .u64 wz lo 47 gg ls ∧ Hid (ls = yq ++ List.replicate t (mark2 q)) ∧ Hid (ls.length = yq.length + t) ∧ Own .u64 wz lo 47 (.slice av nv cv) yq ∧ (gg.ownBlock = ob ∨ ∃ b, gg.ownBlock = some b ∧ wi.heap.size ≤ b) ∧ wi.grownBy wz ob) (fun _ n _ => 70 - (intOf n).toNat)
          case atStart => exact ⟨0, _, rfl, by omega, hst, rfl, (by simp : (yq ++ List.replicate 0 (mark2 q)).length = yq.length + 0), hvo, Or.inl HOB.out, grownBy_refl _ _⟩
          case round =>
            obtain ⟨t, ls, rfl, ht, hgo, hzs, hzl, hvo2, hbl, hG⟩ := hrel
            have hszw := hG.size
            by_cases h70 : t < 70
            · have hzl' : ls.length ≤ 6000 := by rw [hzl.out]; omega
              have hlow : lo ≤ wr.heap.size := by omega
              have HM : Hid (7061644215716937728 + (q : Int) = mark2 q) := rfl
              clear hst hvo hcl hO3 hGL hkz hkg hI3
              go_wp2_with (at_builtin; refine append_keep rfl _ _ 22 rfl lo 47 i_u64 (.int .u64 0) 8 Try.underlying22 hi_u64 hz0_u64 hz1_u64 hz2_u64 rfl _ _ _ rfl (hgo.row.alloc _) ⟨wr.heap.size, 0, none⟩ 1 1 [.int .u64 (7061644215716937728 + (q : Int))] rfl rfl one_new one_cell (by unfold maxLen; omega) (by omega) (by simp; omega) ?_)
              intro v' w5 hown' hgrow hkeep hblk
              have hkeep' : Own .u64 w5 lo 47 _ ls := hkeep
              have ho' := own_next hown' rfl
              rw [HM.out] at ho'
              have HZ : Hid (ls ++ [mark2 q] = yq ++ List.replicate (t + 1) (mark2 q)) := by show _ = _; rw [hzs.out, List.replicate_succ', List.append_assoc]
              have HZL : Hid ((ls ++ [mark2 q]).length = yq.length + (t + 1)) := by show _ = _; rw [List.length_append, hzl.out]; rfl
              rw [hzs.out] at hgo hkeep'
              obtain ⟨s1, s2, s3⟩ := grow_step hgo hvo2 HOB.out HUI.out hbl hG hgrow hkeep' hblk
              clear hown' hgrow hkeep hkeep' hblk hgo hvo2 hbl hG
              go_wp2
              go_roundw
              case rel => exact ⟨t + 1, _, by go_num, by omega, ho', HZ, HZL, s1, s2, s3⟩
              case measure => simp [intOf]; omega
            · have ht7 : t = 70 := by omega
              subst ht7
              obtain ⟨gav, gnv, gcv, hgv⟩ := hgo.slice
              subst hgv
              have hgoE : Own .u64 wr lo 47 (.slice gav gnv gcv) (yss.getD q [] ++ List.replicate 70 (mark2 q)) := by rw [← HYQ.out, ← hzs.out]; exact hgo
              -- what the elder lists, the lengthened ones, the struct and its row are now
              have hne : ∀ (j : Nat) (v : Value), vs[j]? = some v → j ≠ q → v.ownBlock = none ∨ v.ownBlock ≠ ob := fun j v hv hjq => by
                cases hb : v.ownBlock with
                | none => exact Or.inl rfl
                | some g =>
                  right
                  intro hh
                  exact hO3.2.2 j q v _ hjq hv HV.out g hb (HOB.out.trans hh.symm)
              have hhi : ∀ g, ob = some g → g < hi := fun g hg => HVB.out g (HOB.out.trans hg)
              have O4 : OL wr lo hi vs yss := ⟨hO3.1, fun j hj => by
                obtain ⟨v, h1, h2, h3⟩ := hO3.2.1 j hj
                by_cases hjq : j = q
                · subst hjq
                  rw [HV.out] at h1
                  simp only [Option.some.injEq] at h1
                  subst h1
                  exact ⟨_, HV.out, by rw [← HYQ.out]; exact hvo2, h3⟩
                · exact ⟨v, h1, h2.kept hG (hne j v h1 hjq), h3⟩, hO3.2.2⟩
              have G4 : GL wr lo hi vs gs yss q := hGL.kept hG (fun j v hj hv => by
                obtain ⟨v', u, g1, g2, g3, g4⟩ := hGL.2 j hj
                rw [hv] at g1
                simp only [Option.some.injEq] at g1
                subst g1
                rcases g4 with g4 | ⟨g, g4, g5⟩
                · rw [g4]; exact hne j u g2 (by omega)
                · right
                  rw [g4]
                  intro hh
                  have := hhi g hh.symm
                  omega)
              have hk4 : wr.heap[gk]? = some (.cells #[.slice (some ⟨ga, 0, none⟩) 16 16, kg] 45 (0, 0)) := by
                rw [hG.block gk (by omega) (fun hh => by have := hhi gk hh.symm; omega)]
                exact hkz
              have hkg4 : wr.ownsRow w2.heap.size 22 1 kg q gs := World.ownsRow.kept hkg hG (by
                cases hb : kg.ownBlock with
                | none => exact Or.inl rfl
                | some g =>
                  right
                  intro hh
                  have h1 := hhi g hh.symm
                  have h2 := (World.ownsRow.lt hkg g hb).1
                  omega)
              have I4 : In lo hi w1 wr := hI3.trans ⟨hG.os, hG.tape, hG.output, hG.size, fun k hk hkk => hG.block k hk (fun hh => by
                have h1 := hhi k hh.symm
                have h2 := (hvo2.block_lt (HOB.out.trans hh.symm)).1
                omega)⟩
              have G5 := fun (w' : World) (h : GL w' lo hi vs gs yss q) (ho : Own .u64 w' lo 47 (.slice gav gnv gcv) (yss.getD q [] ++ List.replicate 70 (mark2 q))) => h.next HV.out ho (by
                rcases hbl with hbl | ⟨b, hb, hb2⟩
                · exact Or.inl (hbl.trans HOB.out.symm)
                · exact Or.inr ⟨b, hb, by omega⟩)
              have hcg : wr.cell? ⟨gk, 1, none⟩ = some kg := by simp [World.cell?, hk4]
              have hw2 : w2.heap.size ≤ wr.heap.size := by omega
              obtain ⟨ka, kn, kc, hkv⟩ : ∃ ka kn kc, kg = .slice ka kn kc := by
                rcases hkg4.2 with ⟨h0, _⟩ | ⟨g, c, _, h0, _⟩
                · exact ⟨_, _, _, h0⟩
                · exact ⟨_, _, _, h0⟩
              subst hkv
              have hBL : Value.ownBlock (.slice gav gnv gcv) = Value.ownBlock (.slice av nv cv) ∨ ∃ g, Value.ownBlock (.slice gav gnv gcv) = some g ∧ hi ≤ g := by
                rcases hbl with hbl | ⟨b, hb, hb2⟩
                · exact Or.inl (hbl.trans HOB.out.symm)
                · exact Or.inr ⟨b, hb, by omega⟩
              have HBL : Hid (Value.ownBlock (.slice gav gnv gcv) = Value.ownBlock (.slice av nv cv) ∨ ∃ g, Value.ownBlock (.slice gav gnv gcv) = some g ∧ hi ≤ g) := hBL
              clear hgo hvo hst hvo2 hbl hG hO3 hGL hkz hkg hI3 hne hcl hs3 hzs hzl hBL G5
              go_wp2_with (at_builtin; refine wpList_append_own _ rfl _ _ 39 rfl w2.heap.size 22 i_su64 (.slice none 0 0) 1 24 Try.underlying39 hi_su64 hz0_su64 hz1_su64 hz2_su64 rfl (by decide) _ _ _ rfl (hkg4.alloc _) ⟨wr.heap.size, 0, none⟩ 1 1 [.slice gav gnv gcv] rfl rfl one_new one_list (by unfold maxLen; omega) (by omega) (by simp; omega) ?_)
              intro kg' w6 hown' hgrow _
              obtain ⟨ka', kn', kc', hkv'⟩ := row_slice hown'
              subst hkv'
              obtain ⟨m1, m2, m3, m4, m5, m6, m7, m8⟩ := mark_step O4 G4 HV.out hgoE HBL.out hk4 hkg4 I4 hkI hgks hown' hgrow
              clear hown' hgrow O4 G4 hk4 hkg4 I4 hgoE hcg
              go_wp2
              go_roundw
              case rel => exact ⟨q + 1, _, _, by go_num, by omega, m1, m2, m3, m4, m5, by omega⟩
              case measure => simp [intOf]; omega
        · have hq16 : q = 16 := by omega
          have G16 : GL wr lo hi vs gs yss 16 := by rw [← hq16]; exact hGL
          have R16 : wr.ownsRow w2.heap.size 22 1 kg 16 gs := by rw [← hq16]; exact hkg
          clear hq16 hGL hkg
          obtain ⟨ka, kn, kc, hkv⟩ := row_slice R16
          subst hkv
          have c0 : wr.cell? ⟨gk, 0, none⟩ = some (.slice (some ⟨ga, 0, none⟩) 16 16) := by simp [World.cell?, hkz]
          have c1 : wr.cell? ⟨gk, 1, none⟩ = some (.slice ka kn kc) := by simp [World.cell?, hkz]
          have hrr : wr.heap[w.heap.size]? = some (.cells #[.slice none 0 0, .slice none 0 0] 45) := by rw [hI3.block w.heap.size (by omega) (Or.inr (by omega))]; exact hres
          have d0 : wr.cell? ⟨w.heap.size, 0, none⟩ = some (.slice none 0 0) := by simp [World.cell?, hrr]
          have d1 : wr.cell? ⟨w.heap.size, 1, none⟩ = some (.slice none 0 0) := by simp [World.cell?, hrr]
          have f0 : wr.frozen? ⟨w.heap.size, 0, none⟩ = false := by simp [World.frozen?, hrr]
          have f1 : wr.frozen? ⟨w.heap.size, 1, none⟩ = false := by simp [World.frozen?, hrr]
          have hlz : wr.heap[ga]? = some (.cells vs.toArray 22 (0, 0)) := by rw [hI3.block ga hgl1 (Or.inr hga)]; exact hl1
          have e1 := (cell_set hrr (x := .slice (some ⟨ga, 0, none⟩) 16 16)).1
          have e2 := (cell_set e1 (x := .slice ka kn kc)).2
          have P1 := (hO3.other hrr (by decide) (k := 0) (.slice (some ⟨ga, 0, none⟩) 16 16)).other e1 (by decide) (k := 1) (.slice ka kn kc)
          have P2 := (G16.other hrr (by decide) (k := 0) (.slice (some ⟨ga, 0, none⟩) 16 16)).other e1 (by decide) (k := 1) (.slice ka kn kc)
          have P3 := row_other (k := 1) (row_other (k := 0) R16 hrr (by decide) (.slice (some ⟨ga, 0, none⟩) 16 16)) e1 (by decide) (.slice ka kn kc)
          have P4 : ((wr.setCell ⟨w.heap.size, 0, none⟩ (.slice (some ⟨ga, 0, none⟩) 16 16)).setCell ⟨w.heap.size, 1, none⟩ (.slice ka kn kc)).heap[ga]? = some (.cells vs.toArray 22 (0, 0)) := by
            rw [Below.heap_setCell _ _ _ _ (by simp only; omega), Below.heap_setCell _ _ _ _ (by simp only; omega)]; exact hlz
          have P5 : In lo hi w ((wr.setCell ⟨w.heap.size, 0, none⟩ (.slice (some ⟨ga, 0, none⟩) 16 16)).setCell ⟨w.heap.size, 1, none⟩ (.slice ka kn kc)) := by
            refine ⟨hI3.os.trans al.os, hI3.tape.trans al.tape, hI3.output.trans al.output, ?_, fun k hk' hkk => ?_⟩
            · have h1 := hI3.size
              simp [World.setCell]; omega
            · rw [Below.heap_setCell _ _ _ _ (by simp only; omega), Below.heap_setCell _ _ _ _ (by simp only; omega), hI3.block k (by omega) hkk]
              exact al.block k hk'
          have q0 : ((wr.setCell ⟨w.heap.size, 0, none⟩ (.slice (some ⟨ga, 0, none⟩) 16 16)).setCell ⟨w.heap.size, 1, none⟩ (.slice ka kn kc)).cell? ⟨w.heap.size, 0, none⟩ = some (.slice (some ⟨ga, 0, none⟩) 16 16) := by simp [World.cell?, e2]
          have q1 : ((wr.setCell ⟨w.heap.size, 0, none⟩ (.slice (some ⟨ga, 0, none⟩) 16 16)).setCell ⟨w.heap.size, 1, none⟩ (.slice ka kn kc)).cell? ⟨w.heap.size, 1, none⟩ = some (.slice ka kn kc) := by simp [World.cell?, e2]
          have s2le : w.heap.size ≤ w2.heap.size := by omega
          clear hO3 G16 R16 e1 e2 hlz hI3 hrr
          go_wp2
          refine bodyPost_ret (v := .agg #[.slice (some ⟨ga, 0, none⟩) 16 16, .slice ka kn kc]) (by simp [results, Try.results25, go_sem, q0, q1]) rfl ?_
          exact ⟨_, gs, yss, _, rfl, hM16, P4, P1, P2, P3, s2le, P5⟩
end Go.Proofs.Ythigofcbmgheeab

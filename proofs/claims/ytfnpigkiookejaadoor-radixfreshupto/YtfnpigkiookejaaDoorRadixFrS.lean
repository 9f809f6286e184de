/- RadixFresh: eight lists that are marked one after the other. -/
import Derived.Test.YtfnpigkiookejaaDoorRadixFrM
import Derived.Test.YtfnpigkiookejaaDoorSameQuiet
namespace Go.Proofs.YtfnpigkiookejaaDoor
open Go.ChangeShapes Go.WideShapes Go.ChangeAt Go.RowKit
open Na Ar
set_option linter.unusedVariables false
theorem info_su4 : (Tryd.prog.info? 22).map (fun i => (i.zero, i.size, i.bytes)) = some (some (.slice none 0 0), 1, 24) := by kernel_rfl
theorem info_su_parts : ∃ i, Tryd.prog.info? 22 = some i ∧ i.zero = some (.slice none 0 0) ∧ i.size = 1 ∧ i.bytes = 24 := by
  have h := info_su4
  cases hi : Tryd.prog.info? 22 with
  | none => rw [hi] at h; simp at h
  | some i => rw [hi] at h; simp at h; exact ⟨i, rfl, h.1, h.2.1, h.2.2⟩
theorem row_blk {w : World} {base n : Nat} {e : TypeId} {v : Value} {vs : List Value} (h : w.ownsRow base e 1 v n vs) {g : Nat} (hg : v.ownBlock = some g) : base ≤ g ∧ g < w.heap.size := by
  rcases h.2 with ⟨hv, _⟩ | ⟨g', cap, cur, hv, hb, hc, _⟩
  · rw [hv] at hg; simp [Value.ownBlock] at hg
  · rw [hv] at hg
    simp only [Value.ownBlock, Option.some.injEq] at hg
    subst hg
    refine ⟨hb, ?_⟩
    by_cases hlt : g' < w.heap.size
    · exact hlt
    · simp [Array.getElem?_eq_none (Nat.le_of_not_lt hlt)] at hc
theorem row_same {w w' : World} {base n : Nat} {e : TypeId} {v : Value} {vs : List Value} (h : w.ownsRow base e 1 v n vs) (hb : ∀ g, v.ownBlock = some g → w'.heap[g]? = w.heap[g]?) : w'.ownsRow base e 1 v n vs := by
  obtain ⟨h1, h2⟩ := h
  refine ⟨h1, ?_⟩
  rcases h2 with h2 | ⟨g, c, cur, hv, hg, hc, r⟩
  · exact Or.inl h2
  · refine Or.inr ⟨g, c, cur, hv, hg, ?_, r⟩
    rw [hb g (by rw [hv]; rfl)]; exact hc
theorem row_inn {w w' : World} {base n a b : Nat} {e : TypeId} {v : Value} {vs : List Value} (h : w.ownsRow base e 1 v n vs) (k : In a b w w') (hd : b ≤ base) : w'.ownsRow base e 1 v n vs :=
  row_same h fun g hg => k.block g (row_blk h hg).2 (Or.inr (Nat.le_trans hd (row_blk h hg).1))
theorem row_later {w w' : World} {base n : Nat} {e : TypeId} {v : Value} {vs : List Value} (h : w.ownsRow base e 1 v n vs) (hb : Below w.heap.size w w') : w'.ownsRow base e 1 v n vs :=
  row_same h fun g hg => hb.block g (row_blk h hg).2
/-- list k's mark -/
def mrk (k : Nat) : Int := 700 + (k : Int)
/-- the lists, the first i of them marked -/
def mkI (X : Nat → List Int) (i k : Nat) : List Int := if k < i then List.replicate (X k).length (mrk k) else X k
theorem mkI_self (X : Nat → List Int) (i : Nat) : mkI X i i = X i := by unfold mkI; rw [if_neg (by omega)]
theorem mkI_done {X : Nat → List Int} {i k : Nat} (h : k < i) : mkI X i k = List.replicate (X k).length (mrk k) := by unfold mkI; rw [if_pos h]
theorem mkI_next {X : Nat → List Int} {i k : Nat} (h : k ≠ i) : mkI X (i + 1) k = mkI X i k := by
  unfold mkI
  by_cases q : k < i
  · rw [if_pos q, if_pos (by omega)]
  · rw [if_neg q, if_neg (by omega)]
/-- the lengthened answers -/
def Ent (w : World) (lo hi : Nat → Nat) (X : Nat → List Int) (H : Nat) (gs : List Value) (n : Nat) : Prop :=
  ∀ j, j < n → ∃ u lo2 hi2, gs[j]? = some u ∧ Ls w lo2 hi2 u (List.replicate ((X j).length + 3) (mrk j)) ∧ ((lo2 = lo j ∧ hi2 = hi j) ∨ H ≤ lo2)
/-- where all lies -/
structure Geo (lo hi wlo whi : Nat → Nat) (gl gt gw H : Nat) : Prop where
  apart : ∀ j k, j < 8 → k < 8 → j ≠ k → hi j ≤ lo k ∨ hi k ≤ lo j
  wapart : ∀ j k, j < 4 → k < 8 → whi j ≤ lo k ∨ hi k ≤ wlo j
  outer : ∀ k, k < 8 → (gl < lo k ∨ hi k ≤ gl) ∧ (gt < lo k ∨ hi k ≤ gt) ∧ (gw < lo k ∨ hi k ≤ gw)
  below : ∀ k, k < 8 → lo k ≤ H ∧ hi k ≤ H
  last : gl < H ∧ gt < H ∧ gw < H
/-- what holds while lists are marked -/
structure Fr (lo hi wlo whi : Nat → Nat) (V wv : Nat → Value) (X : Nat → List Int) (gl gt gw H i : Nat) (gv : Value) (w : World) : Prop where
  lists : ∀ k, k < 8 → Ls w (lo k) (hi k) (V k) (mkI X i k)
  was : ∀ k, k < 4 → Ls w (wlo k) (whi k) (wv k) (X k)
  al : Arr w gl 4 V
  at' : Arr w gt 4 fun j => V (4 + j)
  aw : Arr w gw 4 wv
  g : ∃ gs : List Value, w.ownsRow H 22 1 gv i gs ∧ Ent w lo hi X H gs i
  sz : H ≤ w.heap.size
theorem Ent.inn {w w' : World} {lo hi : Nat → Nat} {X : Nat → List Int} {H n a b : Nat} {gs : List Value} (h : Ent w lo hi X H gs n) (k : In a b w w') (hH : b ≤ H) (hd : ∀ j, j < n → hi j ≤ a ∨ b ≤ lo j) : Ent w' lo hi X H gs n := by
  intro j hj
  obtain ⟨u, lo2, hi2, h1, h2, h3⟩ := h j hj
  refine ⟨u, lo2, hi2, h1, h2.inn k ?_, h3⟩
  rcases h3 with ⟨rfl, rfl⟩ | h3
  · exact hd j hj
  · right; omega
theorem Ent.later {w w' : World} {lo hi : Nat → Nat} {X : Nat → List Int} {H n : Nat} {gs : List Value} (h : Ent w lo hi X H gs n) (hb : Below w.heap.size w w') : Ent w' lo hi X H gs n := by
  intro j hj
  obtain ⟨u, lo2, hi2, h1, h2, h3⟩ := h j hj
  exact ⟨u, lo2, hi2, h1, h2.later hb, h3⟩
theorem Fr.later {lo hi wlo whi : Nat → Nat} {V wv : Nat → Value} {X : Nat → List Int} {gl gt gw H i : Nat} {gv : Value} {w w' : World} (h : Fr lo hi wlo whi V wv X gl gt gw H i gv w) (hb : Below w.heap.size w w') : Fr lo hi wlo whi V wv X gl gt gw H i gv w' := by
  obtain ⟨gs, g1, g2⟩ := h.g
  exact ⟨fun k hk => (h.lists k hk).later hb, fun k hk => (h.was k hk).later hb, h.al.later hb, h.at'.later hb, h.aw.later hb, ⟨gs, row_later g1 hb, g2.later hb⟩, Nat.le_trans h.sz hb.size⟩
/-- behind the mark, ahead of the append -/
theorem Fr.marked {lo hi wlo whi : Nat → Nat} {V wv : Nat → Value} {X : Nat → List Int} {gl gt gw H i : Nat} {gv : Value} {w w5 : World} (hG : Geo lo hi wlo whi gl gt gw H) (h : Fr lo hi wlo whi V wv X gl gt gw H i gv w) (hi8 : i < 8)
    (hl : Ls w5 (lo i) (hi i) (V i) (List.replicate (X i).length (mrk i))) (hin : In (lo i) (hi i) w w5) :
    (∀ k, k < 8 → Ls w5 (lo k) (hi k) (V k) (mkI X (i + 1) k)) ∧ (∀ k, k < 4 → Ls w5 (wlo k) (whi k) (wv k) (X k)) ∧ Arr w5 gl 4 V ∧ Arr w5 gt 4 (fun j => V (4 + j)) ∧ Arr w5 gw 4 wv ∧ (∃ gs, w5.ownsRow H 22 1 gv i gs ∧ Ent w5 lo hi X H gs i) ∧ H ≤ w5.heap.size := by
  obtain ⟨gs, g1, g2⟩ := h.g
  obtain ⟨o1, o2, o3⟩ := hG.outer i hi8
  refine ⟨fun k hk => ?_, fun k hk => (h.was k hk).inn hin (hG.wapart k i hk hi8), h.al.inn hin o1, h.at'.inn hin o2, h.aw.inn hin o3, ⟨gs, row_inn g1 hin (hG.below i hi8).2, g2.inn hin (hG.below i hi8).2 fun j hj => hG.apart j i (by omega) hi8 (by omega)⟩, Nat.le_trans h.sz hin.size⟩
  by_cases q : k = i
  · subst q
    rw [mkI_done (by omega)]; exact hl
  · rw [mkI_next q]
    exact (h.lists k hk).inn hin (hG.apart k i hk hi8 q)
theorem Fr.next {lo hi wlo whi : Nat → Nat} {V wv : Nat → Value} {X : Nat → List Int} {gl gt gw H i lo2 hi2 : Nat} {gv gv' v' : Value} {w5 w6 : World} {gs : List Value} (hG : Geo lo hi wlo whi gl gt gw H)
    (h1 : ∀ k, k < 8 → Ls w5 (lo k) (hi k) (V k) (mkI X (i + 1) k)) (h2 : ∀ k, k < 4 → Ls w5 (wlo k) (whi k) (wv k) (X k)) (h3 : Arr w5 gl 4 V) (h4 : Arr w5 gt 4 fun j => V (4 + j)) (h5 : Arr w5 gw 4 wv)
    (h6 : w5.ownsRow H 22 1 gv i gs) (h7 : Ent w5 lo hi X H gs i) (h8 : H ≤ w5.heap.size) (hv : Ls w5 lo2 hi2 v' (List.replicate ((X i).length + 3) (mrk i))) (hv2 : (lo2 = lo i ∧ hi2 = hi i) ∨ H ≤ lo2)
    (hown : w6.ownsRow H 22 1 gv' (i + 1) (gs ++ [v'])) (hgrow : (w5.alloc (.cells #[v'] 22)).grownBy w6 gv.ownBlock) : Fr lo hi wlo whi V wv X gl gt gw H (i + 1) gv' w6 := by
  have hb : Below w5.heap.size w5 (w5.alloc (.cells #[v'] 22)) := (Below.refl _ _).alloc (Nat.le_refl _) _
  have h6a := row_later h6 hb
  have hlen : gs.length = i := by have := h6.1; omega
  have hne : ∀ g, g < H → gv.ownBlock ≠ some g := fun g hg q => by have := (row_blk h6 q).1; omega
  have lsG : ∀ {a b : Nat} {u : Value} {xs : List Int}, Ls w5 a b u xs → Ls w6 a b u xs := fun q => (q.later hb).grown hgrow ((q.later hb).apart h6a (by decide))
  refine ⟨fun k hk => lsG (h1 k hk), fun k hk => lsG (h2 k hk), (h3.later hb).grown hgrow (hne _ hG.last.1), (h4.later hb).grown hgrow (hne _ hG.last.2.1), (h5.later hb).grown hgrow (hne _ hG.last.2.2), ⟨_, hown, fun j hj => ?_⟩, Nat.le_trans h8 (Nat.le_trans hb.size hgrow.size)⟩
  by_cases q : j < i
  · obtain ⟨u, a, b, e1, e2, e3⟩ := h7 j q
    exact ⟨u, a, b, by rw [List.getElem?_append_left (by omega)]; exact e1, lsG e2, e3⟩
  · have ej : j = i := by omega
    subst ej
    exact ⟨v', lo2, hi2, by rw [List.getElem?_append_right (by omega), hlen, Nat.sub_self]; rfl, lsG hv, hv2⟩
end Go.Proofs.YtfnpigkiookejaaDoor

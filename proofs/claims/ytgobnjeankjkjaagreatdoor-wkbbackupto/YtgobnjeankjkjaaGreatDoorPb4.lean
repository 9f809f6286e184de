import Derived.Laws.AppendOwn
import Derived.Below
import Derived.Laws.Rows
import Derived.Test.YtgobnjeankjkjaaGreatDoorPb2
/- Layer 17: rows that grow: points, rings, geometries. -/
namespace Go.Proofs.YtgobnjeankjkjaaGreatDoor
open Go Go.RowKit
open Tr Wk
set_option linter.unusedVariables false
namespace Wk
theorem own_cell {w : World} {base : Nat} {e : TypeId} {size n : Nat} {v : Value} {xs : List Value} (h : w.ownsRow base e size v n xs) {j : Nat} {u : Value} (hj : xs[j]? = some u) : ∃ g, v.ownBlock = some g ∧ w.cell? ⟨g, j, none⟩ = some u ∧ ∃ c, v = .slice (some ⟨g, 0, none⟩) n c := by
  rcases h.2 with ⟨rfl, rfl⟩ | ⟨g, cap, cur, rfl, hb, hc, h1, h2, h3, h4⟩
  · have : xs = [] := List.eq_nil_of_length_eq_zero (by rw [h.1]; simp)
    subst this
    cases hj
  · refine ⟨g, rfl, ?_, cap, rfl⟩
    have hadd : (⟨g, 0, none⟩ : Addr).add j = ⟨g, j, none⟩ := by unfold Addr.add; split <;> simp_all
    have := h.cells (g := g) rfl j u hj
    rwa [hadd] at this
theorem own_slice {w : World} {base : Nat} {e : TypeId} {size n : Nat} {v : Value} {xs : List Value} (h : w.ownsRow base e size v n xs) : ∃ a c, v = .slice a n c ∧ n ≤ c := by
  rcases h.2 with ⟨rfl, rfl⟩ | ⟨g, cap, cur, rfl, hb, hc, h1, h2, h3, h4⟩
  · exact ⟨none, 0, rfl, Nat.le_refl _⟩
  · exact ⟨_, cap, rfl, h1⟩
theorem own_keep {w w' : World} {base : Nat} {e : TypeId} {size n : Nat} {v : Value} {xs : List Value} (h : w.ownsRow base e size v n xs) (hk : ∀ g, v.ownBlock = some g → w'.heap[g]? = w.heap[g]?) : w'.ownsRow base e size v n xs := by
  obtain ⟨h0, h⟩ := h
  refine ⟨h0, ?_⟩
  rcases h with h | ⟨g, cap, cur, rfl, hb, hc, h1⟩
  · exact Or.inl h
  · exact Or.inr ⟨g, cap, cur, rfl, hb, (hk g rfl).trans hc, h1⟩
def ptcs : List Pt → List Value
  | [] => []
  | p :: r => .int .u64 p.1 :: .int .u64 p.2 :: ptcs r
theorem ptcs_snoc : ∀ (l : List Pt) (p : Pt), ptcs (l ++ [p]) = ptcs l ++ [.int .u64 p.1, .int .u64 p.2]
  | [], p => rfl
  | q :: r, p => by show _ :: _ :: ptcs (r ++ [p]) = _ :: _ :: (ptcs r ++ _); rw [ptcs_snoc r p]
theorem ptcs_at : ∀ (l : List Pt) (i : Nat) (p : Pt), l[i]? = some p → (ptcs l)[2 * i]? = some (.int .u64 p.1) ∧ (ptcs l)[2 * i + 1]? = some (.int .u64 p.2)
  | [], i, p, h => by cases h
  | q :: r, 0, p, h => by cases h; exact ⟨rfl, rfl⟩
  | q :: r, i + 1, p, h => by
    have := ptcs_at r i p h
    rw [show 2 * (i + 1) = 2 * i + 1 + 1 from by omega]
    exact this
theorem pts_of {w : World} {base : Nat} {e : TypeId} {v : Value} {ps : List Pt} (h : w.ownsRow base e 2 v ps.length (ptcs ps)) (hU : ∀ p ∈ ps, U6 p.1 ∧ U6 p.2) (hl : ps.length ≤ 1048576) : Pts (fun k => v.ownBlock = some k) w v ps := by
  obtain ⟨a, c, rfl, _⟩ := own_slice h
  refine ⟨hl, a, c, rfl, fun i p hi => ?_⟩
  obtain ⟨h1, h2⟩ := ptcs_at ps i p hi
  obtain ⟨g, e1, c1, c', e2⟩ := own_cell h h1
  obtain ⟨g', e1', c2, _⟩ := own_cell h h2
  rw [e1] at e1'
  cases e1'
  simp only [Value.slice.injEq] at e2
  obtain ⟨rfl, _, rfl⟩ := e2
  have hm := hU p (List.mem_of_getElem? hi)
  exact ⟨g, 0, rfl, e1, hm.1, hm.2, by rw [Nat.zero_add]; exact c1, by rw [Nat.zero_add]; exact c2⟩
/-- values that are lists of points -/
def Lrow (S : Nat → Prop) (w : World) : List Value → List (List Pt) → Prop
  | [], [] => True
  | x :: xs, p :: ps => Pts S w x p ∧ Lrow S w xs ps
  | _, _ => False
theorem Lrow.snoc {S : Nat → Prop} {w : World} : ∀ {xs : List Value} {ps : List (List Pt)} {x : Value} {p : List Pt}, Lrow S w xs ps → Pts S w x p → Lrow S w (xs ++ [x]) (ps ++ [p])
  | [], [], x, p, _, h => ⟨h, trivial⟩
  | y :: ys, q :: qs, x, p, h, k => ⟨h.1, Lrow.snoc h.2 k⟩
  | [], q :: qs, _, _, h, _ => by cases h
  | y :: ys, [], _, _, h, _ => by cases h
theorem Lrow.below {S : Nat → Prop} {w w' : World} (hk : Kp S w w') : ∀ {xs : List Value} {ps : List (List Pt)}, Lrow S w xs ps → Lrow S w' xs ps
  | [], [], _ => trivial
  | y :: ys, q :: qs, h => ⟨h.1.below hk, Lrow.below hk h.2⟩
  | [], q :: qs, h => by cases h
  | y :: ys, [], h => by cases h
theorem Lrow.mono {S S' : Nat → Prop} {w : World} (hS : ∀ k, S k → S' k) : ∀ {xs : List Value} {ps : List (List Pt)}, Lrow S w xs ps → Lrow S' w xs ps
  | [], [], _ => trivial
  | y :: ys, q :: qs, h => ⟨h.1.mono hS, Lrow.mono hS h.2⟩
  | [], q :: qs, h => by cases h
  | y :: ys, [], h => by cases h
theorem Lrow.len {S : Nat → Prop} {w : World} : ∀ {xs : List Value} {ps : List (List Pt)}, Lrow S w xs ps → xs.length = ps.length
  | [], [], _ => rfl
  | y :: ys, q :: qs, h => by rw [List.length_cons, List.length_cons, Lrow.len h.2]
  | [], q :: qs, h => by cases h
  | y :: ys, [], h => by cases h
theorem Lrow.at {S : Nat → Prop} {w : World} : ∀ {xs : List Value} {ps : List (List Pt)} {i : Nat} {p : List Pt}, Lrow S w xs ps → ps[i]? = some p → ∃ x, xs[i]? = some x ∧ Pts S w x p
  | [], [], i, p, _, h => by cases h
  | y :: ys, q :: qs, 0, p, h, k => by cases k; exact ⟨y, rfl, h.1⟩
  | y :: ys, q :: qs, i + 1, p, h, k => by
    obtain ⟨x, h1, h2⟩ := Lrow.at (i := i) (p := p) h.2 (by simpa using k)
    exact ⟨x, by simpa using h1, h2⟩
  | [], q :: qs, _, _, h, _ => by cases h
  | y :: ys, [], _, _, h, _ => by cases h
theorem rgs_of {S : Nat → Prop} {w : World} {base : Nat} {e : TypeId} {v : Value} {xs : List Value} {ps : List (List Pt)} (h : w.ownsRow base e 1 v ps.length xs) (hx : Lrow S w xs ps) (hl : ps.length ≤ 1048576) : Rgs (fun k => S k ∨ v.ownBlock = some k) w v ps := by
  obtain ⟨a, c, rfl, _⟩ := own_slice h
  refine ⟨hl, a, c, rfl, fun i p hi => ?_⟩
  obtain ⟨x, h1, h2⟩ := hx.at hi
  obtain ⟨g, e1, c1, c', e2⟩ := own_cell h h1
  simp only [Value.slice.injEq] at e2
  obtain ⟨rfl, _, rfl⟩ := e2
  exact ⟨g, 0, x, rfl, Or.inr e1, by rw [Nat.zero_add]; exact c1, h2.mono (fun k => Or.inl)⟩
/-- a value that is this tree -/
def TV (S : Nat → Prop) (w : World) (v : Value) (t : Tree) : Prop := GeoV S w v (.cons t.1 t.2 .nil)
theorem TV.mono {S S' : Nat → Prop} {w : World} (hS : ∀ k, S k → S' k) {v : Value} {t : Tree} (h : TV S w v t) : TV S' w v t := by
  obtain ⟨g, ch, v1, v2, pa, pc, h1, h2, h3, h4, h5, h6, h7⟩ := h
  exact ⟨g, ch, v1, v2, pa, pc, h1, h2, h3, h4.mono hS, h5.mono hS, h6, h7.mono hS⟩
theorem TV.below {S : Nat → Prop} {w w' : World} (hk : Kp S w w') {v : Value} {t : Tree} (h : TV S w v t) : TV S w' v t := GeoV.below h hk
theorem TV.parts {S : Nat → Prop} {w : World} {v : Value} {t : Tree} (h : TV S w v t) : ∃ v1 v2 pa pc, v = .agg #[.int .i64 t.1.kind, v1, v2, .slice pa t.2.len pc] ∧ (-9223372036854775808 ≤ t.1.kind ∧ t.1.kind ≤ 9223372036854775807) ∧ Pts S w v1 t.1.line ∧ Rgs S w v2 t.1.rings ∧ (t.2.len ≤ 1048576 ∧ t.2.len ≤ pc) ∧ FoAt S w t.2 pa := by
  obtain ⟨g, ch, v1, v2, pa, pc, h1, h2, h3, h4, h5, h6, h7⟩ := h
  injection h2 with e1 e2 e3
  subst e1 e2
  exact ⟨v1, v2, pa, pc, h1, h3, h4, h5, h6, h7⟩
theorem tv_of {S : Nat → Prop} {w : World} {v1 v2 : Value} {pa : Option Addr} {pc : Nat} {t : Tree} (h3 : -9223372036854775808 ≤ t.1.kind ∧ t.1.kind ≤ 9223372036854775807) (h4 : Pts S w v1 t.1.line) (h5 : Rgs S w v2 t.1.rings) (h6 : t.2.len ≤ 1048576 ∧ t.2.len ≤ pc) (h7 : FoAt S w t.2 pa) : TV S w (.agg #[.int .i64 t.1.kind, v1, v2, .slice pa t.2.len pc]) t :=
  ⟨t.1, t.2, v1, v2, pa, pc, rfl, rfl, h3, h4, h5, h6, h7⟩
def Grow (S : Nat → Prop) (w : World) : List Value → List Tree → Prop
  | [], [] => True
  | x0 :: x1 :: x2 :: x3 :: xs, t :: ts => TV S w (.agg #[x0, x1, x2, x3]) t ∧ Grow S w xs ts
  | _, _ => False
theorem Grow.split {S : Nat → Prop} {w : World} {xs : List Value} {t : Tree} {ts : List Tree} (h : Grow S w xs (t :: ts)) : ∃ x0 x1 x2 x3 ys, xs = x0 :: x1 :: x2 :: x3 :: ys ∧ TV S w (.agg #[x0, x1, x2, x3]) t ∧ Grow S w ys ts := by
  match xs, h with
  | x0 :: x1 :: x2 :: x3 :: ys, h => exact ⟨x0, x1, x2, x3, ys, rfl, h.1, h.2⟩
theorem Grow.nil_inv {S : Nat → Prop} {w : World} {xs : List Value} (h : Grow S w xs []) : xs = [] := by
  cases xs with
  | nil => rfl
  | cons a r => simp [Grow] at h
theorem Grow.snoc {S : Nat → Prop} {w : World} : ∀ {ts : List Tree} {xs : List Value} {x0 x1 x2 x3 : Value} {t : Tree}, Grow S w xs ts → TV S w (.agg #[x0, x1, x2, x3]) t → Grow S w (xs ++ [x0, x1, x2, x3]) (ts ++ [t])
  | [], xs, x0, x1, x2, x3, t, h, k => by
    have := h.nil_inv
    subst this
    exact ⟨k, trivial⟩
  | q :: qs, xs, x0, x1, x2, x3, t, h, k => by
    obtain ⟨y0, y1, y2, y3, ys, rfl, h1, h2⟩ := h.split
    exact ⟨h1, Grow.snoc h2 k⟩
theorem Grow.map {S S' : Nat → Prop} {w w' : World} (hf : ∀ v t, TV S w v t → TV S' w' v t) : ∀ {ts : List Tree} {xs : List Value}, Grow S w xs ts → Grow S' w' xs ts
  | [], xs, h => by
    have := h.nil_inv
    subst this
    trivial
  | q :: qs, xs, h => by
    obtain ⟨y0, y1, y2, y3, ys, rfl, h1, h2⟩ := h.split
    exact ⟨hf _ _ h1, Grow.map hf h2⟩
theorem Grow.len {S : Nat → Prop} {w : World} : ∀ {ts : List Tree} {xs : List Value}, Grow S w xs ts → xs.length = ts.length * 4
  | [], xs, h => by
    have := h.nil_inv
    subst this
    rfl
  | q :: qs, xs, h => by
    obtain ⟨y0, y1, y2, y3, ys, rfl, h1, h2⟩ := h.split
    simp only [List.length_cons, Grow.len h2]
    omega
theorem Grow.fo {S : Nat → Prop} {w : World} {g : Nat} (hg : S g) : ∀ {ts : List Tree} {xs : List Value} {o : Nat}, Grow S w xs ts → (∀ j u, xs[j]? = some u → w.cell? ⟨g, o + j, none⟩ = some u) → FoAt S w (foOf ts) (some ⟨g, o, none⟩)
  | [], xs, o, h, hc => trivial
  | q :: qs, xs, o, h, hc => by
    obtain ⟨y0, y1, y2, y3, ys, rfl, h1, h2⟩ := h.split
    obtain ⟨v1, v2, pa, pc, e, h3, h4, h5, h6, h7⟩ := h1.parts
    injection e with e
    simp at e
    obtain ⟨rfl, rfl, rfl, rfl⟩ := e
    refine ⟨g, o, pa, pc, rfl, h6, ⟨hg, h3, hc 0 _ rfl, ⟨_, hc 1 _ rfl, h4⟩, ⟨_, hc 2 _ rfl, h5⟩, hc 3 _ rfl⟩, h7, Grow.fo hg h2 (fun j u hj => ?_)⟩
    rw [show o + 4 + j = o + (j + 4) by omega]
    exact hc (j + 4) u (by simpa using hj)
theorem fo_of {S : Nat → Prop} {w : World} {base : Nat} {e : TypeId} {v : Value} {xs : List Value} {ts : List Tree} (h : w.ownsRow base e 4 v ts.length xs) (hx : Grow S w xs ts) : ∃ pa pc, v = .slice pa ts.length pc ∧ ts.length ≤ pc ∧ FoAt (fun k => S k ∨ v.ownBlock = some k) w (foOf ts) pa := by
  have hx' : Grow (fun k => S k ∨ v.ownBlock = some k) w xs ts := hx.map (fun v t h => h.mono (fun k => Or.inl))
  rcases h.2 with ⟨rfl, h0⟩ | ⟨g, cap, cur, rfl, hb, hc, h1, h2, h3, h4⟩
  · have e : ts = [] := List.eq_nil_of_length_eq_zero h0
    subst e
    exact ⟨none, 0, rfl, Nat.le_refl _, trivial⟩
  · refine ⟨_, cap, rfl, h1, Grow.fo (Or.inr rfl) hx' (fun j u hj => ?_)⟩
    have hadd : (⟨g, 0, none⟩ : Addr).add j = ⟨g, j, none⟩ := by unfold Addr.add; split <;> simp_all
    have := h.cells (g := g) rfl j u hj
    rwa [hadd, ← Nat.zero_add j] at this
end Wk
end Go.Proofs.YtgobnjeankjkjaaGreatDoor


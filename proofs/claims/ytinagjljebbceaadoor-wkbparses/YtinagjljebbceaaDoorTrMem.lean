/- Trees in memory: a forest (the parts of one geometry) as a binary tree of siblings and children. -/
import Derived.Below
import Derived.Laws.Rows
namespace Go.Proofs.YtinagjljebbceaaDoor
open Go Go.RowKit
set_option linter.unusedVariables false
namespace Tr
abbrev Pt := Int × Int
/-- a geometry without its parts -/
structure Gm where
  kind : Int
  line : List Pt
  rings : List (List Pt)
inductive Fo where
  | nil
  | cons (g : Gm) (ch rest : Fo)
def Fo.len : Fo → Nat
  | .nil => 0
  | .cons _ _ r => r.len + 1
/-- all geometries -/
def Fo.cnt : Fo → Nat
  | .nil => 0
  | .cons _ c r => c.cnt + r.cnt + 1
def U6 (x : Int) : Prop := 0 ≤ x ∧ x < 18446744073709551616
/-- the value v is the list l of points, in blocks of S -/
def Pts (S : Nat → Prop) (W : World) (v : Value) (l : List Pt) : Prop :=
  l.length ≤ 1048576 ∧ ∃ (a : Option Addr) (c : Nat), v = .slice a l.length c ∧ ∀ i p, l[i]? = some p → ∃ b o, a = some ⟨b, o, none⟩ ∧ S b ∧ U6 p.1 ∧ U6 p.2 ∧ W.cell? ⟨b, o + 2 * i, none⟩ = some (.int .u64 p.1) ∧ W.cell? ⟨b, o + 2 * i + 1, none⟩ = some (.int .u64 p.2)
/-- a list of such lists -/
def Rgs (S : Nat → Prop) (W : World) (v : Value) (l : List (List Pt)) : Prop :=
  l.length ≤ 1048576 ∧ ∃ (a : Option Addr) (c : Nat), v = .slice a l.length c ∧ ∀ i p, l[i]? = some p → ∃ b o u, a = some ⟨b, o, none⟩ ∧ S b ∧ W.cell? ⟨b, o + i, none⟩ = some u ∧ Pts S W u p
/-- a geometry's own cells at an address -/
def GmAt (S : Nat → Prop) (W : World) (b o : Nat) (g : Gm) (parts : Value) : Prop :=
  S b ∧ (-9223372036854775808 ≤ g.kind ∧ g.kind ≤ 9223372036854775807) ∧ W.cell? ⟨b, o, none⟩ = some (.int .i64 g.kind) ∧ (∃ v, W.cell? ⟨b, o + 1, none⟩ = some v ∧ Pts S W v g.line) ∧ (∃ v, W.cell? ⟨b, o + 2, none⟩ = some v ∧ Rgs S W v g.rings) ∧ W.cell? ⟨b, o + 3, none⟩ = some parts
/-- a forest, one geometry behind the other, from an address on -/
def FoAt (S : Nat → Prop) (W : World) : Fo → Option Addr → Prop
  | .nil, _ => True
  | .cons g c r, a => ∃ b o pa pc, a = some ⟨b, o, none⟩ ∧ (c.len ≤ 1048576 ∧ c.len ≤ pc) ∧ GmAt S W b o g (.slice pa c.len pc) ∧ FoAt S W c pa ∧ FoAt S W r (some ⟨b, o + 4, none⟩)
section
variable {S : Nat → Prop} {W W' : World}
/-- what lies in S is kept -/
structure Kp (S : Nat → Prop) (W W' : World) : Prop where
  size : W.heap.size ≤ W'.heap.size
  block : ∀ k, S k → W'.heap[k]? = W.heap[k]?
theorem Kp.refl (S : Nat → Prop) (W : World) : Kp S W W := ⟨Nat.le_refl _, fun _ _ => rfl⟩
theorem Kp.trans {A B C : World} (h : Kp S A B) (k : Kp S B C) : Kp S A C := ⟨Nat.le_trans h.size k.size, fun i hi => (k.block i hi).trans (h.block i hi)⟩
theorem Kp.of_below {B : Nat} (h : Below B W W') (hS : ∀ k, S k → k < B) : Kp S W W' := ⟨h.size, fun k hk => h.block k (hS k hk)⟩
theorem Kp.cell (h : Kp S W W') {p : Addr} (hp : S p.block) : W'.cell? p = W.cell? p := World.cell?_of_block (w := W) (h.block p.block hp)
theorem Kp.alloc (h : Kp S W W') (hS : ∀ k, S k → k < W'.heap.size) (o : Obj) : Kp S W (W'.alloc o) := h.trans ⟨by simp, fun k hk => Below.heap_alloc _ _ _ (hS k hk)⟩
theorem Kp.setCell (h : Kp S W W') {p : Addr} (hp : ¬ S p.block) (u : Value) : Kp S W (W'.setCell p u) := h.trans ⟨by simp [World.setCell], fun k hk => Below.heap_setCell _ _ _ _ (fun e => hp (e ▸ hk))⟩
theorem Pts.below (h : Kp S W W') {v : Value} {l : List Pt} (hp : Pts S W v l) : Pts S W' v l := by
  obtain ⟨hl, a, c, rfl, hc⟩ := hp
  refine ⟨hl, a, c, rfl, fun i p hi => ?_⟩
  obtain ⟨b, o, rfl, hb, u1, u2, c1, c2⟩ := hc i p hi
  exact ⟨b, o, rfl, hb, u1, u2, (h.cell (by exact hb)).trans c1, (h.cell (by exact hb)).trans c2⟩
theorem Rgs.below (h : Kp S W W') {v : Value} {l : List (List Pt)} (hp : Rgs S W v l) : Rgs S W' v l := by
  obtain ⟨hl, a, c, rfl, hc⟩ := hp
  refine ⟨hl, a, c, rfl, fun i p hi => ?_⟩
  obtain ⟨b, o, u, rfl, hb, c1, hu⟩ := hc i p hi
  exact ⟨b, o, u, rfl, hb, (h.cell (by exact hb)).trans c1, hu.below h⟩
theorem GmAt.below (h : Kp S W W') {b o : Nat} {g : Gm} {v : Value} (hg : GmAt S W b o g v) : GmAt S W' b o g v := by
  obtain ⟨hb, hk, c0, ⟨v1, c1, p1⟩, ⟨v2, c2, p2⟩, c3⟩ := hg
  exact ⟨hb, hk, (h.cell (by exact hb)).trans c0, ⟨v1, (h.cell (by exact hb)).trans c1, p1.below h⟩, ⟨v2, (h.cell (by exact hb)).trans c2, p2.below h⟩, (h.cell (by exact hb)).trans c3⟩
theorem FoAt.below (h : Kp S W W') : ∀ {f : Fo} {a : Option Addr}, FoAt S W f a → FoAt S W' f a
  | .nil, _, _ => trivial
  | .cons _ _ _, _, ⟨b, o, pa, pc, e, hl, hg, h1, h2⟩ => ⟨b, o, pa, pc, e, hl, hg.below h, FoAt.below h h1, FoAt.below h h2⟩
theorem Pts.mono {S' : Nat → Prop} (hS : ∀ k, S k → S' k) {v : Value} {l : List Pt} (hp : Pts S W v l) : Pts S' W v l := by
  obtain ⟨hl, a, c, rfl, hc⟩ := hp
  refine ⟨hl, a, c, rfl, fun i p hi => ?_⟩
  obtain ⟨b, o, rfl, hb, r⟩ := hc i p hi
  exact ⟨b, o, rfl, hS _ hb, r⟩
theorem Rgs.mono {S' : Nat → Prop} (hS : ∀ k, S k → S' k) {v : Value} {l : List (List Pt)} (hp : Rgs S W v l) : Rgs S' W v l := by
  obtain ⟨hl, a, c, rfl, hc⟩ := hp
  refine ⟨hl, a, c, rfl, fun i p hi => ?_⟩
  obtain ⟨b, o, u, rfl, hb, c1, hu⟩ := hc i p hi
  exact ⟨b, o, u, rfl, hS _ hb, c1, hu.mono hS⟩
theorem GmAt.mono {S' : Nat → Prop} (hS : ∀ k, S k → S' k) {b o : Nat} {g : Gm} {v : Value} (hg : GmAt S W b o g v) : GmAt S' W b o g v := by
  obtain ⟨hb, hk, c0, ⟨v1, c1, p1⟩, ⟨v2, c2, p2⟩, c3⟩ := hg
  exact ⟨hS _ hb, hk, c0, ⟨v1, c1, p1.mono hS⟩, ⟨v2, c2, p2.mono hS⟩, c3⟩
theorem FoAt.mono {S' : Nat → Prop} (hS : ∀ k, S k → S' k) : ∀ {f : Fo} {a : Option Addr}, FoAt S W f a → FoAt S' W f a
  | .nil, _, _ => trivial
  | .cons _ _ _, _, ⟨b, o, pa, pc, e, hl, hg, h1, h2⟩ => ⟨b, o, pa, pc, e, hl, hg.mono hS, FoAt.mono hS h1, FoAt.mono hS h2⟩
end
/-- the value of a geometry: this tree -/
def GeoV (S : Nat → Prop) (W : World) (v : Value) (f : Fo) : Prop :=
  ∃ g ch v1 v2 pa pc, v = .agg #[.int .i64 g.kind, v1, v2, .slice pa ch.len pc] ∧ f = .cons g ch .nil ∧ (-9223372036854775808 ≤ g.kind ∧ g.kind ≤ 9223372036854775807) ∧ Pts S W v1 g.line ∧ Rgs S W v2 g.rings ∧ (ch.len ≤ 1048576 ∧ ch.len ≤ pc) ∧ FoAt S W ch pa
theorem GeoV.below {S : Nat → Prop} {W W' : World} {v : Value} {f : Fo} (h : GeoV S W v f) (hk : Kp S W W') : GeoV S W' v f := by
  obtain ⟨g, ch, v1, v2, pa, pc, h1, h2, h3, h4, h5, h6, h7⟩ := h
  exact ⟨g, ch, v1, v2, pa, pc, h1, h2, h3, h4.below hk, h5.below hk, h6, h7.below hk⟩
theorem cell_of {W : World} {g : Nat} {c : Array Value} {t : TypeId} {f : Nat × Nat} (h : W.heap[g]? = some (.cells c t f)) (i : Nat) : W.cell? ⟨g, i, none⟩ = c[i]? := by simp [World.cell?, h]
/-- laid into a block of its own -/
theorem GeoV.box {S : Nat → Prop} {w : World} {v1 v2 : Value} {kind : Int} {pa : Option Addr} {pl pc : Nat} {f : Fo} {t : TypeId} (h : GeoV S w (.agg #[.int .i64 kind, v1, v2, .slice pa pl pc]) f) (hS : ∀ k, S k → k < w.heap.size) :
    FoAt (fun k => S k ∨ k = w.heap.size) (w.alloc (.cells #[.int .i64 kind, v1, v2, .slice pa pl pc] t)) f (some ⟨w.heap.size, 0, none⟩) := by
  obtain ⟨g, ch, u1, u2, qa, qc, h1, rfl, h3, h4, h5, h6, h7⟩ := h
  injection h1 with h1
  simp at h1
  obtain ⟨e1, e2, e3, e4, e5, e6⟩ := h1
  subst e1 e2 e3 e4 e5 e6
  have hk : Kp S w (w.alloc (.cells #[.int .i64 g.kind, v1, v2, .slice pa ch.len pc] t)) := (Kp.refl S w).alloc hS _
  have hb : (w.alloc (.cells #[.int .i64 g.kind, v1, v2, .slice pa ch.len pc] t)).heap[w.heap.size]? = some (.cells #[.int .i64 g.kind, v1, v2, .slice pa ch.len pc] t (0, 0)) := heap_alloc_new w _
  have hm : ∀ k, S k → S k ∨ k = w.heap.size := fun k hk => .inl hk
  exact ⟨w.heap.size, 0, pa, pc, rfl, h6, ⟨.inr rfl, h3, cell_of hb 0, ⟨v1, cell_of hb 1, (h4.below hk).mono hm⟩, ⟨v2, cell_of hb 2, (h5.below hk).mono hm⟩, cell_of hb 3⟩, (h7.below hk).mono hm, trivial⟩
/-- a geometry where it stands: its number is its place in the list -/
structure It where
  g : Gm
  ch : Nat
  level : Nat
  home : Int
/-- the order of the text -/
def Fo.pre (lv : Nat) (home : Int) : Fo → List It
  | .nil => []
  | .cons g c r => ⟨g, c.len, lv, home⟩ :: (c.pre (lv + 1) g.kind ++ r.pre lv home)
theorem Fo.pre_length (f : Fo) : ∀ lv home, (f.pre lv home).length = f.cnt := by
  induction f with
  | nil => intro _ _; rfl
  | cons g c r ih1 ih2 => intro lv home; simp [Fo.pre, Fo.cnt, ih1, ih2]
theorem len_zero {f : Fo} (h : f.len = 0) : f = .nil := by cases f with | nil => rfl | cons _ _ _ => cases h
end Tr
end Go.Proofs.YtinagjljebbceaaDoor

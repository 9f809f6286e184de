import Derived.Below
import Derived.Laws.Rows
import Derived.Test.YtgobnjeankjkjaaGreatDoorPb1
/- Trees in memory: a forest (the parts of one geometry) as a binary tree of siblings and children. -/
namespace Go.Proofs.YtgobnjeankjkjaaGreatDoor
open Go Go.RowKit
set_option linter.unusedVariables false
namespace Tr
abbrev Pt := Int × Int
/-- a geometry without its parts -/
structure Gm where
  kind : Int
  line : List Pt
  rings : List (List Pt)
inductive Fo where
  | nil
  | cons (g : Gm) (ch rest : Fo)
def Fo.len : Fo → Nat
  | .nil => 0
  | .cons _ _ r => r.len + 1
/-- all geometries -/
def Fo.cnt : Fo → Nat
  | .nil => 0
  | .cons _ c r => c.cnt + r.cnt + 1
def U6 (x : Int) : Prop := 0 ≤ x ∧ x < 18446744073709551616
/-- the value v is the list l of points, in blocks of S -/
def Pts (S : Nat → Prop) (W : World) (v : Value) (l : List Pt) : Prop :=
  l.length ≤ 1048576 ∧ ∃ (a : Option Addr) (c : Nat), v = .slice a l.length c ∧ ∀ i p, l[i]? = some p → ∃ b o, a = some ⟨b, o, none⟩ ∧ S b ∧ U6 p.1 ∧ U6 p.2 ∧ W.cell? ⟨b, o + 2 * i, none⟩ = some (.int .u64 p.1) ∧ W.cell? ⟨b, o + 2 * i + 1, none⟩ = some (.int .u64 p.2)
/-- a list of such lists -/
def Rgs (S : Nat → Prop) (W : World) (v : Value) (l : List (List Pt)) : Prop :=
  l.length ≤ 1048576 ∧ ∃ (a : Option Addr) (c : Nat), v = .slice a l.length c ∧ ∀ i p, l[i]? = some p → ∃ b o u, a = some ⟨b, o, none⟩ ∧ S b ∧ W.cell? ⟨b, o + i, none⟩ = some u ∧ Pts S W u p
/-- a geometry's own cells at an address -/
def GmAt (S : Nat → Prop) (W : World) (b o : Nat) (g : Gm) (parts : Value) : Prop :=
  S b ∧ (-9223372036854775808 ≤ g.kind ∧ g.kind ≤ 9223372036854775807) ∧ W.cell? ⟨b, o, none⟩ = some (.int .i64 g.kind) ∧ (∃ v, W.cell? ⟨b, o + 1, none⟩ = some v ∧ Pts S W v g.line) ∧ (∃ v, W.cell? ⟨b, o + 2, none⟩ = some v ∧ Rgs S W v g.rings) ∧ W.cell? ⟨b, o + 3, none⟩ = some parts
/-- a forest, one geometry behind the other, from an address on -/
def FoAt (S : Nat → Prop) (W : World) : Fo → Option Addr → Prop
  | .nil, _ => True
  | .cons g c r, a => ∃ b o pa pc, a = some ⟨b, o, none⟩ ∧ (c.len ≤ 1048576 ∧ c.len ≤ pc) ∧ GmAt S W b o g (.slice pa c.len pc) ∧ FoAt S W c pa ∧ FoAt S W r (some ⟨b, o + 4, none⟩)
section
variable {S : Nat → Prop} {W W' : World}
/-- what lies in S is kept -/
structure Kp (S : Nat → Prop) (W W' : World) : Prop where
  size : W.heap.size ≤ W'.heap.size
  block : ∀ k, S k → W'.heap[k]? = W.heap[k]?
theorem Kp.refl (S : Nat → Prop) (W : World) : Kp S W W := ⟨Nat.le_refl _, fun _ _ => rfl⟩
theorem Kp.trans {A B C : World} (h : Kp S A B) (k : Kp S B C) : Kp S A C := ⟨Nat.le_trans h.size k.size, fun i hi => (k.block i hi).trans (h.block i hi)⟩
theorem Kp.of_below {B : Nat} (h : Below B W W') (hS : ∀ k, S k → k < B) : Kp S W W' := ⟨h.size, fun k hk => h.block k (hS k hk)⟩
theorem Kp.cell (h : Kp S W W') {p : Addr} (hp : S p.block) : W'.cell? p = W.cell? p := World.cell?_of_block (w := W) (h.block p.block hp)
theorem Kp.alloc (h : Kp S W W') (hS : ∀ k, S k → k < W'.heap.size) (o : Obj) : Kp S W (W'.alloc o) := h.trans ⟨by simp, fun k hk => Below.heap_alloc _ _ _ (hS k hk)⟩
theorem Kp.setCell (h : Kp S W W') {p : Addr} (hp : ¬ S p.block) (u : Value) : Kp S W (W'.setCell p u) := h.trans ⟨by simp [World.setCell], fun k hk => Below.heap_setCell _ _ _ _ (fun e => hp (e ▸ hk))⟩
theorem Pts.below (h : Kp S W W') {v : Value} {l : List Pt} (hp : Pts S W v l) : Pts S W' v l := by
  obtain ⟨hl, a, c, rfl, hc⟩ := hp
  refine ⟨hl, a, c, rfl, fun i p hi => ?_⟩
  obtain ⟨b, o, rfl, hb, u1, u2, c1, c2⟩ := hc i p hi
  exact ⟨b, o, rfl, hb, u1, u2, (h.cell (by exact hb)).trans c1, (h.cell (by exact hb)).trans c2⟩
theorem Rgs.below (h : Kp S W W') {v : Value} {l : List (List Pt)} (hp : Rgs S W v l) : Rgs S W' v l := by
  obtain ⟨hl, a, c, rfl, hc⟩ := hp
  refine ⟨hl, a, c, rfl, fun i p hi => ?_⟩
  obtain ⟨b, o, u, rfl, hb, c1, hu⟩ := hc i p hi
  exact ⟨b, o, u, rfl, hb, (h.cell (by exact hb)).trans c1, hu.below h⟩
theorem GmAt.below (h : Kp S W W') {b o : Nat} {g : Gm} {v : Value} (hg : GmAt S W b o g v) : GmAt S W' b o g v := by
  obtain ⟨hb, hk, c0, ⟨v1, c1, p1⟩, ⟨v2, c2, p2⟩, c3⟩ := hg
  exact ⟨hb, hk, (h.cell (by exact hb)).trans c0, ⟨v1, (h.cell (by exact hb)).trans c1, p1.below h⟩, ⟨v2, (h.cell (by exact hb)).trans c2, p2.below h⟩, (h.cell (by exact hb)).trans c3⟩
theorem FoAt.below (h : Kp S W W') : ∀ {f : Fo} {a : Option Addr}, FoAt S W f a → FoAt S W' f a
  | .nil, _, _ => trivial
  | .cons _ _ _, _, ⟨b, o, pa, pc, e, hl, hg, h1, h2⟩ => ⟨b, o, pa, pc, e, hl, hg.below h, FoAt.below h h1, FoAt.below h h2⟩
theorem Pts.mono {S' : Nat → Prop} (hS : ∀ k, S k → S' k) {v : Value} {l : List Pt} (hp : Pts S W v l) : Pts S' W v l := by
  obtain ⟨hl, a, c, rfl, hc⟩ := hp
  refine ⟨hl, a, c, rfl, fun i p hi => ?_⟩
  obtain ⟨b, o, rfl, hb, r⟩ := hc i p hi
  exact ⟨b, o, rfl, hS _ hb, r⟩
theorem Rgs.mono {S' : Nat → Prop} (hS : ∀ k, S k → S' k) {v : Value} {l : List (List Pt)} (hp : Rgs S W v l) : Rgs S' W v l := by
  obtain ⟨hl, a, c, rfl, hc⟩ := hp
  refine ⟨hl, a, c, rfl, fun i p hi => ?_⟩
  obtain ⟨b, o, u, rfl, hb, c1, hu⟩ := hc i p hi
  exact ⟨b, o, u, rfl, hS _ hb, c1, hu.mono hS⟩
theorem GmAt.mono {S' : Nat → Prop} (hS : ∀ k, S k → S' k) {b o : Nat} {g : Gm} {v : Value} (hg : GmAt S W b o g v) : GmAt S' W b o g v := by
  obtain ⟨hb, hk, c0, ⟨v1, c1, p1⟩, ⟨v2, c2, p2⟩, c3⟩ := hg
  exact ⟨hS _ hb, hk, c0, ⟨v1, c1, p1.mono hS⟩, ⟨v2, c2, p2.mono hS⟩, c3⟩
theorem FoAt.mono {S' : Nat → Prop} (hS : ∀ k, S k → S' k) : ∀ {f : Fo} {a : Option Addr}, FoAt S W f a → FoAt S' W f a
  | .nil, _, _ => trivial
  | .cons _ _ _, _, ⟨b, o, pa, pc, e, hl, hg, h1, h2⟩ => ⟨b, o, pa, pc, e, hl, hg.mono hS, FoAt.mono hS h1, FoAt.mono hS h2⟩
end
/-- the value of a geometry: this tree -/
def GeoV (S : Nat → Prop) (W : World) (v : Value) (f : Fo) : Prop :=
  ∃ g ch v1 v2 pa pc, v = .agg #[.int .i64 g.kind, v1, v2, .slice pa ch.len pc] ∧ f = .cons g ch .nil ∧ (-9223372036854775808 ≤ g.kind ∧ g.kind ≤ 9223372036854775807) ∧ Pts S W v1 g.line ∧ Rgs S W v2 g.rings ∧ (ch.len ≤ 1048576 ∧ ch.len ≤ pc) ∧ FoAt S W ch pa
theorem GeoV.below {S : Nat → Prop} {W W' : World} {v : Value} {f : Fo} (h : GeoV S W v f) (hk : Kp S W W') : GeoV S W' v f := by
  obtain ⟨g, ch, v1, v2, pa, pc, h1, h2, h3, h4, h5, h6, h7⟩ := h
  exact ⟨g, ch, v1, v2, pa, pc, h1, h2, h3, h4.below hk, h5.below hk, h6, h7.below hk⟩
theorem cell_of {W : World} {g : Nat} {c : Array Value} {t : TypeId} {f : Nat × Nat} (h : W.heap[g]? = some (.cells c t f)) (i : Nat) : W.cell? ⟨g, i, none⟩ = c[i]? := by simp [World.cell?, h]
/-- laid into a block of its own -/
theorem GeoV.box {S : Nat → Prop} {w : World} {v1 v2 : Value} {kind : Int} {pa : Option Addr} {pl pc : Nat} {f : Fo} {t : TypeId} (h : GeoV S w (.agg #[.int .i64 kind, v1, v2, .slice pa pl pc]) f) (hS : ∀ k, S k → k < w.heap.size) :
    FoAt (fun k => S k ∨ k = w.heap.size) (w.alloc (.cells #[.int .i64 kind, v1, v2, .slice pa pl pc] t)) f (some ⟨w.heap.size, 0, none⟩) := by
  obtain ⟨g, ch, u1, u2, qa, qc, h1, rfl, h3, h4, h5, h6, h7⟩ := h
  injection h1 with h1
  simp at h1
  obtain ⟨e1, e2, e3, e4, e5, e6⟩ := h1
  subst e1 e2 e3 e4 e5 e6
  have hk : Kp S w (w.alloc (.cells #[.int .i64 g.kind, v1, v2, .slice pa ch.len pc] t)) := (Kp.refl S w).alloc hS _
  have hb : (w.alloc (.cells #[.int .i64 g.kind, v1, v2, .slice pa ch.len pc] t)).heap[w.heap.size]? = some (.cells #[.int .i64 g.kind, v1, v2, .slice pa ch.len pc] t (0, 0)) := heap_alloc_new w _
  have hm : ∀ k, S k → S k ∨ k = w.heap.size := fun k hk => .inl hk
  exact ⟨w.heap.size, 0, pa, pc, rfl, h6, ⟨.inr rfl, h3, cell_of hb 0, ⟨v1, cell_of hb 1, (h4.below hk).mono hm⟩, ⟨v2, cell_of hb 2, (h5.below hk).mono hm⟩, cell_of hb 3⟩, (h7.below hk).mono hm, trivial⟩
/-- a geometry where it stands: its number is its place in the list -/
structure It where
  g : Gm
  ch : Nat
  level : Nat
  home : Int
/-- the order of the text -/
def Fo.pre (lv : Nat) (home : Int) : Fo → List It
  | .nil => []
  | .cons g c r => ⟨g, c.len, lv, home⟩ :: (c.pre (lv + 1) g.kind ++ r.pre lv home)
theorem Fo.pre_length (f : Fo) : ∀ lv home, (f.pre lv home).length = f.cnt := by
  induction f with
  | nil => intro _ _; rfl
  | cons g c r ih1 ih2 => intro lv home; simp [Fo.pre, Fo.cnt, ih1, ih2]
theorem len_zero {f : Fo} (h : f.len = 0) : f = .nil := by cases f with | nil => rfl | cons _ _ _ => cases h
end Tr
end Go.Proofs.YtgobnjeankjkjaaGreatDoor

/- Layer 17: what bytes are read as: plain facts. -/
namespace Go.Proofs.YtgobnjeankjkjaaGreatDoor
open Tr Oc
set_option linter.unusedVariables false
namespace Wk
/-- what is read, and the place behind it; or a place and an error -/
inductive Rs (α : Type) where
  | ok (v : α) (k : Nat)
  | bad (p c : Nat)
def Rs.bind {α β : Type} (r : Rs α) (f : α → Nat → Rs β) : Rs β :=
  match r with
  | .ok v k => f v k
  | .bad p c => .bad p c
theorem bind_ok {α β : Type} (v : α) (k : Nat) (f : α → Nat → Rs β) : (Rs.ok v k).bind f = f v k := rfl
theorem bind_bad {α β : Type} (p c : Nat) (f : α → Nat → Rs β) : (Rs.bad p c : Rs α).bind f = .bad p c := rfl
def word (l : List UInt8) (k m : Nat) (little : Bool) : Rs Nat := if l.length - k < m then .bad k 160 else .ok (numO ((l.drop k).take m) little) (k + m)
theorem word_ok {l : List UInt8} {k m v k' : Nat} {little : Bool} (h : word l k m little = .ok v k') : k' = k + m ∧ m ≤ l.length - k ∧ v < 256 ^ m := by
  unfold word at h
  split at h
  · cases h
  · injection h with h1 h2
    refine ⟨h2.symm, by omega, ?_⟩
    rw [← h1]
    exact Nat.lt_of_lt_of_le (numO_lt _ _) (Nat.pow_le_pow_right (by decide) (by rw [List.length_take]; omega))
theorem word_bad {l : List UInt8} {k m p c : Nat} {little : Bool} (h : word l k m little = .bad p c) : p = k ∧ c = 160 ∧ l.length - k < m := by
  unfold word at h
  split at h
  · injection h with h1 h2; exact ⟨h1.symm, h2.symm, by assumption⟩
  · cases h
def ordS (l : List UInt8) (k : Nat) : Rs Bool := (word l k 1 false).bind fun v k' => if 1 < v then .bad k 170 else .ok (v == 1) k'
def fitsB (home kind : Nat) : Bool := if home = 4 then kind == 1 else if home = 5 then kind == 2 else if home = 6 then kind == 3 else true
def kindS (l : List UInt8) (home k : Nat) (little : Bool) : Rs Nat := (word l k 4 little).bind fun v k' => if v < 1 ∨ 7 < v then .bad k 171 else if fitsB home v = false then .bad k 172 else .ok v k'
def countS (l : List UInt8) (least k : Nat) (little : Bool) : Rs Nat := (word l k 4 little).bind fun n k' => if l.length - k' < n * least then .bad k 173 else .ok n k'
def finB (x : Nat) : Bool := x / 4503599627370496 % 2048 != 2047
def nanB (x : Nat) : Bool := x / 4503599627370496 % 2048 == 2047 && x % 4503599627370496 != 0
def patsS (l : List UInt8) (k : Nat) (little : Bool) : Rs (Nat × Nat) := (word l k 8 little).bind fun x k1 => (word l k1 8 little).bind fun y k2 => .ok (x, y) k2
def pt (p : Nat × Nat) : Pt := ((p.1 : Int), (p.2 : Int))
def mustS (k : Nat) (p : Nat × Nat) : Rs Unit := if finB p.1 = false then .bad k 175 else if finB p.2 = false then .bad (k + 8) 175 else .ok () k
def placeS (l : List UInt8) (k : Nat) (little : Bool) : Rs Pt := (patsS l k little).bind fun p k' => (mustS k p).bind fun _ _ => .ok (pt p) k'
def spotS (l : List UInt8) (k : Nat) (little : Bool) : Rs (List Pt) := (patsS l k little).bind fun p k' => if nanB p.1 = true ∧ nanB p.2 = true then .ok [] k' else (mustS k p).bind fun _ _ => .ok [pt p] k'
def many {α : Type} (f : Nat → Rs α) : Nat → Nat → Rs (List α)
  | 0, k => .ok [] k
  | n + 1, k => (f k).bind fun v k1 => (many f n k1).bind fun vs k2 => .ok (v :: vs) k2
def Rs.pre {α : Type} (a : List α) : Rs (List α) → Rs (List α)
  | .ok v k => .ok (a ++ v) k
  | .bad p c => .bad p c
theorem pre_nil {α : Type} (r : Rs (List α)) : Rs.pre [] r = r := by cases r <;> rfl
theorem many_ok {α : Type} {f : Nat → Rs α} {n k k1 : Nat} {v : α} (a : List α) (h : f k = .ok v k1) : Rs.pre a (many f (n + 1) k) = Rs.pre (a ++ [v]) (many f n k1) := by
  show Rs.pre a ((f k).bind _) = _
  rw [h, bind_ok]
  cases many f n k1 with
  | ok vs k2 => show Rs.ok (a ++ (v :: vs)) k2 = Rs.ok (a ++ [v] ++ vs) k2; rw [List.append_assoc]; rfl
  | bad p c => rfl
theorem many_bad {α : Type} {f : Nat → Rs α} {n k p c : Nat} (a : List α) (h : f k = .bad p c) : Rs.pre a (many f (n + 1) k) = .bad p c := by
  show Rs.pre a ((f k).bind _) = _
  rw [h, bind_bad]
  rfl
theorem many_len {α : Type} {f : Nat → Rs α} : ∀ {n k k' : Nat} {vs : List α}, many f n k = .ok vs k' → vs.length = n
  | 0, k, k', vs, h => by injection h with h1 h2; subst h1; rfl
  | n + 1, k, k', vs, h => by
    have h' : (f k).bind (fun v k1 => (many f n k1).bind fun vs k2 => .ok (v :: vs) k2) = .ok vs k' := h
    cases e : f k with
    | bad p c => rw [e] at h'; cases h'
    | ok v k1 =>
      rw [e, bind_ok] at h'
      cases e2 : many f n k1 with
      | bad p c => rw [e2] at h'; cases h'
      | ok ws k2 =>
        rw [e2, bind_ok] at h'
        injection h' with h1 h2
        subst h1
        rw [List.length_cons, many_len e2]
def lineS (l : List UInt8) (k : Nat) (little : Bool) : Rs (List Pt) := (countS l 16 k little).bind fun n k' => many (fun j => placeS l j little) n k'
def ringS (l : List UInt8) (k : Nat) (little : Bool) : Rs (List Pt) := (lineS l k little).bind fun ps k' => if ps.length = 0 then .bad k 176 else .ok ps k'
abbrev Tree := Gm × Fo
def foOf : List Tree → Fo
  | [] => .nil
  | t :: r => .cons t.1 t.2 (foOf r)
theorem foOf_len : ∀ (l : List Tree), (foOf l).len = l.length
  | [] => rfl
  | t :: r => by show (foOf r).len + 1 = r.length + 1; rw [foOf_len r]
def least (kind : Nat) : Nat := if kind = 4 then 21 else 9
def headS (l : List UInt8) (home k : Nat) : Rs (Bool × Nat) := (ordS l k).bind fun little k1 => (kindS l home k1 little).bind fun kind k2 => .ok (little, kind) k2
def bodyS (l : List UInt8) (sub : Nat → Nat → Rs (Tree × List Bool)) (little : Bool) (kind k : Nat) : Rs (Tree × List Bool) :=
  if kind = 1 then (spotS l k little).bind fun ps k' => .ok ((⟨1, ps, []⟩, .nil), []) k'
  else if kind = 2 then (lineS l k little).bind fun ps k' => .ok ((⟨2, ps, []⟩, .nil), []) k'
  else if kind = 3 then (countS l 20 k little).bind fun n k1 => (many (fun j => ringS l j little) n k1).bind fun rs k' => .ok ((⟨3, [], rs⟩, .nil), []) k'
  else (countS l (least kind) k little).bind fun n k1 => (many (sub kind) n k1).bind fun ts k' => .ok ((⟨(kind : Int), [], []⟩, foOf (ts.map (·.1))), (ts.map (·.2)).flatten) k'
def geomS (l : List UInt8) : Nat → Nat → Nat → Rs (Tree × List Bool)
  | 0, home, k => (headS l home k).bind fun _ _ => .bad k 191
  | n + 1, home, k => (headS l home k).bind fun h k1 => (bodyS l (geomS l n) h.1 h.2 k1).bind fun r k' => .ok (r.1, h.1 :: r.2) k'
def parseS (l : List UInt8) (depth : Nat) (limit : Nat) : Rs (Tree × List Bool) :=
  if limit < l.length then .bad limit 192 else (geomS l depth 0 0).bind fun r k => if k < l.length then .bad k 174 else .ok r k
/-- places never go back, and stay within -/
def Fwd {α : Type} (l : List UInt8) (f : Nat → Rs α) : Prop := ∀ k v k', k ≤ l.length → f k = .ok v k' → k ≤ k' ∧ k' ≤ l.length
theorem bind_inv {α β : Type} {r : Rs α} {f : α → Nat → Rs β} {v : β} {k : Nat} (h : r.bind f = .ok v k) : ∃ u j, r = .ok u j ∧ f u j = .ok v k := by
  cases r with
  | ok u j => exact ⟨u, j, rfl, h⟩
  | bad p c => cases h
theorem fwd_bind {α β : Type} {l : List UInt8} {f : Nat → Rs α} {g : Nat → α → Nat → Rs β} (hf : Fwd l f) (hg : ∀ k0 u j v k', j ≤ l.length → g k0 u j = .ok v k' → j ≤ k' ∧ k' ≤ l.length) : Fwd l (fun k => (f k).bind (g k)) := by
  intro k v k' hk h
  obtain ⟨u, j, h1, h2⟩ := bind_inv h
  have a := hf k u j hk h1
  have b := hg k u j v k' a.2 h2
  omega
theorem fwd_word (l : List UInt8) (m : Nat) (little : Bool) : Fwd l (fun k => word l k m little) := by
  intro k v k' hk h
  have := word_ok h
  omega
theorem fwd_ord (l : List UInt8) : Fwd l (ordS l) := fwd_bind (fwd_word l 1 false) (fun k0 u j v k' hj h => by
  split at h
  · cases h
  · injection h with h1 h2; omega)
theorem count_ok {l : List UInt8} {least k n k' : Nat} {little : Bool} (h : countS l least k little = .ok n k') : k' = k + 4 ∧ n * least ≤ l.length - k' ∧ n < 4294967296 := by
  obtain ⟨u, j, h1, h2⟩ := bind_inv h
  have := word_ok h1
  split at h2
  · cases h2
  · injection h2 with h3 h4
    subst h3 h4
    exact ⟨this.1, by omega, by have := this.2.2; rwa [show (256 : Nat) ^ 4 = 4294967296 from rfl] at this⟩
end Wk
end Go.Proofs.YtgobnjeankjkjaaGreatDoor


import Derived.Below
import Derived.BigQuiet
import Derived.ChangeOld
import Derived.Deep.DeepCutAuto
import Derived.Deep.DeepFit
import Derived.Deep.LoopGhost
import Derived.Deep.QuietTactic
import Derived.Deep.RegionHeld3
import Derived.Deep.RegionWith
import Derived.Defers
import Derived.KernelRfl
import Derived.Laws.BitsAllLaws
import Derived.Laws.CopyRow
import Derived.Laws.EntriesVeiled
import Derived.Laws.IdiomCopy
import Derived.Laws.IdiomRangeMap
import Derived.OpenShut
import Derived.Orders
import Derived.OwnWalk
import Derived.ProofKit
import Derived.Recover
import Derived.Scope
import Derived.ShutString
import Derived.WalkKit
import Derived.WalkLawsBesides
import Derived.WalkMore
import Derived.WalkSpells
import Derived.Test.YtbonkgmcpjaepabGreatPa15
/- package pred: InCircle (written by genpdj.py). -/
namespace Go.Proofs.YtbonkgmcpjaepabGreat
open Go.ChangeShapes Go.WideShapes Go.ChangeAt Go.RowKit
open Na Ar
set_option linter.unusedVariables false
/-- hidden from the walk -/
structure HH (p : Prop) : Prop where
  mk ::
  out : p
/-- the blocks made on the way: apart from one another -/
structure Al (B : Nat) (w : World) (l : List Nat) : Prop where
  pb : ∀ g, g ∈ l → Pb w g 77 zero6s ∧ B ≤ g
  nd : l.Nodup
theorem Al.later {B : Nat} {w w' : World} {l : List Nat} (h : Al B w l) (hb : Below w.heap.size w w') : Al B w' l := ⟨fun g hg => ⟨(h.pb g hg).1.later hb, (h.pb g hg).2⟩, h.nd⟩
theorem Al.nil (B : Nat) (w : World) : Al B w [] := ⟨fun _ h => (List.not_mem_nil h).elim, List.nodup_nil⟩
theorem Al.add {B : Nat} {w : World} (l1 l2 : List Nat) (h : Al B w (l1 ++ l2)) (hB : B ≤ w.heap.size) : Al B (w.alloc (.cells #[.bool false, .slice none 0 0, .slice none 0 0, .bool false, .slice none 0 0, .slice none 0 0] 77)) (l1 ++ w.heap.size :: l2) := by
  have hn : w.heap.size ∉ l1 ++ l2 := fun hm => Nat.lt_irrefl _ (h.pb _ hm).1.lt
  refine ⟨fun g hg => ?_, ?_⟩
  · rcases List.mem_append.mp hg with h1 | h1
    · exact ⟨(h.pb g (List.mem_append.mpr (Or.inl h1))).1.later (alloc_below _), (h.pb g (List.mem_append.mpr (Or.inl h1))).2⟩
    · rcases List.mem_cons.mp h1 with h1 | h1
      · subst h1; exact ⟨Pb.new _ _ _, hB⟩
      · exact ⟨(h.pb g (List.mem_append.mpr (Or.inr h1))).1.later (alloc_below _), (h.pb g (List.mem_append.mpr (Or.inr h1))).2⟩
  · have e := h.nd
    rw [List.nodup_append] at e ⊢
    obtain ⟨e1, e2, e3⟩ := e
    refine ⟨e1, List.nodup_cons.mpr ⟨fun hm => hn (List.mem_append.mpr (Or.inr hm)), e2⟩, fun a ha b hb => ?_⟩
    rcases List.mem_cons.mp hb with hb | hb
    · subst hb; intro e; subst e; exact hn (List.mem_append.mpr (Or.inl ha))
    · exact e3 a ha b hb
/-- what is right of a spot that has been made -/
def SpO (w : World) (x : Option Value) (p q : Rat) (k : Nat) : Prop := ∀ v, x = some v → SpV w v p q k
theorem SpO.later {w w' : World} {x : Option Value} {p q : Rat} {k : Nat} (h : SpO w x p q k) (hb : Below w.heap.size w w') : SpO w' x p q k := fun v e => (h v e).later hb
theorem SpO.none' {w : World} {p q : Rat} {k : Nat} : SpO w none p q k := fun _ e => by cases e
theorem SpO.some' {w : World} {v : Value} {p q : Rat} {k : Nat} (h : SpV w v p q k) : SpO w (some v) p q k := fun _ e => by cases e; exact h
def nO (x : Option Nat) : Nat := match x with
  | none => 1
  | some _ => 0
def nV (x : Option Value) : Nat := match x with
  | none => 1
  | some _ => 0
/-- a state of the region that makes the three ways -/
def JJ (wA : World) (p1 p2 q1 q2 r1 r2 : Rat) (A0 : Act) (t : Nat) (listed : Array Bool) (a : Act) (w : World) : Prop := ∃ (x34 x41 x48 : Option Value) (y12 y13 y14 : Option Nat),
  listed = #[true, true, true, true, true, true, x34.isSome, true, true, true, true, true, true, x41.isSome, true, true, true, true, true, true, x48.isSome, y12.isSome, y13.isSome, y14.isSome, false, false, false] ∧
  t = nV x34 + nV x41 + nV x48 + nO y12 + nO y13 + nO y14 ∧
  a = pP 14 y14 (pP 13 y13 (pP 12 y12 (pI 48 x48 (pI 41 x41 (pI 34 x34 A0))))) ∧
  ((x34 = none ∧ x41 = none ∧ x48 = none) ∨ (∃ v, x34 = some v ∧ x41 = none ∧ x48 = none) ∨ (∃ v v', x34 = some v ∧ x41 = some v' ∧ x48 = none) ∨ (∃ v v' v'', x34 = some v ∧ x41 = some v' ∧ x48 = some v'')) ∧
  SpO w x34 p1 p2 41 ∧ SpO w x41 q1 q2 41 ∧ SpO w x48 r1 r2 41 ∧ Al wA.heap.size w (y12.toList ++ (y13.toList ++ y14.toList)) ∧ Below wA.heap.size wA w
/-- what is right of a Rat, of a product, of a row of two products that have been made -/
def RvV (w : World) (x : Option Value) (q : Rat) (K : Nat) : Prop := ∀ v, x = some v → ∃ s a n c b m d, v = .agg #[.bool s, .slice a n c, .slice b m d] ∧ Rt w s a n c b m d q ∧ Sz q K
theorem RvV.later {w w' : World} {x : Option Value} {q : Rat} {K : Nat} (h : RvV w x q K) (hb : Below w.heap.size w w') : RvV w' x q K := fun v e => by
  obtain ⟨s, a, n, c, b, m, d, e1, r, z⟩ := h v e
  exact ⟨s, a, n, c, b, m, d, e1, r.later hb, z⟩
theorem RvV.none' {w : World} {q : Rat} {K : Nat} : RvV w none q K := fun _ e => by cases e
theorem RvV.some' {w : World} {s : Bool} {a b : Option Addr} {n c m d : Nat} {q : Rat} {K : Nat} (h : Rt w s a n c b m d q) (z : Sz q K) : RvV w (some (.agg #[.bool s, .slice a n c, .slice b m d])) q K := fun _ e => by cases e; exact ⟨_, _, _, _, _, _, _, rfl, h, z⟩
def SlV (w : World) (x : Option Value) (L : List (Rat × Rat)) (K : Nat) : Prop := ∀ v, x = some v → ∃ g, v = .slice (some ⟨g, 0, none⟩) 2 2 ∧ ∀ i, i < L.length → PrAt w g i (L.getD i (0, 0)).1 (L.getD i (0, 0)).2 K
theorem SlV.later {w w' : World} {x : Option Value} {L : List (Rat × Rat)} {K : Nat} (h : SlV w x L K) (hb : Below w.heap.size w w') : SlV w' x L K := fun v e => by
  obtain ⟨g, e1, r⟩ := h v e
  exact ⟨g, e1, fun i hi => (r i hi).later hb⟩
theorem SlV.none' {w : World} {L : List (Rat × Rat)} {K : Nat} : SlV w none L K := fun _ e => by cases e
theorem prAt_two {w : World} {s1 s2 s3 s4 : Bool} {a1 b1 a2 b2 a3 b3 a4 b4 : Option Addr} {n1 c1 m1 d1 n2 c2 m2 d2 n3 c3 m3 d3 n4 c4 m4 d4 : Nat} {p q r t : Rat} {K g : Nat} {ty : TypeId} (hg : Pb w g ty #[.bool s1, .slice a1 n1 c1, .slice b1 m1 d1, .bool s2, .slice a2 n2 c2, .slice b2 m2 d2, .bool s3, .slice a3 n3 c3, .slice b3 m3 d3, .bool s4, .slice a4 n4 c4, .slice b4 m4 d4]) (h1 : Rt w s1 a1 n1 c1 b1 m1 d1 p) (h2 : Rt w s2 a2 n2 c2 b2 m2 d2 q) (h3 : Rt w s3 a3 n3 c3 b3 m3 d3 r) (h4 : Rt w s4 a4 n4 c4 b4 m4 d4 t) (z1 : Sz p K) (z2 : Sz q K) (z3 : Sz r K) (z4 : Sz t K) :
    ∀ i, i < [(p, q), (r, t)].length → PrAt w g i ([(p, q), (r, t)].getD i (0, 0)).1 ([(p, q), (r, t)].getD i (0, 0)).2 K := by
  intro i hi
  rcases (show i = 0 ∨ i = 1 by simp at hi; omega) with rfl | rfl
  · exact ⟨s1, a1, n1, c1, b1, m1, d1, s2, a2, n2, c2, b2, m2, d2, ⟨hg.cell 0 rfl, hg.cell 1 rfl, hg.cell 2 rfl, hg.cell 3 rfl, hg.cell 4 rfl, hg.cell 5 rfl⟩, h1, h2, z1, z2, hg.lt⟩
  · exact ⟨s3, a3, n3, c3, b3, m3, d3, s4, a4, n4, c4, b4, m4, d4, ⟨hg.cell 6 rfl, hg.cell 7 rfl, hg.cell 8 rfl, hg.cell 9 rfl, hg.cell 10 rfl, hg.cell 11 rfl⟩, h3, h4, z3, z4, hg.lt⟩
def PrV (w : World) (x : Option Value) (p q : Rat) (k : Nat) : Prop := SpO w x p q k
def StV (B : Nat) (w : World) (y : Option Nat) : Prop := ∀ g, y = some g → St w g 43 (.bool false) (.slice none 0 0) (.slice none 0 0) ∧ B ≤ g
theorem StV.later {B : Nat} {w w' : World} {y : Option Nat} (h : StV B w y) (hb : Below w.heap.size w w') : StV B w' y := fun g e => ⟨(h g e).1.later hb, (h g e).2⟩
theorem StV.none' {B : Nat} {w : World} : StV B w none := fun _ e => by cases e
theorem StV.new {B : Nat} {w : World} (hB : B ≤ w.heap.size) : StV B (w.alloc (.cells #[.bool false, .slice none 0 0, .slice none 0 0] 43)) (some w.heap.size) := fun g e => by cases e; exact ⟨st_new _ _ _ _ _, hB⟩
theorem sq22_k {w0 : World} {s1 s2 : Bool} {a1 b1 a2 b2 : Option Addr} {n1 c1 m1 d1 n2 c2 m2 d2 : Nat} {p q : Rat} (h1 : Rt w0 s1 a1 n1 c1 b1 m1 d1 p) (h2 : Rt w0 s2 a2 n2 c2 b2 m2 d2 q) (z1 : Sz p 41) (z2 : Sz q 41) : ∀ w, Below w0.heap.size w0 w →
    Calls Tryz.prog 42 #[.agg #[.bool s1, .slice a1 n1 c1, .slice b1 m1 d1, .bool s2, .slice a2 n2 c2, .slice b2 m2 d2]] w fun e w' => ∃ s a n c b m d, e = .returned (.agg #[.bool s, .slice a n c, .slice b m d]) ∧ Rt w' s a n c b m d (p * p + q * q) ∧ Sz (p * p + q * q) 165 ∧ Below w.heap.size w w' ∧ Below w0.heap.size w0 w' := fun w h => by
  refine (square22_any (h1.later h) (h2.later h) z1 z2 (by omega)).mono ?_
  rintro e w' ⟨s, a, n, c, b, m, d, rfl, hR, hz, hb⟩
  exact ⟨s, a, n, c, b, m, d, rfl, hR.rt22, hz.mono (by omega), hb, h.trans (hb.mono h.size)⟩
theorem cr22_k {w0 : World} {s1 s2 s3 s4 : Bool} {a1 b1 a2 b2 a3 b3 a4 b4 : Option Addr} {n1 c1 m1 d1 n2 c2 m2 d2 n3 c3 m3 d3 n4 c4 m4 d4 : Nat} {p q r t : Rat} (h1 : Rt w0 s1 a1 n1 c1 b1 m1 d1 p) (h2 : Rt w0 s2 a2 n2 c2 b2 m2 d2 q) (h3 : Rt w0 s3 a3 n3 c3 b3 m3 d3 r) (h4 : Rt w0 s4 a4 n4 c4 b4 m4 d4 t) (z1 : Sz p 41) (z2 : Sz q 41) (z3 : Sz r 41) (z4 : Sz t 41) : ∀ w, Below w0.heap.size w0 w →
    Calls Tryz.prog 43 #[.agg #[.bool s1, .slice a1 n1 c1, .slice b1 m1 d1, .bool s2, .slice a2 n2 c2, .slice b2 m2 d2], .agg #[.bool s3, .slice a3 n3 c3, .slice b3 m3 d3, .bool s4, .slice a4 n4 c4, .slice b4 m4 d4]] w fun e w' => ∃ s a n c b m d, e = .returned (.agg #[.bool s, .slice a n c, .slice b m d]) ∧ Rt w' s a n c b m d (p * t + -q * r) ∧ Sz (p * t + -q * r) 165 ∧ Below w.heap.size w w' ∧ Below w0.heap.size w0 w' := fun w h => by
  refine (cross22_any (h1.later h) (h2.later h) (h3.later h) (h4.later h) z1 z2 z3 z4 (by omega)).mono ?_
  rintro e w' ⟨s, a, n, c, b, m, d, rfl, hR, hz, hb⟩
  exact ⟨s, a, n, c, b, m, d, rfl, hR.rt22, hz.mono (by omega), hb, h.trans (hb.mono h.size)⟩
theorem sum22_two {w : World} {s1 s2 : Bool} {a1 b1 a2 b2 : Option Addr} {n1 c1 m1 d1 n2 c2 m2 d2 gm : Nat} {p q r t p' q' : Rat} (h1 : Rt w s1 a1 n1 c1 b1 m1 d1 p) (h2 : Rt w s2 a2 n2 c2 b2 m2 d2 q) (z1 : Sz p 165) (z2 : Sz q 165) (hL : ∀ i, i < [(r, t), (p', q')].length → PrAt w gm i ([(r, t), (p', q')].getD i (0, 0)).1 ([(r, t), (p', q')].getD i (0, 0)).2 165) :
    Calls Tryz.prog 41 #[.agg #[.bool s1, .slice a1 n1 c1, .slice b1 m1 d1, .bool s2, .slice a2 n2 c2, .slice b2 m2 d2], .slice (some ⟨gm, 0, none⟩) 2 2] w fun e w' => ∃ s a n c b m d, e = .returned (.agg #[.bool s, .slice a n c, .slice b m d]) ∧ Rt w' s a n c b m d (p * q + r * t + p' * q') ∧ Sz (p * q + r * t + p' * q') 1000 ∧ Below w.heap.size w w' := by
  refine (sum22_any (N := 2) (cm := 2) h1 h2 z1 z2 hL rfl (by omega) (by omega)).mono ?_
  rintro e w' ⟨s, a, n, c, b, m, d, rfl, hR, hz, hb⟩
  exact ⟨s, a, n, c, b, m, d, rfl, hR.rt22, hz.mono (by omega), hb⟩
/-- how far the chain of calls has come, and how many steps of it are left -/
inductive CH : Nat → Option Value → Option Value → Option Value → Option Value → Option Value → Option Value → Option Value → Option Value → Option Value → Option Value → Option Value → Prop
  | c0 : CH 11 none none none none none none none none none none none
  | c1 (v50 : Value) : CH 10 (some v50) none none none none none none none none none none
  | c2 (v50 v53 v54 : Value) : CH 8 (some v50) (some v53) (some v54) none none none none none none none none
  | c3 (v50 v53 v54 v56 : Value) : CH 7 (some v50) (some v53) (some v54) (some v56) none none none none none none none
  | c4 (v50 v53 v54 v56 v59 v60 : Value) : CH 5 (some v50) (some v53) (some v54) (some v56) (some v59) (some v60) none none none none none
  | c5 (v50 v53 v54 v56 v59 v60 v62 : Value) : CH 4 (some v50) (some v53) (some v54) (some v56) (some v59) (some v60) (some v62) none none none none
  | c6 (v50 v53 v54 v56 v59 v60 v62 v65 v66 : Value) : CH 2 (some v50) (some v53) (some v54) (some v56) (some v59) (some v60) (some v62) (some v65) (some v66) none none
  | c7 (v50 v53 v54 v56 v59 v60 v62 v65 v66 v67 : Value) : CH 1 (some v50) (some v53) (some v54) (some v56) (some v59) (some v60) (some v62) (some v65) (some v66) (some v67) none
  | c8 (v50 v53 v54 v56 v59 v60 v62 v65 v66 v67 v68 : Value) : CH 0 (some v50) (some v53) (some v54) (some v56) (some v59) (some v60) (some v62) (some v65) (some v66) (some v67) (some v68)
/-- a state of the region that makes the sum: p is the square and the cross product of the first term, and so on -/
def J5 (wE : World) (p p' q q' r r' : Rat) (A0 : Act) (t : Nat) (listed : Array Bool) (a : Act) (w : World) : Prop := ∃ (x50 x53 x54 x56 x59 x60 x62 x65 x66 x67 x68 : Option Value) (y15 : Option Nat) (R : Nat),
  listed = #[true, x50.isSome, true, true, x53.isSome, x54.isSome, true, x56.isSome, true, true, x59.isSome, x60.isSome, true, x62.isSome, true, true, x65.isSome, x66.isSome, x67.isSome, x68.isSome, y15.isSome, false] ∧ t = R + nO y15 ∧ a = pP 15 y15 (pI 68 x68 (pI 67 x67 (pI 66 x66 (pI 65 x65 (pI 62 x62 (pI 60 x60 (pI 59 x59 (pI 56 x56 (pI 54 x54 (pI 53 x53 (pI 50 x50 A0))))))))))) ∧ CH R x50 x53 x54 x56 x59 x60 x62 x65 x66 x67 x68 ∧
  RvV w x50 p 165 ∧ RvV w x53 p' 165 ∧ RvV w x56 q 165 ∧ RvV w x59 q' 165 ∧ RvV w x62 r 165 ∧ RvV w x65 r' 165 ∧
  PrV w x54 p p' 165 ∧ PrV w x60 q q' 165 ∧ PrV w x66 r r' 165 ∧ SlV w x67 [(q, q'), (r, r')] 165 ∧ RvV w x68 (p * p' + q * q' + r * r') 1000 ∧ StV wE.heap.size w y15 ∧ Below wE.heap.size wE w
set_option maxHeartbeats 6400000 in
set_option maxRecDepth 100000 in
theorem InCircle22_inf {w : World} {a b c d : Int × Int} (ua : U2 a) (ub : U2 b) (uc : U2 c) (ud : U2 d) (hf : ¬ (fin2 a ∧ fin2 b ∧ fin2 c ∧ fin2 d)) :
    Calls Tryz.prog 16 #[.agg #[.int .u64 a.1, .int .u64 a.2], .agg #[.int .u64 b.1, .int .u64 b.2], .agg #[.int .u64 c.1, .int .u64 c.2], .agg #[.int .u64 d.1, .int .u64 d.2]] w fun e w' => e = .returned (.tuple #[.int .i64 0, .int .i64 220]) ∧ Below w.heap.size w w' := by
  obtain ⟨w0, hw0⟩ : ∃ w0, w0 = (((w.alloc (.cells #[.int .u64 a.1, .int .u64 a.2] 34)).alloc (.cells #[.int .u64 b.1, .int .u64 b.2] 34)).alloc (.cells #[.int .u64 c.1, .int .u64 c.2] 34)).alloc (.cells #[.int .u64 d.1, .int .u64 d.2] 34) := ⟨_, rfl⟩
  have hb0 : Below w.heap.size w w0 := by
    subst hw0
    exact pts4_below _ _ _ _ _
  have al := alloc_below (w := w0) (.cells #[.int .u64 a.1, .int .u64 a.2, .int .u64 b.1, .int .u64 b.2, .int .u64 c.1, .int .u64 c.2, .int .u64 d.1, .int .u64 d.2] 34)
  have hPt := ptAt4 w0 34 ua ub uc ud
  have e0 : w0.heap.size = w.heap.size + 1 + 1 + 1 + 1 := by subst hw0; simp
  rw [e0] at hPt
  have hsp := spots22_any (c := 4) hPt (by rw [← e0]; simp) (by omega)
  have hB1 := hb0.trans (al.mono hb0.size)
  replace hsp := hsp.mono (fun e w' h => open4_inf hf h)
  clear hPt al hb0 e0 hf ua ub uc ud
  go_enter Tryz.func16, Tryz.ntmps16
  go_wp2_with fail
  rw [← hw0]
  generalize w0.alloc (.cells #[.int .u64 a.1, .int .u64 a.2, .int .u64 b.1, .int .u64 b.2, .int .u64 c.1, .int .u64 c.2, .int .u64 d.1, .int .u64 d.2] 34) = w1 at *
  refine hsp.mono ?_
  rintro e wA ⟨rfl, hbA⟩
  have B2 := hB1.trans (hbA.mono hB1.size)
  clear hsp hw0
  go_wp2
  go_ret2
  exact ⟨rfl, B2⟩
/-- the sum of the chapter, put together as the program does -/
def inR (ax ay bx by' cx cy dx dy : Rat) : Rat := ((ax - dx) * (ax - dx) + (ay - dy) * (ay - dy)) * ((bx - dx) * (cy - dy) + -(by' - dy) * (cx - dx)) + ((bx - dx) * (bx - dx) + (by' - dy) * (by' - dy)) * ((cx - dx) * (ay - dy) + -(cy - dy) * (ax - dx)) + ((cx - dx) * (cx - dx) + (cy - dy) * (cy - dy)) * ((ax - dx) * (by' - dy) + -(ay - dy) * (bx - dx))
set_option maxHeartbeats 6400000 in
set_option maxRecDepth 100000 in
theorem InCircle22_fin {w : World} {a b c d : Int × Int} (ua : U2 a) (ub : U2 b) (uc : U2 c) (ud : U2 d) (fa : fin2 a) (fb : fin2 b) (fc : fin2 c) (fd : fin2 d) :
    Calls Tryz.prog 16 #[.agg #[.int .u64 a.1, .int .u64 a.2], .agg #[.int .u64 b.1, .int .u64 b.2], .agg #[.int .u64 c.1, .int .u64 c.2], .agg #[.int .u64 d.1, .int .u64 d.2]] w fun e w' => e = .returned (.tuple #[.int .i64 (sgnR (inR (valR a.1) (valR a.2) (valR b.1) (valR b.2) (valR c.1) (valR c.2) (valR d.1) (valR d.2))), .int .i64 0]) ∧ Below w.heap.size w w' := by
  obtain ⟨w0, hw0⟩ : ∃ w0, w0 = (((w.alloc (.cells #[.int .u64 a.1, .int .u64 a.2] 34)).alloc (.cells #[.int .u64 b.1, .int .u64 b.2] 34)).alloc (.cells #[.int .u64 c.1, .int .u64 c.2] 34)).alloc (.cells #[.int .u64 d.1, .int .u64 d.2] 34) := ⟨_, rfl⟩
  have hb0 : Below w.heap.size w w0 := by
    subst hw0
    exact pts4_below _ _ _ _ _
  have al := alloc_below (w := w0) (.cells #[.int .u64 a.1, .int .u64 a.2, .int .u64 b.1, .int .u64 b.2, .int .u64 c.1, .int .u64 c.2, .int .u64 d.1, .int .u64 d.2] 34)
  have hPt := ptAt4 w0 34 ua ub uc ud
  have e0 : w0.heap.size = w.heap.size + 1 + 1 + 1 + 1 := by subst hw0; simp
  rw [e0] at hPt
  have hsp := spots22_any (c := 4) hPt (by rw [← e0]; simp) (by omega)
  have hB1 := hb0.trans (al.mono hb0.size)
  have z0 := value_size ua.1 fa.1
  have z1 := value_size ua.2 fa.2
  have z2 := value_size ub.1 fb.1
  have z3 := value_size ub.2 fb.2
  have z4 := value_size uc.1 fc.1
  have z5 := value_size uc.2 fc.2
  have z6 := value_size ud.1 fd.1
  have z7 := value_size ud.2 fd.2
  replace hsp := hsp.mono (fun e w' h => open4 ua fa ub fb uc fc ud fd h)
  clear hPt al hb0 e0 ua fa ub fb uc fc ud fd
  generalize valR a.1 = v0 at *
  generalize valR a.2 = v1 at *
  generalize valR b.1 = v2 at *
  generalize valR b.2 = v3 at *
  generalize valR c.1 = v4 at *
  generalize valR c.2 = v5 at *
  generalize valR d.1 = v6 at *
  generalize valR d.2 = v7 at *
  go_enter Tryz.func16, Tryz.ntmps16
  go_wp2_with fail
  rw [← hw0]
  generalize w0.alloc (.cells #[.int .u64 a.1, .int .u64 a.2, .int .u64 b.1, .int .u64 b.2, .int .u64 c.1, .int .u64 c.2, .int .u64 d.1, .int .u64 d.2] 34) = w1 at *
  refine hsp.mono ?_
  rintro e wA ⟨o, rfl, lo, go, A0, A1, A2, A3, A4, A5, A6, A7, hbA⟩
  have B2 := hB1.trans (hbA.mono hB1.size)
  clear hsp hw0 go
  obtain ⟨s0, a0, n0, c0, b0, m0, d0, ⟨y00, y01, y02⟩, R0⟩ := A0
  obtain ⟨s1, a1, n1, c1, b1, m1, d1, ⟨y10, y11, y12⟩, R1⟩ := A1
  obtain ⟨s2, a2, n2, c2, b2, m2, d2, ⟨y20, y21, y22⟩, R2⟩ := A2
  obtain ⟨s3, a3, n3, c3, b3, m3, d3, ⟨y30, y31, y32⟩, R3⟩ := A3
  obtain ⟨s4, a4, n4, c4, b4, m4, d4, ⟨y40, y41, y42⟩, R4⟩ := A4
  obtain ⟨s5, a5, n5, c5, b5, m5, d5, ⟨y50, y51, y52⟩, R5⟩ := A5
  obtain ⟨s6, a6, n6, c6, b6, m6, d6, ⟨y60, y61, y62⟩, R6⟩ := A6
  obtain ⟨s7, a7, n7, c7, b7, m7, d7, ⟨y70, y71, y72⟩, R7⟩ := A7
  go_wp2
  have hcl : ∀ w', Below wA.heap.size wA w' → w'.cell? ⟨o, 0, none⟩ = some (.bool s0) ∧ w'.cell? ⟨o, 1, none⟩ = some (.slice a0 n0 c0) ∧ w'.cell? ⟨o, 2, none⟩ = some (.slice b0 m0 d0) ∧ w'.cell? ⟨o, 3, none⟩ = some (.bool s1) ∧ w'.cell? ⟨o, 4, none⟩ = some (.slice a1 n1 c1) ∧ w'.cell? ⟨o, 5, none⟩ = some (.slice b1 m1 d1) ∧ w'.cell? ⟨o, 6, none⟩ = some (.bool s2) ∧ w'.cell? ⟨o, 7, none⟩ = some (.slice a2 n2 c2) ∧ w'.cell? ⟨o, 8, none⟩ = some (.slice b2 m2 d2) ∧ w'.cell? ⟨o, 9, none⟩ = some (.bool s3) ∧ w'.cell? ⟨o, 10, none⟩ = some (.slice a3 n3 c3) ∧ w'.cell? ⟨o, 11, none⟩ = some (.slice b3 m3 d3) ∧ w'.cell? ⟨o, 12, none⟩ = some (.bool s4) ∧ w'.cell? ⟨o, 13, none⟩ = some (.slice a4 n4 c4) ∧ w'.cell? ⟨o, 14, none⟩ = some (.slice b4 m4 d4) ∧ w'.cell? ⟨o, 15, none⟩ = some (.bool s5) ∧ w'.cell? ⟨o, 16, none⟩ = some (.slice a5 n5 c5) ∧ w'.cell? ⟨o, 17, none⟩ = some (.slice b5 m5 d5) ∧ w'.cell? ⟨o, 18, none⟩ = some (.bool s6) ∧ w'.cell? ⟨o, 19, none⟩ = some (.slice a6 n6 c6) ∧ w'.cell? ⟨o, 20, none⟩ = some (.slice b6 m6 d6) ∧ w'.cell? ⟨o, 21, none⟩ = some (.bool s7) ∧ w'.cell? ⟨o, 22, none⟩ = some (.slice a7 n7 c7) ∧ w'.cell? ⟨o, 23, none⟩ = some (.slice b7 m7 d7) := fun w' h => ⟨(h.cell (p := ⟨o, 0, none⟩) lo).trans y00, (h.cell (p := ⟨o, 1, none⟩) lo).trans y01, (h.cell (p := ⟨o, 2, none⟩) lo).trans y02, (h.cell (p := ⟨o, 3, none⟩) lo).trans y10, (h.cell (p := ⟨o, 4, none⟩) lo).trans y11, (h.cell (p := ⟨o, 5, none⟩) lo).trans y12, (h.cell (p := ⟨o, 6, none⟩) lo).trans y20, (h.cell (p := ⟨o, 7, none⟩) lo).trans y21, (h.cell (p := ⟨o, 8, none⟩) lo).trans y22, (h.cell (p := ⟨o, 9, none⟩) lo).trans y30, (h.cell (p := ⟨o, 10, none⟩) lo).trans y31, (h.cell (p := ⟨o, 11, none⟩) lo).trans y32, (h.cell (p := ⟨o, 12, none⟩) lo).trans y40, (h.cell (p := ⟨o, 13, none⟩) lo).trans y41, (h.cell (p := ⟨o, 14, none⟩) lo).trans y42, (h.cell (p := ⟨o, 15, none⟩) lo).trans y50, (h.cell (p := ⟨o, 16, none⟩) lo).trans y51, (h.cell (p := ⟨o, 17, none⟩) lo).trans y52, (h.cell (p := ⟨o, 18, none⟩) lo).trans y60, (h.cell (p := ⟨o, 19, none⟩) lo).trans y61, (h.cell (p := ⟨o, 20, none⟩) lo).trans y62, (h.cell (p := ⟨o, 21, none⟩) lo).trans y70, (h.cell (p := ⟨o, 22, none⟩) lo).trans y71, (h.cell (p := ⟨o, 23, none⟩) lo).trans y72⟩
  clear y00 y01 y02 y10 y11 y12 y20 y21 y22 y30 y31 y32 y40 y41 y42 y50 y51 y52 y60 y61 y62 y70 y71 y72
  refine wp_region_held_drew (S := fun w' => Below wA.heap.size wA w') (by kernel_rfl) (by first | exact Below.refl _ _ | exact below_drewN (Below.refl _ _) _) (fun hHeld => ?_)
  refine wpAnyH_take' (i := 0) (v := (.slice (some ⟨o, 0, none⟩) 4 4)) (some 28) rfl rfl (by kernel_rfl) (by kernel_rfl) (by kernel_rfl) (fun _ _ _ h => h) (Or.inl ⟨by rfl, ?hy⟩) (by assumption) ?rest
  case hy => (intro w' hSw; (try dsimp only at hSw); obtain ⟨y00, y01, y02, y10, y11, y12, y20, y21, y22, y30, y31, y32, y40, y41, y42, y50, y51, y52, y60, y61, y62, y70, y71, y72⟩ := hcl w' hSw; clear hSw; go_simp)
  case rest =>
  simp only [Act.put, List.setIfInBounds_toArray, List.set_cons_zero, List.set_cons_succ]
  refine wpAnyH_take' (i := 1) (v := (.pointer (some ⟨o, 18, none⟩))) (some 29) rfl rfl (by kernel_rfl) (by kernel_rfl) (by kernel_rfl) (fun _ _ _ h => h) (Or.inl ⟨by rfl, ?hy⟩) (by assumption) ?rest
  case hy => (intro w' hSw; (try dsimp only at hSw); obtain ⟨y00, y01, y02, y10, y11, y12, y20, y21, y22, y30, y31, y32, y40, y41, y42, y50, y51, y52, y60, y61, y62, y70, y71, y72⟩ := hcl w' hSw; clear hSw; go_simp)
  case rest =>
  simp only [Act.put, List.setIfInBounds_toArray, List.set_cons_zero, List.set_cons_succ]
  refine wpAnyH_take' (i := 2) (v := (.agg #[.bool s6, .slice a6 n6 c6, .slice b6 m6 d6, .bool s7, .slice a7 n7 c7, .slice b7 m7 d7])) (some 30) rfl rfl (by kernel_rfl) (by kernel_rfl) (by kernel_rfl) (fun _ _ _ h => h) (Or.inl ⟨by rfl, ?hy⟩) (by assumption) ?rest
  case hy => (intro w' hSw; (try dsimp only at hSw); obtain ⟨y00, y01, y02, y10, y11, y12, y20, y21, y22, y30, y31, y32, y40, y41, y42, y50, y51, y52, y60, y61, y62, y70, y71, y72⟩ := hcl w' hSw; clear hSw; go_simp)
  case rest =>
  simp only [Act.put, List.setIfInBounds_toArray, List.set_cons_zero, List.set_cons_succ]
  refine wpAnyH_take' (i := 3) (v := (.slice (some ⟨o, 0, none⟩) 4 4)) (some 31) rfl rfl (by kernel_rfl) (by kernel_rfl) (by kernel_rfl) (fun _ _ _ h => h) (Or.inl ⟨by rfl, ?hy⟩) (by assumption) ?rest
  case hy => (intro w' hSw; (try dsimp only at hSw); obtain ⟨y00, y01, y02, y10, y11, y12, y20, y21, y22, y30, y31, y32, y40, y41, y42, y50, y51, y52, y60, y61, y62, y70, y71, y72⟩ := hcl w' hSw; clear hSw; go_simp)
  case rest =>
  simp only [Act.put, List.setIfInBounds_toArray, List.set_cons_zero, List.set_cons_succ]
  refine wpAnyH_take' (i := 4) (v := (.pointer (some ⟨o, 0, none⟩))) (some 32) rfl rfl (by kernel_rfl) (by kernel_rfl) (by kernel_rfl) (fun _ _ _ h => h) (Or.inl ⟨by rfl, ?hy⟩) (by assumption) ?rest
  case hy => (intro w' hSw; (try dsimp only at hSw); obtain ⟨y00, y01, y02, y10, y11, y12, y20, y21, y22, y30, y31, y32, y40, y41, y42, y50, y51, y52, y60, y61, y62, y70, y71, y72⟩ := hcl w' hSw; clear hSw; go_simp)
  case rest =>
  simp only [Act.put, List.setIfInBounds_toArray, List.set_cons_zero, List.set_cons_succ]
  refine wpAnyH_take' (i := 5) (v := (.agg #[.bool s0, .slice a0 n0 c0, .slice b0 m0 d0, .bool s1, .slice a1 n1 c1, .slice b1 m1 d1])) (some 33) rfl rfl (by kernel_rfl) (by kernel_rfl) (by kernel_rfl) (fun _ _ _ h => h) (Or.inl ⟨by rfl, ?hy⟩) (by assumption) ?rest
  case hy => (intro w' hSw; (try dsimp only at hSw); obtain ⟨y00, y01, y02, y10, y11, y12, y20, y21, y22, y30, y31, y32, y40, y41, y42, y50, y51, y52, y60, y61, y62, y70, y71, y72⟩ := hcl w' hSw; clear hSw; go_simp)
  case rest =>
  simp only [Act.put, List.setIfInBounds_toArray, List.set_cons_zero, List.set_cons_succ]
  refine wpAnyH_take' (i := 7) (v := (.slice (some ⟨o, 0, none⟩) 4 4)) (some 35) rfl rfl (by kernel_rfl) (by kernel_rfl) (by kernel_rfl) (fun _ _ _ h => h) (Or.inl ⟨by rfl, ?hy⟩) (by assumption) ?rest
  case hy => (intro w' hSw; (try dsimp only at hSw); obtain ⟨y00, y01, y02, y10, y11, y12, y20, y21, y22, y30, y31, y32, y40, y41, y42, y50, y51, y52, y60, y61, y62, y70, y71, y72⟩ := hcl w' hSw; clear hSw; go_simp)
  case rest =>
  simp only [Act.put, List.setIfInBounds_toArray, List.set_cons_zero, List.set_cons_succ]
  refine wpAnyH_take' (i := 8) (v := (.pointer (some ⟨o, 18, none⟩))) (some 36) rfl rfl (by kernel_rfl) (by kernel_rfl) (by kernel_rfl) (fun _ _ _ h => h) (Or.inl ⟨by rfl, ?hy⟩) (by assumption) ?rest
  case hy => (intro w' hSw; (try dsimp only at hSw); obtain ⟨y00, y01, y02, y10, y11, y12, y20, y21, y22, y30, y31, y32, y40, y41, y42, y50, y51, y52, y60, y61, y62, y70, y71, y72⟩ := hcl w' hSw; clear hSw; go_simp)
  case rest =>
  simp only [Act.put, List.setIfInBounds_toArray, List.set_cons_zero, List.set_cons_succ]
  refine wpAnyH_take' (i := 9) (v := (.agg #[.bool s6, .slice a6 n6 c6, .slice b6 m6 d6, .bool s7, .slice a7 n7 c7, .slice b7 m7 d7])) (some 37) rfl rfl (by kernel_rfl) (by kernel_rfl) (by kernel_rfl) (fun _ _ _ h => h) (Or.inl ⟨by rfl, ?hy⟩) (by assumption) ?rest
  case hy => (intro w' hSw; (try dsimp only at hSw); obtain ⟨y00, y01, y02, y10, y11, y12, y20, y21, y22, y30, y31, y32, y40, y41, y42, y50, y51, y52, y60, y61, y62, y70, y71, y72⟩ := hcl w' hSw; clear hSw; go_simp)
  case rest =>
  simp only [Act.put, List.setIfInBounds_toArray, List.set_cons_zero, List.set_cons_succ]
  refine wpAnyH_take' (i := 10) (v := (.slice (some ⟨o, 0, none⟩) 4 4)) (some 38) rfl rfl (by kernel_rfl) (by kernel_rfl) (by kernel_rfl) (fun _ _ _ h => h) (Or.inl ⟨by rfl, ?hy⟩) (by assumption) ?rest
  case hy => (intro w' hSw; (try dsimp only at hSw); obtain ⟨y00, y01, y02, y10, y11, y12, y20, y21, y22, y30, y31, y32, y40, y41, y42, y50, y51, y52, y60, y61, y62, y70, y71, y72⟩ := hcl w' hSw; clear hSw; go_simp)
  case rest =>
  simp only [Act.put, List.setIfInBounds_toArray, List.set_cons_zero, List.set_cons_succ]
  refine wpAnyH_take' (i := 11) (v := (.pointer (some ⟨o, 6, none⟩))) (some 39) rfl rfl (by kernel_rfl) (by kernel_rfl) (by kernel_rfl) (fun _ _ _ h => h) (Or.inl ⟨by rfl, ?hy⟩) (by assumption) ?rest
  case hy => (intro w' hSw; (try dsimp only at hSw); obtain ⟨y00, y01, y02, y10, y11, y12, y20, y21, y22, y30, y31, y32, y40, y41, y42, y50, y51, y52, y60, y61, y62, y70, y71, y72⟩ := hcl w' hSw; clear hSw; go_simp)
  case rest =>
  simp only [Act.put, List.setIfInBounds_toArray, List.set_cons_zero, List.set_cons_succ]
  refine wpAnyH_take' (i := 12) (v := (.agg #[.bool s2, .slice a2 n2 c2, .slice b2 m2 d2, .bool s3, .slice a3 n3 c3, .slice b3 m3 d3])) (some 40) rfl rfl (by kernel_rfl) (by kernel_rfl) (by kernel_rfl) (fun _ _ _ h => h) (Or.inl ⟨by rfl, ?hy⟩) (by assumption) ?rest
  case hy => (intro w' hSw; (try dsimp only at hSw); obtain ⟨y00, y01, y02, y10, y11, y12, y20, y21, y22, y30, y31, y32, y40, y41, y42, y50, y51, y52, y60, y61, y62, y70, y71, y72⟩ := hcl w' hSw; clear hSw; go_simp)
  case rest =>
  simp only [Act.put, List.setIfInBounds_toArray, List.set_cons_zero, List.set_cons_succ]
  refine wpAnyH_take' (i := 14) (v := (.slice (some ⟨o, 0, none⟩) 4 4)) (some 42) rfl rfl (by kernel_rfl) (by kernel_rfl) (by kernel_rfl) (fun _ _ _ h => h) (Or.inl ⟨by rfl, ?hy⟩) (by assumption) ?rest
  case hy => (intro w' hSw; (try dsimp only at hSw); obtain ⟨y00, y01, y02, y10, y11, y12, y20, y21, y22, y30, y31, y32, y40, y41, y42, y50, y51, y52, y60, y61, y62, y70, y71, y72⟩ := hcl w' hSw; clear hSw; go_simp)
  case rest =>
  simp only [Act.put, List.setIfInBounds_toArray, List.set_cons_zero, List.set_cons_succ]
  refine wpAnyH_take' (i := 15) (v := (.pointer (some ⟨o, 18, none⟩))) (some 43) rfl rfl (by kernel_rfl) (by kernel_rfl) (by kernel_rfl) (fun _ _ _ h => h) (Or.inl ⟨by rfl, ?hy⟩) (by assumption) ?rest
  case hy => (intro w' hSw; (try dsimp only at hSw); obtain ⟨y00, y01, y02, y10, y11, y12, y20, y21, y22, y30, y31, y32, y40, y41, y42, y50, y51, y52, y60, y61, y62, y70, y71, y72⟩ := hcl w' hSw; clear hSw; go_simp)
  case rest =>
  simp only [Act.put, List.setIfInBounds_toArray, List.set_cons_zero, List.set_cons_succ]
  refine wpAnyH_take' (i := 16) (v := (.agg #[.bool s6, .slice a6 n6 c6, .slice b6 m6 d6, .bool s7, .slice a7 n7 c7, .slice b7 m7 d7])) (some 44) rfl rfl (by kernel_rfl) (by kernel_rfl) (by kernel_rfl) (fun _ _ _ h => h) (Or.inl ⟨by rfl, ?hy⟩) (by assumption) ?rest
  case hy => (intro w' hSw; (try dsimp only at hSw); obtain ⟨y00, y01, y02, y10, y11, y12, y20, y21, y22, y30, y31, y32, y40, y41, y42, y50, y51, y52, y60, y61, y62, y70, y71, y72⟩ := hcl w' hSw; clear hSw; go_simp)
  case rest =>
  simp only [Act.put, List.setIfInBounds_toArray, List.set_cons_zero, List.set_cons_succ]
  refine wpAnyH_take' (i := 17) (v := (.slice (some ⟨o, 0, none⟩) 4 4)) (some 45) rfl rfl (by kernel_rfl) (by kernel_rfl) (by kernel_rfl) (fun _ _ _ h => h) (Or.inl ⟨by rfl, ?hy⟩) (by assumption) ?rest
  case hy => (intro w' hSw; (try dsimp only at hSw); obtain ⟨y00, y01, y02, y10, y11, y12, y20, y21, y22, y30, y31, y32, y40, y41, y42, y50, y51, y52, y60, y61, y62, y70, y71, y72⟩ := hcl w' hSw; clear hSw; go_simp)
  case rest =>
  simp only [Act.put, List.setIfInBounds_toArray, List.set_cons_zero, List.set_cons_succ]
  refine wpAnyH_take' (i := 18) (v := (.pointer (some ⟨o, 12, none⟩))) (some 46) rfl rfl (by kernel_rfl) (by kernel_rfl) (by kernel_rfl) (fun _ _ _ h => h) (Or.inl ⟨by rfl, ?hy⟩) (by assumption) ?rest
  case hy => (intro w' hSw; (try dsimp only at hSw); obtain ⟨y00, y01, y02, y10, y11, y12, y20, y21, y22, y30, y31, y32, y40, y41, y42, y50, y51, y52, y60, y61, y62, y70, y71, y72⟩ := hcl w' hSw; clear hSw; go_simp)
  case rest =>
  simp only [Act.put, List.setIfInBounds_toArray, List.set_cons_zero, List.set_cons_succ]
  refine wpAnyH_take' (i := 19) (v := (.agg #[.bool s4, .slice a4 n4 c4, .slice b4 m4 d4, .bool s5, .slice a5 n5 c5, .slice b5 m5 d5])) (some 47) rfl rfl (by kernel_rfl) (by kernel_rfl) (by kernel_rfl) (fun _ _ _ h => h) (Or.inl ⟨by rfl, ?hy⟩) (by assumption) ?rest
  case hy => (intro w' hSw; (try dsimp only at hSw); obtain ⟨y00, y01, y02, y10, y11, y12, y20, y21, y22, y30, y31, y32, y40, y41, y42, y50, y51, y52, y60, y61, y62, y70, y71, y72⟩ := hcl w' hSw; clear hSw; go_simp)
  case rest =>
  simp only [Act.put, List.setIfInBounds_toArray, List.set_cons_zero, List.set_cons_succ]
  have K1 := HH.mk (from22_sp (w := wA) (w0 := wA) R6 R7 R0 R1 z6 z7 z0 z1 (by omega))
  have K2 := HH.mk (from22_sp (w := wA) (w0 := wA) R6 R7 R2 R3 z6 z7 z2 z3 (by omega))
  have K3 := HH.mk (from22_sp (w := wA) (w0 := wA) R6 R7 R4 R5 z6 z7 z4 z5 (by omega))
  refine wpAnyH_phase' (fuel := 3) (n := 6) (JJ wA (v0 - v6) (v1 - v7) (v2 - v6) (v3 - v7) (v4 - v6) (v5 - v7)) ?hinit ?hstep ?hend
  case hinit => exact ⟨none, none, none, none, none, none, by kernel_rfl, rfl, rfl, Or.inl ⟨rfl, rfl, rfl⟩, SpO.none', SpO.none', SpO.none', Al.nil _ _, hHeld⟩
  case hstep =>
    clear hcl R0 R1 R2 R3 R4 R5 R6 R7 hHeld
    rintro t listed a w' ⟨x34, x41, x48, y12, y13, y14, rfl, ht, rfl, hch, H34, H41, H48, hal, hB⟩
    have hBs := hB.size
    rcases hch with ⟨rfl, rfl, rfl⟩ | ⟨v34, rfl, rfl, rfl⟩ | ⟨v34, v41, rfl, rfl, rfl⟩ | ⟨v34, v41, v48, rfl, rfl, rfl⟩
    · rcases y12 with _ | g12 <;> rcases y13 with _ | g13 <;> rcases y14 with _ | g14
      · obtain rfl : t = 5 := by simp [nV, nO] at ht; omega
        refine steps_of (rs := [6, 21, 22, 23]) (by kernel_rfl) (by simp) ?_
        refine Steps.cons rfl (fun K' hK => ?_) ?_
        · simp only [pP, pI]
          go_simp
          refine (K1.out _ hB).mono ?_
          rintro e w'' ⟨v, rfl, hv, hb, hb0⟩
          exact hK.out _ _ ⟨hb0, some v, none, none, none, none, none, by kernel_rfl, by simp [nV, nO], by simp only [pP, pI, Act.put, List.setIfInBounds_toArray, List.set_cons_zero, List.set_cons_succ], Or.inr (Or.inl ⟨_, rfl, rfl, rfl⟩), (SpO.some' hv), (H41.later hb), (H48.later hb), hal.later hb, hb0⟩
        refine Steps.cons rfl (fun K' hK => ?_) ?_
        · simp only [pP, pI]
          go_simp
          have hba := alloc_below (w := w') (.cells #[.bool false, .slice none 0 0, .slice none 0 0, .bool false, .slice none 0 0, .slice none 0 0] 77)
          exact hK.out _ _ ⟨hB.trans (hba.mono hBs), none, none, none, some w'.heap.size, none, none, by kernel_rfl, by simp [nV, nO], by simp only [pP, pI, Act.put, List.setIfInBounds_toArray, List.set_cons_zero, List.set_cons_succ], Or.inl ⟨rfl, rfl, rfl⟩, H34.later hba, H41.later hba, H48.later hba, Al.add [] [] hal hBs, hB.trans (hba.mono hBs)⟩
        refine Steps.cons rfl (fun K' hK => ?_) ?_
        · simp only [pP, pI]
          go_simp
          have hba := alloc_below (w := w') (.cells #[.bool false, .slice none 0 0, .slice none 0 0, .bool false, .slice none 0 0, .slice none 0 0] 77)
          exact hK.out _ _ ⟨hB.trans (hba.mono hBs), none, none, none, none, some w'.heap.size, none, by kernel_rfl, by simp [nV, nO], by simp only [pP, pI, Act.put, List.setIfInBounds_toArray, List.set_cons_zero, List.set_cons_succ], Or.inl ⟨rfl, rfl, rfl⟩, H34.later hba, H41.later hba, H48.later hba, Al.add [] [] hal hBs, hB.trans (hba.mono hBs)⟩
        refine Steps.cons rfl (fun K' hK => ?_) ?_
        · simp only [pP, pI]
          go_simp
          have hba := alloc_below (w := w') (.cells #[.bool false, .slice none 0 0, .slice none 0 0, .bool false, .slice none 0 0, .slice none 0 0] 77)
          exact hK.out _ _ ⟨hB.trans (hba.mono hBs), none, none, none, none, none, some w'.heap.size, by kernel_rfl, by simp [nV, nO], by simp only [pP, pI, Act.put, List.setIfInBounds_toArray, List.set_cons_zero, List.set_cons_succ], Or.inl ⟨rfl, rfl, rfl⟩, H34.later hba, H41.later hba, H48.later hba, Al.add [] [] hal hBs, hB.trans (hba.mono hBs)⟩
        exact Steps.nil
      · obtain rfl : t = 4 := by simp [nV, nO] at ht; omega
        refine steps_of (rs := [6, 21, 22]) (by kernel_rfl) (by simp) ?_
        refine Steps.cons rfl (fun K' hK => ?_) ?_
        · simp only [pP, pI, Act.put, List.setIfInBounds_toArray, List.set_cons_zero, List.set_cons_succ]
          go_simp
          refine (K1.out _ hB).mono ?_
          rintro e w'' ⟨v, rfl, hv, hb, hb0⟩
          exact hK.out _ _ ⟨hb0, some v, none, none, none, none, some g14, by kernel_rfl, by simp [nV, nO], by simp only [pP, pI, Act.put, List.setIfInBounds_toArray, List.set_cons_zero, List.set_cons_succ], Or.inr (Or.inl ⟨_, rfl, rfl, rfl⟩), (SpO.some' hv), (H41.later hb), (H48.later hb), hal.later hb, hb0⟩
        refine Steps.cons rfl (fun K' hK => ?_) ?_
        · simp only [pP, pI, Act.put, List.setIfInBounds_toArray, List.set_cons_zero, List.set_cons_succ]
          go_simp
          have hba := alloc_below (w := w') (.cells #[.bool false, .slice none 0 0, .slice none 0 0, .bool false, .slice none 0 0, .slice none 0 0] 77)
          exact hK.out _ _ ⟨hB.trans (hba.mono hBs), none, none, none, some w'.heap.size, none, some g14, by kernel_rfl, by simp [nV, nO], by simp only [pP, pI, Act.put, List.setIfInBounds_toArray, List.set_cons_zero, List.set_cons_succ], Or.inl ⟨rfl, rfl, rfl⟩, H34.later hba, H41.later hba, H48.later hba, Al.add [] [g14] hal hBs, hB.trans (hba.mono hBs)⟩
        refine Steps.cons rfl (fun K' hK => ?_) ?_
        · simp only [pP, pI, Act.put, List.setIfInBounds_toArray, List.set_cons_zero, List.set_cons_succ]
          go_simp
          have hba := alloc_below (w := w') (.cells #[.bool false, .slice none 0 0, .slice none 0 0, .bool false, .slice none 0 0, .slice none 0 0] 77)
          exact hK.out _ _ ⟨hB.trans (hba.mono hBs), none, none, none, none, some w'.heap.size, some g14, by kernel_rfl, by simp [nV, nO], by simp only [pP, pI, Act.put, List.setIfInBounds_toArray, List.set_cons_zero, List.set_cons_succ], Or.inl ⟨rfl, rfl, rfl⟩, H34.later hba, H41.later hba, H48.later hba, Al.add [] [g14] hal hBs, hB.trans (hba.mono hBs)⟩
        exact Steps.nil
      · obtain rfl : t = 4 := by simp [nV, nO] at ht; omega
        refine steps_of (rs := [6, 21, 23]) (by kernel_rfl) (by simp) ?_
        refine Steps.cons rfl (fun K' hK => ?_) ?_
        · simp only [pP, pI, Act.put, List.setIfInBounds_toArray, List.set_cons_zero, List.set_cons_succ]
          go_simp
          refine (K1.out _ hB).mono ?_
          rintro e w'' ⟨v, rfl, hv, hb, hb0⟩
          exact hK.out _ _ ⟨hb0, some v, none, none, none, some g13, none, by kernel_rfl, by simp [nV, nO], by simp only [pP, pI, Act.put, List.setIfInBounds_toArray, List.set_cons_zero, List.set_cons_succ], Or.inr (Or.inl ⟨_, rfl, rfl, rfl⟩), (SpO.some' hv), (H41.later hb), (H48.later hb), hal.later hb, hb0⟩
        refine Steps.cons rfl (fun K' hK => ?_) ?_
        · simp only [pP, pI, Act.put, List.setIfInBounds_toArray, List.set_cons_zero, List.set_cons_succ]
          go_simp
          have hba := alloc_below (w := w') (.cells #[.bool false, .slice none 0 0, .slice none 0 0, .bool false, .slice none 0 0, .slice none 0 0] 77)
          exact hK.out _ _ ⟨hB.trans (hba.mono hBs), none, none, none, some w'.heap.size, some g13, none, by kernel_rfl, by simp [nV, nO], by simp only [pP, pI, Act.put, List.setIfInBounds_toArray, List.set_cons_zero, List.set_cons_succ], Or.inl ⟨rfl, rfl, rfl⟩, H34.later hba, H41.later hba, H48.later hba, Al.add [] [g13] hal hBs, hB.trans (hba.mono hBs)⟩
        refine Steps.cons rfl (fun K' hK => ?_) ?_
        · simp only [pP, pI, Act.put, List.setIfInBounds_toArray, List.set_cons_zero, List.set_cons_succ]
          go_simp
          have hba := alloc_below (w := w') (.cells #[.bool false, .slice none 0 0, .slice none 0 0, .bool false, .slice none 0 0, .slice none 0 0] 77)
          exact hK.out _ _ ⟨hB.trans (hba.mono hBs), none, none, none, none, some g13, some w'.heap.size, by kernel_rfl, by simp [nV, nO], by simp only [pP, pI, Act.put, List.setIfInBounds_toArray, List.set_cons_zero, List.set_cons_succ], Or.inl ⟨rfl, rfl, rfl⟩, H34.later hba, H41.later hba, H48.later hba, Al.add [g13] [] hal hBs, hB.trans (hba.mono hBs)⟩
        exact Steps.nil
      · obtain rfl : t = 3 := by simp [nV, nO] at ht; omega
        refine steps_of (rs := [6, 21]) (by kernel_rfl) (by simp) ?_
        refine Steps.cons rfl (fun K' hK => ?_) ?_
        · simp only [pP, pI, Act.put, List.setIfInBounds_toArray, List.set_cons_zero, List.set_cons_succ]
          go_simp
          refine (K1.out _ hB).mono ?_
          rintro e w'' ⟨v, rfl, hv, hb, hb0⟩
          exact hK.out _ _ ⟨hb0, some v, none, none, none, some g13, some g14, by kernel_rfl, by simp [nV, nO], by simp only [pP, pI, Act.put, List.setIfInBounds_toArray, List.set_cons_zero, List.set_cons_succ], Or.inr (Or.inl ⟨_, rfl, rfl, rfl⟩), (SpO.some' hv), (H41.later hb), (H48.later hb), hal.later hb, hb0⟩
        refine Steps.cons rfl (fun K' hK => ?_) ?_
        · simp only [pP, pI, Act.put, List.setIfInBounds_toArray, List.set_cons_zero, List.set_cons_succ]
          go_simp
          have hba := alloc_below (w := w') (.cells #[.bool false, .slice none 0 0, .slice none 0 0, .bool false, .slice none 0 0, .slice none 0 0] 77)
          exact hK.out _ _ ⟨hB.trans (hba.mono hBs), none, none, none, some w'.heap.size, some g13, some g14, by kernel_rfl, by simp [nV, nO], by simp only [pP, pI, Act.put, List.setIfInBounds_toArray, List.set_cons_zero, List.set_cons_succ], Or.inl ⟨rfl, rfl, rfl⟩, H34.later hba, H41.later hba, H48.later hba, Al.add [] [g13, g14] hal hBs, hB.trans (hba.mono hBs)⟩
        exact Steps.nil
      · obtain rfl : t = 4 := by simp [nV, nO] at ht; omega
        refine steps_of (rs := [6, 22, 23]) (by kernel_rfl) (by simp) ?_
        refine Steps.cons rfl (fun K' hK => ?_) ?_
        · simp only [pP, pI, Act.put, List.setIfInBounds_toArray, List.set_cons_zero, List.set_cons_succ]
          go_simp
          refine (K1.out _ hB).mono ?_
          rintro e w'' ⟨v, rfl, hv, hb, hb0⟩
          exact hK.out _ _ ⟨hb0, some v, none, none, some g12, none, none, by kernel_rfl, by simp [nV, nO], by simp only [pP, pI, Act.put, List.setIfInBounds_toArray, List.set_cons_zero, List.set_cons_succ], Or.inr (Or.inl ⟨_, rfl, rfl, rfl⟩), (SpO.some' hv), (H41.later hb), (H48.later hb), hal.later hb, hb0⟩
        refine Steps.cons rfl (fun K' hK => ?_) ?_
        · simp only [pP, pI, Act.put, List.setIfInBounds_toArray, List.set_cons_zero, List.set_cons_succ]
          go_simp
          have hba := alloc_below (w := w') (.cells #[.bool false, .slice none 0 0, .slice none 0 0, .bool false, .slice none 0 0, .slice none 0 0] 77)
          exact hK.out _ _ ⟨hB.trans (hba.mono hBs), none, none, none, some g12, some w'.heap.size, none, by kernel_rfl, by simp [nV, nO], by simp only [pP, pI, Act.put, List.setIfInBounds_toArray, List.set_cons_zero, List.set_cons_succ], Or.inl ⟨rfl, rfl, rfl⟩, H34.later hba, H41.later hba, H48.later hba, Al.add [g12] [] hal hBs, hB.trans (hba.mono hBs)⟩
        refine Steps.cons rfl (fun K' hK => ?_) ?_
        · simp only [pP, pI, Act.put, List.setIfInBounds_toArray, List.set_cons_zero, List.set_cons_succ]
          go_simp
          have hba := alloc_below (w := w') (.cells #[.bool false, .slice none 0 0, .slice none 0 0, .bool false, .slice none 0 0, .slice none 0 0] 77)
          exact hK.out _ _ ⟨hB.trans (hba.mono hBs), none, none, none, some g12, none, some w'.heap.size, by kernel_rfl, by simp [nV, nO], by simp only [pP, pI, Act.put, List.setIfInBounds_toArray, List.set_cons_zero, List.set_cons_succ], Or.inl ⟨rfl, rfl, rfl⟩, H34.later hba, H41.later hba, H48.later hba, Al.add [g12] [] hal hBs, hB.trans (hba.mono hBs)⟩
        exact Steps.nil
      · obtain rfl : t = 3 := by simp [nV, nO] at ht; omega
        refine steps_of (rs := [6, 22]) (by kernel_rfl) (by simp) ?_
        refine Steps.cons rfl (fun K' hK => ?_) ?_
        · simp only [pP, pI, Act.put, List.setIfInBounds_toArray, List.set_cons_zero, List.set_cons_succ]
          go_simp
          refine (K1.out _ hB).mono ?_
          rintro e w'' ⟨v, rfl, hv, hb, hb0⟩
          exact hK.out _ _ ⟨hb0, some v, none, none, some g12, none, some g14, by kernel_rfl, by simp [nV, nO], by simp only [pP, pI, Act.put, List.setIfInBounds_toArray, List.set_cons_zero, List.set_cons_succ], Or.inr (Or.inl ⟨_, rfl, rfl, rfl⟩), (SpO.some' hv), (H41.later hb), (H48.later hb), hal.later hb, hb0⟩
        refine Steps.cons rfl (fun K' hK => ?_) ?_
        · simp only [pP, pI, Act.put, List.setIfInBounds_toArray, List.set_cons_zero, List.set_cons_succ]
          go_simp
          have hba := alloc_below (w := w') (.cells #[.bool false, .slice none 0 0, .slice none 0 0, .bool false, .slice none 0 0, .slice none 0 0] 77)
          exact hK.out _ _ ⟨hB.trans (hba.mono hBs), none, none, none, some g12, some w'.heap.size, some g14, by kernel_rfl, by simp [nV, nO], by simp only [pP, pI, Act.put, List.setIfInBounds_toArray, List.set_cons_zero, List.set_cons_succ], Or.inl ⟨rfl, rfl, rfl⟩, H34.later hba, H41.later hba, H48.later hba, Al.add [g12] [g14] hal hBs, hB.trans (hba.mono hBs)⟩
        exact Steps.nil
      · obtain rfl : t = 3 := by simp [nV, nO] at ht; omega
        refine steps_of (rs := [6, 23]) (by kernel_rfl) (by simp) ?_
        refine Steps.cons rfl (fun K' hK => ?_) ?_
        · simp only [pP, pI, Act.put, List.setIfInBounds_toArray, List.set_cons_zero, List.set_cons_succ]
          go_simp
          refine (K1.out _ hB).mono ?_
          rintro e w'' ⟨v, rfl, hv, hb, hb0⟩
          exact hK.out _ _ ⟨hb0, some v, none, none, some g12, some g13, none, by kernel_rfl, by simp [nV, nO], by simp only [pP, pI, Act.put, List.setIfInBounds_toArray, List.set_cons_zero, List.set_cons_succ], Or.inr (Or.inl ⟨_, rfl, rfl, rfl⟩), (SpO.some' hv), (H41.later hb), (H48.later hb), hal.later hb, hb0⟩
        refine Steps.cons rfl (fun K' hK => ?_) ?_
        · simp only [pP, pI, Act.put, List.setIfInBounds_toArray, List.set_cons_zero, List.set_cons_succ]
          go_simp
          have hba := alloc_below (w := w') (.cells #[.bool false, .slice none 0 0, .slice none 0 0, .bool false, .slice none 0 0, .slice none 0 0] 77)
          exact hK.out _ _ ⟨hB.trans (hba.mono hBs), none, none, none, some g12, some g13, some w'.heap.size, by kernel_rfl, by simp [nV, nO], by simp only [pP, pI, Act.put, List.setIfInBounds_toArray, List.set_cons_zero, List.set_cons_succ], Or.inl ⟨rfl, rfl, rfl⟩, H34.later hba, H41.later hba, H48.later hba, Al.add [g12, g13] [] hal hBs, hB.trans (hba.mono hBs)⟩
        exact Steps.nil
      · obtain rfl : t = 2 := by simp [nV, nO] at ht; omega
        refine steps_of (rs := [6]) (by kernel_rfl) (by simp) ?_
        refine Steps.cons rfl (fun K' hK => ?_) ?_
        · simp only [pP, pI, Act.put, List.setIfInBounds_toArray, List.set_cons_zero, List.set_cons_succ]
          go_simp
          refine (K1.out _ hB).mono ?_
          rintro e w'' ⟨v, rfl, hv, hb, hb0⟩
          exact hK.out _ _ ⟨hb0, some v, none, none, some g12, some g13, some g14, by kernel_rfl, by simp [nV, nO], by simp only [pP, pI, Act.put, List.setIfInBounds_toArray, List.set_cons_zero, List.set_cons_succ], Or.inr (Or.inl ⟨_, rfl, rfl, rfl⟩), (SpO.some' hv), (H41.later hb), (H48.later hb), hal.later hb, hb0⟩
        exact Steps.nil
    · rcases y12 with _ | g12 <;> rcases y13 with _ | g13 <;> rcases y14 with _ | g14
      · obtain rfl : t = 4 := by simp [nV, nO] at ht; omega
        refine steps_of (rs := [13, 21, 22, 23]) (by kernel_rfl) (by simp) ?_
        refine Steps.cons rfl (fun K' hK => ?_) ?_
        · simp only [pP, pI, Act.put, List.setIfInBounds_toArray, List.set_cons_zero, List.set_cons_succ]
          go_simp
          refine (K2.out _ hB).mono ?_
          rintro e w'' ⟨v, rfl, hv, hb, hb0⟩
          exact hK.out _ _ ⟨hb0, some v34, some v, none, none, none, none, by kernel_rfl, by simp [nV, nO], by simp only [pP, pI, Act.put, List.setIfInBounds_toArray, List.set_cons_zero, List.set_cons_succ], Or.inr (Or.inr (Or.inl ⟨_, _, rfl, rfl, rfl⟩)), (H34.later hb), (SpO.some' hv), (H48.later hb), hal.later hb, hb0⟩
        refine Steps.cons rfl (fun K' hK => ?_) ?_
        · simp only [pP, pI, Act.put, List.setIfInBounds_toArray, List.set_cons_zero, List.set_cons_succ]
          go_simp
          have hba := alloc_below (w := w') (.cells #[.bool false, .slice none 0 0, .slice none 0 0, .bool false, .slice none 0 0, .slice none 0 0] 77)
          exact hK.out _ _ ⟨hB.trans (hba.mono hBs), some v34, none, none, some w'.heap.size, none, none, by kernel_rfl, by simp [nV, nO], by simp only [pP, pI, Act.put, List.setIfInBounds_toArray, List.set_cons_zero, List.set_cons_succ], Or.inr (Or.inl ⟨_, rfl, rfl, rfl⟩), H34.later hba, H41.later hba, H48.later hba, Al.add [] [] hal hBs, hB.trans (hba.mono hBs)⟩
        refine Steps.cons rfl (fun K' hK => ?_) ?_
        · simp only [pP, pI, Act.put, List.setIfInBounds_toArray, List.set_cons_zero, List.set_cons_succ]
          go_simp
          have hba := alloc_below (w := w') (.cells #[.bool false, .slice none 0 0, .slice none 0 0, .bool false, .slice none 0 0, .slice none 0 0] 77)
          exact hK.out _ _ ⟨hB.trans (hba.mono hBs), some v34, none, none, none, some w'.heap.size, none, by kernel_rfl, by simp [nV, nO], by simp only [pP, pI, Act.put, List.setIfInBounds_toArray, List.set_cons_zero, List.set_cons_succ], Or.inr (Or.inl ⟨_, rfl, rfl, rfl⟩), H34.later hba, H41.later hba, H48.later hba, Al.add [] [] hal hBs, hB.trans (hba.mono hBs)⟩
        refine Steps.cons rfl (fun K' hK => ?_) ?_
        · simp only [pP, pI, Act.put, List.setIfInBounds_toArray, List.set_cons_zero, List.set_cons_succ]
          go_simp
          have hba := alloc_below (w := w') (.cells #[.bool false, .slice none 0 0, .slice none 0 0, .bool false, .slice none 0 0, .slice none 0 0] 77)
          exact hK.out _ _ ⟨hB.trans (hba.mono hBs), some v34, none, none, none, none, some w'.heap.size, by kernel_rfl, by simp [nV, nO], by simp only [pP, pI, Act.put, List.setIfInBounds_toArray, List.set_cons_zero, List.set_cons_succ], Or.inr (Or.inl ⟨_, rfl, rfl, rfl⟩), H34.later hba, H41.later hba, H48.later hba, Al.add [] [] hal hBs, hB.trans (hba.mono hBs)⟩
        exact Steps.nil
      · obtain rfl : t = 3 := by simp [nV, nO] at ht; omega
        refine steps_of (rs := [13, 21, 22]) (by kernel_rfl) (by simp) ?_
        refine Steps.cons rfl (fun K' hK => ?_) ?_
        · simp only [pP, pI, Act.put, List.setIfInBounds_toArray, List.set_cons_zero, List.set_cons_succ]
          go_simp
          refine (K2.out _ hB).mono ?_
          rintro e w'' ⟨v, rfl, hv, hb, hb0⟩
          exact hK.out _ _ ⟨hb0, some v34, some v, none, none, none, some g14, by kernel_rfl, by simp [nV, nO], by simp only [pP, pI, Act.put, List.setIfInBounds_toArray, List.set_cons_zero, List.set_cons_succ], Or.inr (Or.inr (Or.inl ⟨_, _, rfl, rfl, rfl⟩)), (H34.later hb), (SpO.some' hv), (H48.later hb), hal.later hb, hb0⟩
        refine Steps.cons rfl (fun K' hK => ?_) ?_
        · simp only [pP, pI, Act.put, List.setIfInBounds_toArray, List.set_cons_zero, List.set_cons_succ]
          go_simp
          have hba := alloc_below (w := w') (.cells #[.bool false, .slice none 0 0, .slice none 0 0, .bool false, .slice none 0 0, .slice none 0 0] 77)
          exact hK.out _ _ ⟨hB.trans (hba.mono hBs), some v34, none, none, some w'.heap.size, none, some g14, by kernel_rfl, by simp [nV, nO], by simp only [pP, pI, Act.put, List.setIfInBounds_toArray, List.set_cons_zero, List.set_cons_succ], Or.inr (Or.inl ⟨_, rfl, rfl, rfl⟩), H34.later hba, H41.later hba, H48.later hba, Al.add [] [g14] hal hBs, hB.trans (hba.mono hBs)⟩
        refine Steps.cons rfl (fun K' hK => ?_) ?_
        · simp only [pP, pI, Act.put, List.setIfInBounds_toArray, List.set_cons_zero, List.set_cons_succ]
          go_simp
          have hba := alloc_below (w := w') (.cells #[.bool false, .slice none 0 0, .slice none 0 0, .bool false, .slice none 0 0, .slice none 0 0] 77)
          exact hK.out _ _ ⟨hB.trans (hba.mono hBs), some v34, none, none, none, some w'.heap.size, some g14, by kernel_rfl, by simp [nV, nO], by simp only [pP, pI, Act.put, List.setIfInBounds_toArray, List.set_cons_zero, List.set_cons_succ], Or.inr (Or.inl ⟨_, rfl, rfl, rfl⟩), H34.later hba, H41.later hba, H48.later hba, Al.add [] [g14] hal hBs, hB.trans (hba.mono hBs)⟩
        exact Steps.nil
      · obtain rfl : t = 3 := by simp [nV, nO] at ht; omega
        refine steps_of (rs := [13, 21, 23]) (by kernel_rfl) (by simp) ?_
        refine Steps.cons rfl (fun K' hK => ?_) ?_
        · simp only [pP, pI, Act.put, List.setIfInBounds_toArray, List.set_cons_zero, List.set_cons_succ]
          go_simp
          refine (K2.out _ hB).mono ?_
          rintro e w'' ⟨v, rfl, hv, hb, hb0⟩
          exact hK.out _ _ ⟨hb0, some v34, some v, none, none, some g13, none, by kernel_rfl, by simp [nV, nO], by simp only [pP, pI, Act.put, List.setIfInBounds_toArray, List.set_cons_zero, List.set_cons_succ], Or.inr (Or.inr (Or.inl ⟨_, _, rfl, rfl, rfl⟩)), (H34.later hb), (SpO.some' hv), (H48.later hb), hal.later hb, hb0⟩
        refine Steps.cons rfl (fun K' hK => ?_) ?_
        · simp only [pP, pI, Act.put, List.setIfInBounds_toArray, List.set_cons_zero, List.set_cons_succ]
          go_simp
          have hba := alloc_below (w := w') (.cells #[.bool false, .slice none 0 0, .slice none 0 0, .bool false, .slice none 0 0, .slice none 0 0] 77)
          exact hK.out _ _ ⟨hB.trans (hba.mono hBs), some v34, none, none, some w'.heap.size, some g13, none, by kernel_rfl, by simp [nV, nO], by simp only [pP, pI, Act.put, List.setIfInBounds_toArray, List.set_cons_zero, List.set_cons_succ], Or.inr (Or.inl ⟨_, rfl, rfl, rfl⟩), H34.later hba, H41.later hba, H48.later hba, Al.add [] [g13] hal hBs, hB.trans (hba.mono hBs)⟩
        refine Steps.cons rfl (fun K' hK => ?_) ?_
        · simp only [pP, pI, Act.put, List.setIfInBounds_toArray, List.set_cons_zero, List.set_cons_succ]
          go_simp
          have hba := alloc_below (w := w') (.cells #[.bool false, .slice none 0 0, .slice none 0 0, .bool false, .slice none 0 0, .slice none 0 0] 77)
          exact hK.out _ _ ⟨hB.trans (hba.mono hBs), some v34, none, none, none, some g13, some w'.heap.size, by kernel_rfl, by simp [nV, nO], by simp only [pP, pI, Act.put, List.setIfInBounds_toArray, List.set_cons_zero, List.set_cons_succ], Or.inr (Or.inl ⟨_, rfl, rfl, rfl⟩), H34.later hba, H41.later hba, H48.later hba, Al.add [g13] [] hal hBs, hB.trans (hba.mono hBs)⟩
        exact Steps.nil
      · obtain rfl : t = 2 := by simp [nV, nO] at ht; omega
        refine steps_of (rs := [13, 21]) (by kernel_rfl) (by simp) ?_
        refine Steps.cons rfl (fun K' hK => ?_) ?_
        · simp only [pP, pI, Act.put, List.setIfInBounds_toArray, List.set_cons_zero, List.set_cons_succ]
          go_simp
          refine (K2.out _ hB).mono ?_
          rintro e w'' ⟨v, rfl, hv, hb, hb0⟩
          exact hK.out _ _ ⟨hb0, some v34, some v, none, none, some g13, some g14, by kernel_rfl, by simp [nV, nO], by simp only [pP, pI, Act.put, List.setIfInBounds_toArray, List.set_cons_zero, List.set_cons_succ], Or.inr (Or.inr (Or.inl ⟨_, _, rfl, rfl, rfl⟩)), (H34.later hb), (SpO.some' hv), (H48.later hb), hal.later hb, hb0⟩
        refine Steps.cons rfl (fun K' hK => ?_) ?_
        · simp only [pP, pI, Act.put, List.setIfInBounds_toArray, List.set_cons_zero, List.set_cons_succ]
          go_simp
          have hba := alloc_below (w := w') (.cells #[.bool false, .slice none 0 0, .slice none 0 0, .bool false, .slice none 0 0, .slice none 0 0] 77)
          exact hK.out _ _ ⟨hB.trans (hba.mono hBs), some v34, none, none, some w'.heap.size, some g13, some g14, by kernel_rfl, by simp [nV, nO], by simp only [pP, pI, Act.put, List.setIfInBounds_toArray, List.set_cons_zero, List.set_cons_succ], Or.inr (Or.inl ⟨_, rfl, rfl, rfl⟩), H34.later hba, H41.later hba, H48.later hba, Al.add [] [g13, g14] hal hBs, hB.trans (hba.mono hBs)⟩
        exact Steps.nil
      · obtain rfl : t = 3 := by simp [nV, nO] at ht; omega
        refine steps_of (rs := [13, 22, 23]) (by kernel_rfl) (by simp) ?_
        refine Steps.cons rfl (fun K' hK => ?_) ?_
        · simp only [pP, pI, Act.put, List.setIfInBounds_toArray, List.set_cons_zero, List.set_cons_succ]
          go_simp
          refine (K2.out _ hB).mono ?_
          rintro e w'' ⟨v, rfl, hv, hb, hb0⟩
          exact hK.out _ _ ⟨hb0, some v34, some v, none, some g12, none, none, by kernel_rfl, by simp [nV, nO], by simp only [pP, pI, Act.put, List.setIfInBounds_toArray, List.set_cons_zero, List.set_cons_succ], Or.inr (Or.inr (Or.inl ⟨_, _, rfl, rfl, rfl⟩)), (H34.later hb), (SpO.some' hv), (H48.later hb), hal.later hb, hb0⟩
        refine Steps.cons rfl (fun K' hK => ?_) ?_
        · simp only [pP, pI, Act.put, List.setIfInBounds_toArray, List.set_cons_zero, List.set_cons_succ]
          go_simp
          have hba := alloc_below (w := w') (.cells #[.bool false, .slice none 0 0, .slice none 0 0, .bool false, .slice none 0 0, .slice none 0 0] 77)
          exact hK.out _ _ ⟨hB.trans (hba.mono hBs), some v34, none, none, some g12, some w'.heap.size, none, by kernel_rfl, by simp [nV, nO], by simp only [pP, pI, Act.put, List.setIfInBounds_toArray, List.set_cons_zero, List.set_cons_succ], Or.inr (Or.inl ⟨_, rfl, rfl, rfl⟩), H34.later hba, H41.later hba, H48.later hba, Al.add [g12] [] hal hBs, hB.trans (hba.mono hBs)⟩
        refine Steps.cons rfl (fun K' hK => ?_) ?_
        · simp only [pP, pI, Act.put, List.setIfInBounds_toArray, List.set_cons_zero, List.set_cons_succ]
          go_simp
          have hba := alloc_below (w := w') (.cells #[.bool false, .slice none 0 0, .slice none 0 0, .bool false, .slice none 0 0, .slice none 0 0] 77)
          exact hK.out _ _ ⟨hB.trans (hba.mono hBs), some v34, none, none, some g12, none, some w'.heap.size, by kernel_rfl, by simp [nV, nO], by simp only [pP, pI, Act.put, List.setIfInBounds_toArray, List.set_cons_zero, List.set_cons_succ], Or.inr (Or.inl ⟨_, rfl, rfl, rfl⟩), H34.later hba, H41.later hba, H48.later hba, Al.add [g12] [] hal hBs, hB.trans (hba.mono hBs)⟩
        exact Steps.nil
      · obtain rfl : t = 2 := by simp [nV, nO] at ht; omega
        refine steps_of (rs := [13, 22]) (by kernel_rfl) (by simp) ?_
        refine Steps.cons rfl (fun K' hK => ?_) ?_
        · simp only [pP, pI, Act.put, List.setIfInBounds_toArray, List.set_cons_zero, List.set_cons_succ]
          go_simp
          refine (K2.out _ hB).mono ?_
          rintro e w'' ⟨v, rfl, hv, hb, hb0⟩
          exact hK.out _ _ ⟨hb0, some v34, some v, none, some g12, none, some g14, by kernel_rfl, by simp [nV, nO], by simp only [pP, pI, Act.put, List.setIfInBounds_toArray, List.set_cons_zero, List.set_cons_succ], Or.inr (Or.inr (Or.inl ⟨_, _, rfl, rfl, rfl⟩)), (H34.later hb), (SpO.some' hv), (H48.later hb), hal.later hb, hb0⟩
        refine Steps.cons rfl (fun K' hK => ?_) ?_
        · simp only [pP, pI, Act.put, List.setIfInBounds_toArray, List.set_cons_zero, List.set_cons_succ]
          go_simp
          have hba := alloc_below (w := w') (.cells #[.bool false, .slice none 0 0, .slice none 0 0, .bool false, .slice none 0 0, .slice none 0 0] 77)
          exact hK.out _ _ ⟨hB.trans (hba.mono hBs), some v34, none, none, some g12, some w'.heap.size, some g14, by kernel_rfl, by simp [nV, nO], by simp only [pP, pI, Act.put, List.setIfInBounds_toArray, List.set_cons_zero, List.set_cons_succ], Or.inr (Or.inl ⟨_, rfl, rfl, rfl⟩), H34.later hba, H41.later hba, H48.later hba, Al.add [g12] [g14] hal hBs, hB.trans (hba.mono hBs)⟩
        exact Steps.nil
      · obtain rfl : t = 2 := by simp [nV, nO] at ht; omega
        refine steps_of (rs := [13, 23]) (by kernel_rfl) (by simp) ?_
        refine Steps.cons rfl (fun K' hK => ?_) ?_
        · simp only [pP, pI, Act.put, List.setIfInBounds_toArray, List.set_cons_zero, List.set_cons_succ]
          go_simp
          refine (K2.out _ hB).mono ?_
          rintro e w'' ⟨v, rfl, hv, hb, hb0⟩
          exact hK.out _ _ ⟨hb0, some v34, some v, none, some g12, some g13, none, by kernel_rfl, by simp [nV, nO], by simp only [pP, pI, Act.put, List.setIfInBounds_toArray, List.set_cons_zero, List.set_cons_succ], Or.inr (Or.inr (Or.inl ⟨_, _, rfl, rfl, rfl⟩)), (H34.later hb), (SpO.some' hv), (H48.later hb), hal.later hb, hb0⟩
        refine Steps.cons rfl (fun K' hK => ?_) ?_
        · simp only [pP, pI, Act.put, List.setIfInBounds_toArray, List.set_cons_zero, List.set_cons_succ]
          go_simp
          have hba := alloc_below (w := w') (.cells #[.bool false, .slice none 0 0, .slice none 0 0, .bool false, .slice none 0 0, .slice none 0 0] 77)
          exact hK.out _ _ ⟨hB.trans (hba.mono hBs), some v34, none, none, some g12, some g13, some w'.heap.size, by kernel_rfl, by simp [nV, nO], by simp only [pP, pI, Act.put, List.setIfInBounds_toArray, List.set_cons_zero, List.set_cons_succ], Or.inr (Or.inl ⟨_, rfl, rfl, rfl⟩), H34.later hba, H41.later hba, H48.later hba, Al.add [g12, g13] [] hal hBs, hB.trans (hba.mono hBs)⟩
        exact Steps.nil
      · obtain rfl : t = 1 := by simp [nV, nO] at ht; omega
        refine steps_of (rs := [13]) (by kernel_rfl) (by simp) ?_
        refine Steps.cons rfl (fun K' hK => ?_) ?_
        · simp only [pP, pI, Act.put, List.setIfInBounds_toArray, List.set_cons_zero, List.set_cons_succ]
          go_simp
          refine (K2.out _ hB).mono ?_
          rintro e w'' ⟨v, rfl, hv, hb, hb0⟩
          exact hK.out _ _ ⟨hb0, some v34, some v, none, some g12, some g13, some g14, by kernel_rfl, by simp [nV, nO], by simp only [pP, pI, Act.put, List.setIfInBounds_toArray, List.set_cons_zero, List.set_cons_succ], Or.inr (Or.inr (Or.inl ⟨_, _, rfl, rfl, rfl⟩)), (H34.later hb), (SpO.some' hv), (H48.later hb), hal.later hb, hb0⟩
        exact Steps.nil
    · rcases y12 with _ | g12 <;> rcases y13 with _ | g13 <;> rcases y14 with _ | g14
      · obtain rfl : t = 3 := by simp [nV, nO] at ht; omega
        refine steps_of (rs := [20, 21, 22, 23]) (by kernel_rfl) (by simp) ?_
        refine Steps.cons rfl (fun K' hK => ?_) ?_
        · simp only [pP, pI, Act.put, List.setIfInBounds_toArray, List.set_cons_zero, List.set_cons_succ]
          go_simp
          refine (K3.out _ hB).mono ?_
          rintro e w'' ⟨v, rfl, hv, hb, hb0⟩
          exact hK.out _ _ ⟨hb0, some v34, some v41, some v, none, none, none, by kernel_rfl, by simp [nV, nO], by simp only [pP, pI, Act.put, List.setIfInBounds_toArray, List.set_cons_zero, List.set_cons_succ], Or.inr (Or.inr (Or.inr ⟨_, _, _, rfl, rfl, rfl⟩)), (H34.later hb), (H41.later hb), (SpO.some' hv), hal.later hb, hb0⟩
        refine Steps.cons rfl (fun K' hK => ?_) ?_
        · simp only [pP, pI, Act.put, List.setIfInBounds_toArray, List.set_cons_zero, List.set_cons_succ]
          go_simp
          have hba := alloc_below (w := w') (.cells #[.bool false, .slice none 0 0, .slice none 0 0, .bool false, .slice none 0 0, .slice none 0 0] 77)
          exact hK.out _ _ ⟨hB.trans (hba.mono hBs), some v34, some v41, none, some w'.heap.size, none, none, by kernel_rfl, by simp [nV, nO], by simp only [pP, pI, Act.put, List.setIfInBounds_toArray, List.set_cons_zero, List.set_cons_succ], Or.inr (Or.inr (Or.inl ⟨_, _, rfl, rfl, rfl⟩)), H34.later hba, H41.later hba, H48.later hba, Al.add [] [] hal hBs, hB.trans (hba.mono hBs)⟩
        refine Steps.cons rfl (fun K' hK => ?_) ?_
        · simp only [pP, pI, Act.put, List.setIfInBounds_toArray, List.set_cons_zero, List.set_cons_succ]
          go_simp
          have hba := alloc_below (w := w') (.cells #[.bool false, .slice none 0 0, .slice none 0 0, .bool false, .slice none 0 0, .slice none 0 0] 77)
          exact hK.out _ _ ⟨hB.trans (hba.mono hBs), some v34, some v41, none, none, some w'.heap.size, none, by kernel_rfl, by simp [nV, nO], by simp only [pP, pI, Act.put, List.setIfInBounds_toArray, List.set_cons_zero, List.set_cons_succ], Or.inr (Or.inr (Or.inl ⟨_, _, rfl, rfl, rfl⟩)), H34.later hba, H41.later hba, H48.later hba, Al.add [] [] hal hBs, hB.trans (hba.mono hBs)⟩
        refine Steps.cons rfl (fun K' hK => ?_) ?_
        · simp only [pP, pI, Act.put, List.setIfInBounds_toArray, List.set_cons_zero, List.set_cons_succ]
          go_simp
          have hba := alloc_below (w := w') (.cells #[.bool false, .slice none 0 0, .slice none 0 0, .bool false, .slice none 0 0, .slice none 0 0] 77)
          exact hK.out _ _ ⟨hB.trans (hba.mono hBs), some v34, some v41, none, none, none, some w'.heap.size, by kernel_rfl, by simp [nV, nO], by simp only [pP, pI, Act.put, List.setIfInBounds_toArray, List.set_cons_zero, List.set_cons_succ], Or.inr (Or.inr (Or.inl ⟨_, _, rfl, rfl, rfl⟩)), H34.later hba, H41.later hba, H48.later hba, Al.add [] [] hal hBs, hB.trans (hba.mono hBs)⟩
        exact Steps.nil
      · obtain rfl : t = 2 := by simp [nV, nO] at ht; omega
        refine steps_of (rs := [20, 21, 22]) (by kernel_rfl) (by simp) ?_
        refine Steps.cons rfl (fun K' hK => ?_) ?_
        · simp only [pP, pI, Act.put, List.setIfInBounds_toArray, List.set_cons_zero, List.set_cons_succ]
          go_simp
          refine (K3.out _ hB).mono ?_
          rintro e w'' ⟨v, rfl, hv, hb, hb0⟩
          exact hK.out _ _ ⟨hb0, some v34, some v41, some v, none, none, some g14, by kernel_rfl, by simp [nV, nO], by simp only [pP, pI, Act.put, List.setIfInBounds_toArray, List.set_cons_zero, List.set_cons_succ], Or.inr (Or.inr (Or.inr ⟨_, _, _, rfl, rfl, rfl⟩)), (H34.later hb), (H41.later hb), (SpO.some' hv), hal.later hb, hb0⟩
        refine Steps.cons rfl (fun K' hK => ?_) ?_
        · simp only [pP, pI, Act.put, List.setIfInBounds_toArray, List.set_cons_zero, List.set_cons_succ]
          go_simp
          have hba := alloc_below (w := w') (.cells #[.bool false, .slice none 0 0, .slice none 0 0, .bool false, .slice none 0 0, .slice none 0 0] 77)
          exact hK.out _ _ ⟨hB.trans (hba.mono hBs), some v34, some v41, none, some w'.heap.size, none, some g14, by kernel_rfl, by simp [nV, nO], by simp only [pP, pI, Act.put, List.setIfInBounds_toArray, List.set_cons_zero, List.set_cons_succ], Or.inr (Or.inr (Or.inl ⟨_, _, rfl, rfl, rfl⟩)), H34.later hba, H41.later hba, H48.later hba, Al.add [] [g14] hal hBs, hB.trans (hba.mono hBs)⟩
        refine Steps.cons rfl (fun K' hK => ?_) ?_
        · simp only [pP, pI, Act.put, List.setIfInBounds_toArray, List.set_cons_zero, List.set_cons_succ]
          go_simp
          have hba := alloc_below (w := w') (.cells #[.bool false, .slice none 0 0, .slice none 0 0, .bool false, .slice none 0 0, .slice none 0 0] 77)
          exact hK.out _ _ ⟨hB.trans (hba.mono hBs), some v34, some v41, none, none, some w'.heap.size, some g14, by kernel_rfl, by simp [nV, nO], by simp only [pP, pI, Act.put, List.setIfInBounds_toArray, List.set_cons_zero, List.set_cons_succ], Or.inr (Or.inr (Or.inl ⟨_, _, rfl, rfl, rfl⟩)), H34.later hba, H41.later hba, H48.later hba, Al.add [] [g14] hal hBs, hB.trans (hba.mono hBs)⟩
        exact Steps.nil
      · obtain rfl : t = 2 := by simp [nV, nO] at ht; omega
        refine steps_of (rs := [20, 21, 23]) (by kernel_rfl) (by simp) ?_
        refine Steps.cons rfl (fun K' hK => ?_) ?_
        · simp only [pP, pI, Act.put, List.setIfInBounds_toArray, List.set_cons_zero, List.set_cons_succ]
          go_simp
          refine (K3.out _ hB).mono ?_
          rintro e w'' ⟨v, rfl, hv, hb, hb0⟩
          exact hK.out _ _ ⟨hb0, some v34, some v41, some v, none, some g13, none, by kernel_rfl, by simp [nV, nO], by simp only [pP, pI, Act.put, List.setIfInBounds_toArray, List.set_cons_zero, List.set_cons_succ], Or.inr (Or.inr (Or.inr ⟨_, _, _, rfl, rfl, rfl⟩)), (H34.later hb), (H41.later hb), (SpO.some' hv), hal.later hb, hb0⟩
        refine Steps.cons rfl (fun K' hK => ?_) ?_
        · simp only [pP, pI, Act.put, List.setIfInBounds_toArray, List.set_cons_zero, List.set_cons_succ]
          go_simp
          have hba := alloc_below (w := w') (.cells #[.bool false, .slice none 0 0, .slice none 0 0, .bool false, .slice none 0 0, .slice none 0 0] 77)
          exact hK.out _ _ ⟨hB.trans (hba.mono hBs), some v34, some v41, none, some w'.heap.size, some g13, none, by kernel_rfl, by simp [nV, nO], by simp only [pP, pI, Act.put, List.setIfInBounds_toArray, List.set_cons_zero, List.set_cons_succ], Or.inr (Or.inr (Or.inl ⟨_, _, rfl, rfl, rfl⟩)), H34.later hba, H41.later hba, H48.later hba, Al.add [] [g13] hal hBs, hB.trans (hba.mono hBs)⟩
        refine Steps.cons rfl (fun K' hK => ?_) ?_
        · simp only [pP, pI, Act.put, List.setIfInBounds_toArray, List.set_cons_zero, List.set_cons_succ]
          go_simp
          have hba := alloc_below (w := w') (.cells #[.bool false, .slice none 0 0, .slice none 0 0, .bool false, .slice none 0 0, .slice none 0 0] 77)
          exact hK.out _ _ ⟨hB.trans (hba.mono hBs), some v34, some v41, none, none, some g13, some w'.heap.size, by kernel_rfl, by simp [nV, nO], by simp only [pP, pI, Act.put, List.setIfInBounds_toArray, List.set_cons_zero, List.set_cons_succ], Or.inr (Or.inr (Or.inl ⟨_, _, rfl, rfl, rfl⟩)), H34.later hba, H41.later hba, H48.later hba, Al.add [g13] [] hal hBs, hB.trans (hba.mono hBs)⟩
        exact Steps.nil
      · obtain rfl : t = 1 := by simp [nV, nO] at ht; omega
        refine steps_of (rs := [20, 21]) (by kernel_rfl) (by simp) ?_
        refine Steps.cons rfl (fun K' hK => ?_) ?_
        · simp only [pP, pI, Act.put, List.setIfInBounds_toArray, List.set_cons_zero, List.set_cons_succ]
          go_simp
          refine (K3.out _ hB).mono ?_
          rintro e w'' ⟨v, rfl, hv, hb, hb0⟩
          exact hK.out _ _ ⟨hb0, some v34, some v41, some v, none, some g13, some g14, by kernel_rfl, by simp [nV, nO], by simp only [pP, pI, Act.put, List.setIfInBounds_toArray, List.set_cons_zero, List.set_cons_succ], Or.inr (Or.inr (Or.inr ⟨_, _, _, rfl, rfl, rfl⟩)), (H34.later hb), (H41.later hb), (SpO.some' hv), hal.later hb, hb0⟩
        refine Steps.cons rfl (fun K' hK => ?_) ?_
        · simp only [pP, pI, Act.put, List.setIfInBounds_toArray, List.set_cons_zero, List.set_cons_succ]
          go_simp
          have hba := alloc_below (w := w') (.cells #[.bool false, .slice none 0 0, .slice none 0 0, .bool false, .slice none 0 0, .slice none 0 0] 77)
          exact hK.out _ _ ⟨hB.trans (hba.mono hBs), some v34, some v41, none, some w'.heap.size, some g13, some g14, by kernel_rfl, by simp [nV, nO], by simp only [pP, pI, Act.put, List.setIfInBounds_toArray, List.set_cons_zero, List.set_cons_succ], Or.inr (Or.inr (Or.inl ⟨_, _, rfl, rfl, rfl⟩)), H34.later hba, H41.later hba, H48.later hba, Al.add [] [g13, g14] hal hBs, hB.trans (hba.mono hBs)⟩
        exact Steps.nil
      · obtain rfl : t = 2 := by simp [nV, nO] at ht; omega
        refine steps_of (rs := [20, 22, 23]) (by kernel_rfl) (by simp) ?_
        refine Steps.cons rfl (fun K' hK => ?_) ?_
        · simp only [pP, pI, Act.put, List.setIfInBounds_toArray, List.set_cons_zero, List.set_cons_succ]
          go_simp
          refine (K3.out _ hB).mono ?_
          rintro e w'' ⟨v, rfl, hv, hb, hb0⟩
          exact hK.out _ _ ⟨hb0, some v34, some v41, some v, some g12, none, none, by kernel_rfl, by simp [nV, nO], by simp only [pP, pI, Act.put, List.setIfInBounds_toArray, List.set_cons_zero, List.set_cons_succ], Or.inr (Or.inr (Or.inr ⟨_, _, _, rfl, rfl, rfl⟩)), (H34.later hb), (H41.later hb), (SpO.some' hv), hal.later hb, hb0⟩
        refine Steps.cons rfl (fun K' hK => ?_) ?_
        · simp only [pP, pI, Act.put, List.setIfInBounds_toArray, List.set_cons_zero, List.set_cons_succ]
          go_simp
          have hba := alloc_below (w := w') (.cells #[.bool false, .slice none 0 0, .slice none 0 0, .bool false, .slice none 0 0, .slice none 0 0] 77)
          exact hK.out _ _ ⟨hB.trans (hba.mono hBs), some v34, some v41, none, some g12, some w'.heap.size, none, by kernel_rfl, by simp [nV, nO], by simp only [pP, pI, Act.put, List.setIfInBounds_toArray, List.set_cons_zero, List.set_cons_succ], Or.inr (Or.inr (Or.inl ⟨_, _, rfl, rfl, rfl⟩)), H34.later hba, H41.later hba, H48.later hba, Al.add [g12] [] hal hBs, hB.trans (hba.mono hBs)⟩
        refine Steps.cons rfl (fun K' hK => ?_) ?_
        · simp only [pP, pI, Act.put, List.setIfInBounds_toArray, List.set_cons_zero, List.set_cons_succ]
          go_simp
          have hba := alloc_below (w := w') (.cells #[.bool false, .slice none 0 0, .slice none 0 0, .bool false, .slice none 0 0, .slice none 0 0] 77)
          exact hK.out _ _ ⟨hB.trans (hba.mono hBs), some v34, some v41, none, some g12, none, some w'.heap.size, by kernel_rfl, by simp [nV, nO], by simp only [pP, pI, Act.put, List.setIfInBounds_toArray, List.set_cons_zero, List.set_cons_succ], Or.inr (Or.inr (Or.inl ⟨_, _, rfl, rfl, rfl⟩)), H34.later hba, H41.later hba, H48.later hba, Al.add [g12] [] hal hBs, hB.trans (hba.mono hBs)⟩
        exact Steps.nil
      · obtain rfl : t = 1 := by simp [nV, nO] at ht; omega
        refine steps_of (rs := [20, 22]) (by kernel_rfl) (by simp) ?_
        refine Steps.cons rfl (fun K' hK => ?_) ?_
        · simp only [pP, pI, Act.put, List.setIfInBounds_toArray, List.set_cons_zero, List.set_cons_succ]
          go_simp
          refine (K3.out _ hB).mono ?_
          rintro e w'' ⟨v, rfl, hv, hb, hb0⟩
          exact hK.out _ _ ⟨hb0, some v34, some v41, some v, some g12, none, some g14, by kernel_rfl, by simp [nV, nO], by simp only [pP, pI, Act.put, List.setIfInBounds_toArray, List.set_cons_zero, List.set_cons_succ], Or.inr (Or.inr (Or.inr ⟨_, _, _, rfl, rfl, rfl⟩)), (H34.later hb), (H41.later hb), (SpO.some' hv), hal.later hb, hb0⟩
        refine Steps.cons rfl (fun K' hK => ?_) ?_
        · simp only [pP, pI, Act.put, List.setIfInBounds_toArray, List.set_cons_zero, List.set_cons_succ]
          go_simp
          have hba := alloc_below (w := w') (.cells #[.bool false, .slice none 0 0, .slice none 0 0, .bool false, .slice none 0 0, .slice none 0 0] 77)
          exact hK.out _ _ ⟨hB.trans (hba.mono hBs), some v34, some v41, none, some g12, some w'.heap.size, some g14, by kernel_rfl, by simp [nV, nO], by simp only [pP, pI, Act.put, List.setIfInBounds_toArray, List.set_cons_zero, List.set_cons_succ], Or.inr (Or.inr (Or.inl ⟨_, _, rfl, rfl, rfl⟩)), H34.later hba, H41.later hba, H48.later hba, Al.add [g12] [g14] hal hBs, hB.trans (hba.mono hBs)⟩
        exact Steps.nil
      · obtain rfl : t = 1 := by simp [nV, nO] at ht; omega
        refine steps_of (rs := [20, 23]) (by kernel_rfl) (by simp) ?_
        refine Steps.cons rfl (fun K' hK => ?_) ?_
        · simp only [pP, pI, Act.put, List.setIfInBounds_toArray, List.set_cons_zero, List.set_cons_succ]
          go_simp
          refine (K3.out _ hB).mono ?_
          rintro e w'' ⟨v, rfl, hv, hb, hb0⟩
          exact hK.out _ _ ⟨hb0, some v34, some v41, some v, some g12, some g13, none, by kernel_rfl, by simp [nV, nO], by simp only [pP, pI, Act.put, List.setIfInBounds_toArray, List.set_cons_zero, List.set_cons_succ], Or.inr (Or.inr (Or.inr ⟨_, _, _, rfl, rfl, rfl⟩)), (H34.later hb), (H41.later hb), (SpO.some' hv), hal.later hb, hb0⟩
        refine Steps.cons rfl (fun K' hK => ?_) ?_
        · simp only [pP, pI, Act.put, List.setIfInBounds_toArray, List.set_cons_zero, List.set_cons_succ]
          go_simp
          have hba := alloc_below (w := w') (.cells #[.bool false, .slice none 0 0, .slice none 0 0, .bool false, .slice none 0 0, .slice none 0 0] 77)
          exact hK.out _ _ ⟨hB.trans (hba.mono hBs), some v34, some v41, none, some g12, some g13, some w'.heap.size, by kernel_rfl, by simp [nV, nO], by simp only [pP, pI, Act.put, List.setIfInBounds_toArray, List.set_cons_zero, List.set_cons_succ], Or.inr (Or.inr (Or.inl ⟨_, _, rfl, rfl, rfl⟩)), H34.later hba, H41.later hba, H48.later hba, Al.add [g12, g13] [] hal hBs, hB.trans (hba.mono hBs)⟩
        exact Steps.nil
      · obtain rfl : t = 0 := by simp [nV, nO] at ht; omega
        refine steps_of (rs := [20]) (by kernel_rfl) (by simp) ?_
        refine Steps.cons rfl (fun K' hK => ?_) ?_
        · simp only [pP, pI, Act.put, List.setIfInBounds_toArray, List.set_cons_zero, List.set_cons_succ]
          go_simp
          refine (K3.out _ hB).mono ?_
          rintro e w'' ⟨v, rfl, hv, hb, hb0⟩
          exact hK.out _ _ ⟨hb0, some v34, some v41, some v, some g12, some g13, some g14, by kernel_rfl, by simp [nV, nO], by simp only [pP, pI, Act.put, List.setIfInBounds_toArray, List.set_cons_zero, List.set_cons_succ], Or.inr (Or.inr (Or.inr ⟨_, _, _, rfl, rfl, rfl⟩)), (H34.later hb), (H41.later hb), (SpO.some' hv), hal.later hb, hb0⟩
        exact Steps.nil
    · rcases y12 with _ | g12 <;> rcases y13 with _ | g13 <;> rcases y14 with _ | g14
      · obtain rfl : t = 2 := by simp [nV, nO] at ht; omega
        refine steps_of (rs := [21, 22, 23]) (by kernel_rfl) (by simp) ?_
        refine Steps.cons rfl (fun K' hK => ?_) ?_
        · simp only [pP, pI, Act.put, List.setIfInBounds_toArray, List.set_cons_zero, List.set_cons_succ]
          go_simp
          have hba := alloc_below (w := w') (.cells #[.bool false, .slice none 0 0, .slice none 0 0, .bool false, .slice none 0 0, .slice none 0 0] 77)
          exact hK.out _ _ ⟨hB.trans (hba.mono hBs), some v34, some v41, some v48, some w'.heap.size, none, none, by kernel_rfl, by simp [nV, nO], by simp only [pP, pI, Act.put, List.setIfInBounds_toArray, List.set_cons_zero, List.set_cons_succ], Or.inr (Or.inr (Or.inr ⟨_, _, _, rfl, rfl, rfl⟩)), H34.later hba, H41.later hba, H48.later hba, Al.add [] [] hal hBs, hB.trans (hba.mono hBs)⟩
        refine Steps.cons rfl (fun K' hK => ?_) ?_
        · simp only [pP, pI, Act.put, List.setIfInBounds_toArray, List.set_cons_zero, List.set_cons_succ]
          go_simp
          have hba := alloc_below (w := w') (.cells #[.bool false, .slice none 0 0, .slice none 0 0, .bool false, .slice none 0 0, .slice none 0 0] 77)
          exact hK.out _ _ ⟨hB.trans (hba.mono hBs), some v34, some v41, some v48, none, some w'.heap.size, none, by kernel_rfl, by simp [nV, nO], by simp only [pP, pI, Act.put, List.setIfInBounds_toArray, List.set_cons_zero, List.set_cons_succ], Or.inr (Or.inr (Or.inr ⟨_, _, _, rfl, rfl, rfl⟩)), H34.later hba, H41.later hba, H48.later hba, Al.add [] [] hal hBs, hB.trans (hba.mono hBs)⟩
        refine Steps.cons rfl (fun K' hK => ?_) ?_
        · simp only [pP, pI, Act.put, List.setIfInBounds_toArray, List.set_cons_zero, List.set_cons_succ]
          go_simp
          have hba := alloc_below (w := w') (.cells #[.bool false, .slice none 0 0, .slice none 0 0, .bool false, .slice none 0 0, .slice none 0 0] 77)
          exact hK.out _ _ ⟨hB.trans (hba.mono hBs), some v34, some v41, some v48, none, none, some w'.heap.size, by kernel_rfl, by simp [nV, nO], by simp only [pP, pI, Act.put, List.setIfInBounds_toArray, List.set_cons_zero, List.set_cons_succ], Or.inr (Or.inr (Or.inr ⟨_, _, _, rfl, rfl, rfl⟩)), H34.later hba, H41.later hba, H48.later hba, Al.add [] [] hal hBs, hB.trans (hba.mono hBs)⟩
        exact Steps.nil
      · obtain rfl : t = 1 := by simp [nV, nO] at ht; omega
        refine steps_of (rs := [21, 22]) (by kernel_rfl) (by simp) ?_
        refine Steps.cons rfl (fun K' hK => ?_) ?_
        · simp only [pP, pI, Act.put, List.setIfInBounds_toArray, List.set_cons_zero, List.set_cons_succ]
          go_simp
          have hba := alloc_below (w := w') (.cells #[.bool false, .slice none 0 0, .slice none 0 0, .bool false, .slice none 0 0, .slice none 0 0] 77)
          exact hK.out _ _ ⟨hB.trans (hba.mono hBs), some v34, some v41, some v48, some w'.heap.size, none, some g14, by kernel_rfl, by simp [nV, nO], by simp only [pP, pI, Act.put, List.setIfInBounds_toArray, List.set_cons_zero, List.set_cons_succ], Or.inr (Or.inr (Or.inr ⟨_, _, _, rfl, rfl, rfl⟩)), H34.later hba, H41.later hba, H48.later hba, Al.add [] [g14] hal hBs, hB.trans (hba.mono hBs)⟩
        refine Steps.cons rfl (fun K' hK => ?_) ?_
        · simp only [pP, pI, Act.put, List.setIfInBounds_toArray, List.set_cons_zero, List.set_cons_succ]
          go_simp
          have hba := alloc_below (w := w') (.cells #[.bool false, .slice none 0 0, .slice none 0 0, .bool false, .slice none 0 0, .slice none 0 0] 77)
          exact hK.out _ _ ⟨hB.trans (hba.mono hBs), some v34, some v41, some v48, none, some w'.heap.size, some g14, by kernel_rfl, by simp [nV, nO], by simp only [pP, pI, Act.put, List.setIfInBounds_toArray, List.set_cons_zero, List.set_cons_succ], Or.inr (Or.inr (Or.inr ⟨_, _, _, rfl, rfl, rfl⟩)), H34.later hba, H41.later hba, H48.later hba, Al.add [] [g14] hal hBs, hB.trans (hba.mono hBs)⟩
        exact Steps.nil
      · obtain rfl : t = 1 := by simp [nV, nO] at ht; omega
        refine steps_of (rs := [21, 23]) (by kernel_rfl) (by simp) ?_
        refine Steps.cons rfl (fun K' hK => ?_) ?_
        · simp only [pP, pI, Act.put, List.setIfInBounds_toArray, List.set_cons_zero, List.set_cons_succ]
          go_simp
          have hba := alloc_below (w := w') (.cells #[.bool false, .slice none 0 0, .slice none 0 0, .bool false, .slice none 0 0, .slice none 0 0] 77)
          exact hK.out _ _ ⟨hB.trans (hba.mono hBs), some v34, some v41, some v48, some w'.heap.size, some g13, none, by kernel_rfl, by simp [nV, nO], by simp only [pP, pI, Act.put, List.setIfInBounds_toArray, List.set_cons_zero, List.set_cons_succ], Or.inr (Or.inr (Or.inr ⟨_, _, _, rfl, rfl, rfl⟩)), H34.later hba, H41.later hba, H48.later hba, Al.add [] [g13] hal hBs, hB.trans (hba.mono hBs)⟩
        refine Steps.cons rfl (fun K' hK => ?_) ?_
        · simp only [pP, pI, Act.put, List.setIfInBounds_toArray, List.set_cons_zero, List.set_cons_succ]
          go_simp
          have hba := alloc_below (w := w') (.cells #[.bool false, .slice none 0 0, .slice none 0 0, .bool false, .slice none 0 0, .slice none 0 0] 77)
          exact hK.out _ _ ⟨hB.trans (hba.mono hBs), some v34, some v41, some v48, none, some g13, some w'.heap.size, by kernel_rfl, by simp [nV, nO], by simp only [pP, pI, Act.put, List.setIfInBounds_toArray, List.set_cons_zero, List.set_cons_succ], Or.inr (Or.inr (Or.inr ⟨_, _, _, rfl, rfl, rfl⟩)), H34.later hba, H41.later hba, H48.later hba, Al.add [g13] [] hal hBs, hB.trans (hba.mono hBs)⟩
        exact Steps.nil
      · obtain rfl : t = 0 := by simp [nV, nO] at ht; omega
        refine steps_of (rs := [21]) (by kernel_rfl) (by simp) ?_
        refine Steps.cons rfl (fun K' hK => ?_) ?_
        · simp only [pP, pI, Act.put, List.setIfInBounds_toArray, List.set_cons_zero, List.set_cons_succ]
          go_simp
          have hba := alloc_below (w := w') (.cells #[.bool false, .slice none 0 0, .slice none 0 0, .bool false, .slice none 0 0, .slice none 0 0] 77)
          exact hK.out _ _ ⟨hB.trans (hba.mono hBs), some v34, some v41, some v48, some w'.heap.size, some g13, some g14, by kernel_rfl, by simp [nV, nO], by simp only [pP, pI, Act.put, List.setIfInBounds_toArray, List.set_cons_zero, List.set_cons_succ], Or.inr (Or.inr (Or.inr ⟨_, _, _, rfl, rfl, rfl⟩)), H34.later hba, H41.later hba, H48.later hba, Al.add [] [g13, g14] hal hBs, hB.trans (hba.mono hBs)⟩
        exact Steps.nil
      · obtain rfl : t = 1 := by simp [nV, nO] at ht; omega
        refine steps_of (rs := [22, 23]) (by kernel_rfl) (by simp) ?_
        refine Steps.cons rfl (fun K' hK => ?_) ?_
        · simp only [pP, pI, Act.put, List.setIfInBounds_toArray, List.set_cons_zero, List.set_cons_succ]
          go_simp
          have hba := alloc_below (w := w') (.cells #[.bool false, .slice none 0 0, .slice none 0 0, .bool false, .slice none 0 0, .slice none 0 0] 77)
          exact hK.out _ _ ⟨hB.trans (hba.mono hBs), some v34, some v41, some v48, some g12, some w'.heap.size, none, by kernel_rfl, by simp [nV, nO], by simp only [pP, pI, Act.put, List.setIfInBounds_toArray, List.set_cons_zero, List.set_cons_succ], Or.inr (Or.inr (Or.inr ⟨_, _, _, rfl, rfl, rfl⟩)), H34.later hba, H41.later hba, H48.later hba, Al.add [g12] [] hal hBs, hB.trans (hba.mono hBs)⟩
        refine Steps.cons rfl (fun K' hK => ?_) ?_
        · simp only [pP, pI, Act.put, List.setIfInBounds_toArray, List.set_cons_zero, List.set_cons_succ]
          go_simp
          have hba := alloc_below (w := w') (.cells #[.bool false, .slice none 0 0, .slice none 0 0, .bool false, .slice none 0 0, .slice none 0 0] 77)
          exact hK.out _ _ ⟨hB.trans (hba.mono hBs), some v34, some v41, some v48, some g12, none, some w'.heap.size, by kernel_rfl, by simp [nV, nO], by simp only [pP, pI, Act.put, List.setIfInBounds_toArray, List.set_cons_zero, List.set_cons_succ], Or.inr (Or.inr (Or.inr ⟨_, _, _, rfl, rfl, rfl⟩)), H34.later hba, H41.later hba, H48.later hba, Al.add [g12] [] hal hBs, hB.trans (hba.mono hBs)⟩
        exact Steps.nil
      · obtain rfl : t = 0 := by simp [nV, nO] at ht; omega
        refine steps_of (rs := [22]) (by kernel_rfl) (by simp) ?_
        refine Steps.cons rfl (fun K' hK => ?_) ?_
        · simp only [pP, pI, Act.put, List.setIfInBounds_toArray, List.set_cons_zero, List.set_cons_succ]
          go_simp
          have hba := alloc_below (w := w') (.cells #[.bool false, .slice none 0 0, .slice none 0 0, .bool false, .slice none 0 0, .slice none 0 0] 77)
          exact hK.out _ _ ⟨hB.trans (hba.mono hBs), some v34, some v41, some v48, some g12, some w'.heap.size, some g14, by kernel_rfl, by simp [nV, nO], by simp only [pP, pI, Act.put, List.setIfInBounds_toArray, List.set_cons_zero, List.set_cons_succ], Or.inr (Or.inr (Or.inr ⟨_, _, _, rfl, rfl, rfl⟩)), H34.later hba, H41.later hba, H48.later hba, Al.add [g12] [g14] hal hBs, hB.trans (hba.mono hBs)⟩
        exact Steps.nil
      · obtain rfl : t = 0 := by simp [nV, nO] at ht; omega
        refine steps_of (rs := [23]) (by kernel_rfl) (by simp) ?_
        refine Steps.cons rfl (fun K' hK => ?_) ?_
        · simp only [pP, pI, Act.put, List.setIfInBounds_toArray, List.set_cons_zero, List.set_cons_succ]
          go_simp
          have hba := alloc_below (w := w') (.cells #[.bool false, .slice none 0 0, .slice none 0 0, .bool false, .slice none 0 0, .slice none 0 0] 77)
          exact hK.out _ _ ⟨hB.trans (hba.mono hBs), some v34, some v41, some v48, some g12, some g13, some w'.heap.size, by kernel_rfl, by simp [nV, nO], by simp only [pP, pI, Act.put, List.setIfInBounds_toArray, List.set_cons_zero, List.set_cons_succ], Or.inr (Or.inr (Or.inr ⟨_, _, _, rfl, rfl, rfl⟩)), H34.later hba, H41.later hba, H48.later hba, Al.add [g12, g13] [] hal hBs, hB.trans (hba.mono hBs)⟩
        exact Steps.nil
      · simp [nV, nO] at ht
  case hend =>
    rintro listed a w' ⟨x34, x41, x48, y12, y13, y14, rfl, ht, rfl, hch, H34, H41, H48, hal, hB⟩
    rcases hch with ⟨rfl, rfl, rfl⟩ | ⟨v34, rfl, rfl, rfl⟩ | ⟨v34, v41, rfl, rfl, rfl⟩ | ⟨v34, v41, v48, rfl, rfl, rfl⟩
    · exfalso; simp only [nV] at ht; omega
    · exfalso; simp only [nV] at ht; omega
    · exfalso; simp only [nV] at ht; omega
    · rcases y12 with _ | g12
      · exfalso; simp only [nV, nO] at ht; omega
      · rcases y13 with _ | g13
        · exfalso; simp only [nV, nO] at ht; omega
        · rcases y14 with _ | g14
          · exfalso; simp only [nV, nO] at ht; omega
          · obtain ⟨sP, aP, nP, cP, bP, mP, dP, sp, ap, np, cp, bp, mp, dp, rfl, RP, Rp, ZP, Zp⟩ := H34 _ rfl
            obtain ⟨sQ, aQ, nQ, cQ, bQ, mQ, dQ, sq, aq, nq, cq, bq, mq, dq, rfl, RQ, Rq, ZQ, Zq⟩ := H41 _ rfl
            obtain ⟨sR, aR, nR, cR, bR, mR, dR, sr, ar, nr, cr, br, mr, dr, rfl, RR, Rr, ZR, Zr⟩ := H48 _ rfl
            obtain ⟨p12, le12⟩ := hal.pb g12 (by simp)
            obtain ⟨p13, le13⟩ := hal.pb g13 (by simp)
            obtain ⟨p14, le14⟩ := hal.pb g14 (by simp)
            have hnd := hal.nd
            simp only [Option.toList, List.cons_append, List.nil_append, List.nodup_cons, List.mem_cons, List.not_mem_nil, or_false, not_or, not_false_eq_true, and_true, List.nodup_nil] at hnd
            obtain ⟨⟨ne1, ne2⟩, ne3⟩ := hnd
            clear H34 H41 H48 hal ht
            unfold zero6s at p12 p13 p14
            simp only [pP, pI, Act.put, List.setIfInBounds_toArray, List.set_cons_zero, List.set_cons_succ]
            obtain ⟨⟨k0, k1, k2, k3, k4, k5⟩, ⟨f0, f1, f2, f3, f4, f5⟩⟩ := p12.six
            refine wpAnyH_ready (rs := [24]) (by kernel_rfl) (by simp) (AllReadyH.cons rfl (fun K' hK => ?_) AllReadyH.nil)
            go_simp
            have i9 := in6p w' g12 (.bool sP) (.slice aP nP cP) (.slice bP mP dP) (.bool sp) (.slice ap np cp) (.slice bp mp dp)
            have q12 := p12.set6 (.bool sP) (.slice aP nP cP) (.slice bP mP dP) (.bool sp) (.slice ap np cp) (.slice bp mp dp)
            have hB9 := below_in hB i9 le12 (Nat.le_refl _)
            refine hK.out _ _ hB9 (fun _ => ?_)
            clear hK K' k0 k1 k2 k3 k4 k5 f0 f1 f2 f3 f4 f5 hB
            replace RP := RP.noInt p12 noInt6 i9
            replace Rp := Rp.noInt p12 noInt6 i9
            replace RQ := RQ.noInt p12 noInt6 i9
            replace Rq := Rq.noInt p12 noInt6 i9
            replace RR := RR.noInt p12 noInt6 i9
            replace Rr := Rr.noInt p12 noInt6 i9
            replace p13 := p13.inn i9 (Ne.symm ne1)
            replace p14 := p14.inn i9 (Ne.symm ne2)
            clear p12
            have p12 := q12
            clear q12 i9
            generalize ((((((w'.setCell ⟨g12, 0, none⟩ (.bool sP)).setCell ⟨g12, 1, none⟩ (.slice aP nP cP)).setCell ⟨g12, 2, none⟩ (.slice bP mP dP)).setCell ⟨g12, 3, none⟩ (.bool sp)).setCell ⟨g12, 4, none⟩ (.slice ap np cp)).setCell ⟨g12, 5, none⟩ (.slice bp mp dp)) = wB at *
            have hB := hB9
            clear hB9
            obtain ⟨⟨k0, k1, k2, k3, k4, k5⟩, ⟨f0, f1, f2, f3, f4, f5⟩⟩ := p13.six
            refine wpAnyH_ready (rs := [25]) (by kernel_rfl) (by simp) (AllReadyH.cons rfl (fun K' hK => ?_) AllReadyH.nil)
            go_simp
            have i9 := in6p wB g13 (.bool sQ) (.slice aQ nQ cQ) (.slice bQ mQ dQ) (.bool sq) (.slice aq nq cq) (.slice bq mq dq)
            have q13 := p13.set6 (.bool sQ) (.slice aQ nQ cQ) (.slice bQ mQ dQ) (.bool sq) (.slice aq nq cq) (.slice bq mq dq)
            have hB9 := below_in hB i9 le13 (Nat.le_refl _)
            refine hK.out _ _ hB9 (fun _ => ?_)
            clear hK K' k0 k1 k2 k3 k4 k5 f0 f1 f2 f3 f4 f5 hB
            replace RP := RP.noInt p13 noInt6 i9
            replace Rp := Rp.noInt p13 noInt6 i9
            replace RQ := RQ.noInt p13 noInt6 i9
            replace Rq := Rq.noInt p13 noInt6 i9
            replace RR := RR.noInt p13 noInt6 i9
            replace Rr := Rr.noInt p13 noInt6 i9
            replace p12 := p12.inn i9 ne1
            replace p14 := p14.inn i9 (Ne.symm ne3)
            clear p13
            have p13 := q13
            clear q13 i9
            generalize ((((((wB.setCell ⟨g13, 0, none⟩ (.bool sQ)).setCell ⟨g13, 1, none⟩ (.slice aQ nQ cQ)).setCell ⟨g13, 2, none⟩ (.slice bQ mQ dQ)).setCell ⟨g13, 3, none⟩ (.bool sq)).setCell ⟨g13, 4, none⟩ (.slice aq nq cq)).setCell ⟨g13, 5, none⟩ (.slice bq mq dq)) = wC at *
            have hB := hB9
            clear hB9
            obtain ⟨⟨k0, k1, k2, k3, k4, k5⟩, ⟨f0, f1, f2, f3, f4, f5⟩⟩ := p14.six
            refine wpAnyH_ready (rs := [26]) (by kernel_rfl) (by simp) (AllReadyH.cons rfl (fun K' hK => ?_) AllReadyH.nil)
            go_simp
            have i9 := in6p wC g14 (.bool sR) (.slice aR nR cR) (.slice bR mR dR) (.bool sr) (.slice ar nr cr) (.slice br mr dr)
            have q14 := p14.set6 (.bool sR) (.slice aR nR cR) (.slice bR mR dR) (.bool sr) (.slice ar nr cr) (.slice br mr dr)
            have hB9 := below_in hB i9 le14 (Nat.le_refl _)
            refine hK.out _ _ hB9 (fun _ => ?_)
            clear hK K' k0 k1 k2 k3 k4 k5 f0 f1 f2 f3 f4 f5 hB
            replace RP := RP.noInt p14 noInt6 i9
            replace Rp := Rp.noInt p14 noInt6 i9
            replace RQ := RQ.noInt p14 noInt6 i9
            replace Rq := Rq.noInt p14 noInt6 i9
            replace RR := RR.noInt p14 noInt6 i9
            replace Rr := Rr.noInt p14 noInt6 i9
            replace p12 := p12.inn i9 ne2
            replace p13 := p13.inn i9 ne3
            clear p14
            have p14 := q14
            clear q14 i9
            generalize ((((((wC.setCell ⟨g14, 0, none⟩ (.bool sR)).setCell ⟨g14, 1, none⟩ (.slice aR nR cR)).setCell ⟨g14, 2, none⟩ (.slice bR mR dR)).setCell ⟨g14, 3, none⟩ (.bool sr)).setCell ⟨g14, 4, none⟩ (.slice ar nr cr)).setCell ⟨g14, 5, none⟩ (.slice br mr dr)) = wE at *
            have hB := hB9
            clear hB9
            refine wpAnyH_done (by kernel_rfl) ?_ _
            clear hcl K1 K2 K3 le12 le13 le14
            have G1 := HH.mk (sq22_k (w0 := wE) RP Rp ZP Zp)
            have G2 := HH.mk (cr22_k (w0 := wE) RQ Rq RR Rr ZQ Zq ZR Zr)
            have G3 := HH.mk (sq22_k (w0 := wE) RQ Rq ZQ Zq)
            have G4 := HH.mk (cr22_k (w0 := wE) RR Rr RP Rp ZR Zr ZP Zp)
            have G5 := HH.mk (sq22_k (w0 := wE) RR Rr ZR Zr)
            have G6 := HH.mk (cr22_k (w0 := wE) RP Rp RQ Rq ZP Zp ZQ Zq)
            have l12 := p12.lt
            have l13 := p13.lt
            have l14 := p14.lt
            obtain ⟨⟨i0, i1, i2, i3, i4, i5⟩, _⟩ := p12.six
            obtain ⟨⟨j0, j1, j2, j3, j4, j5⟩, _⟩ := p13.six
            obtain ⟨⟨k0, k1, k2, k3, k4, k5⟩, _⟩ := p14.six
            have hB2 := B2.trans (hB.mono B2.size)
            clear p12 p13 p14 RP Rp RQ Rq RR Rr hB
            go_wp2
            refine wp_region_held_drew (S := fun w' => Below wE.heap.size wE w') (by kernel_rfl) (by first | exact Below.refl _ _ | exact below_drewN (Below.refl _ _) _) (fun hHeld => ?_)
            refine wpAnyH_take' (i := 0) (v := .agg #[.bool sP, .slice aP nP cP, .slice bP mP dP, .bool sp, .slice ap np cp, .slice bp mp dp]) (some 49) rfl rfl (by kernel_rfl) (by kernel_rfl) (by kernel_rfl) (fun _ _ _ h => h) (Or.inl ⟨by rfl, ?hy⟩) (by assumption) ?rest
            case hy => (intro w' hSw; (try dsimp only at hSw); have u0 := (hSw.cell (p := ⟨g12, 0, none⟩) l12).trans i0; have u1 := (hSw.cell (p := ⟨g12, 1, none⟩) l12).trans i1; have u2 := (hSw.cell (p := ⟨g12, 2, none⟩) l12).trans i2; have u3 := (hSw.cell (p := ⟨g12, 3, none⟩) l12).trans i3; have u4 := (hSw.cell (p := ⟨g12, 4, none⟩) l12).trans i4; have u5 := (hSw.cell (p := ⟨g12, 5, none⟩) l12).trans i5; clear hSw; go_simp)
            case rest =>
            simp only [Act.put, List.setIfInBounds_toArray, List.set_cons_zero, List.set_cons_succ]
            refine wpAnyH_take' (i := 2) (v := .agg #[.bool sQ, .slice aQ nQ cQ, .slice bQ mQ dQ, .bool sq, .slice aq nq cq, .slice bq mq dq]) (some 51) rfl rfl (by kernel_rfl) (by kernel_rfl) (by kernel_rfl) (fun _ _ _ h => h) (Or.inl ⟨by rfl, ?hy⟩) (by assumption) ?rest
            case hy => (intro w' hSw; (try dsimp only at hSw); have u0 := (hSw.cell (p := ⟨g13, 0, none⟩) l13).trans j0; have u1 := (hSw.cell (p := ⟨g13, 1, none⟩) l13).trans j1; have u2 := (hSw.cell (p := ⟨g13, 2, none⟩) l13).trans j2; have u3 := (hSw.cell (p := ⟨g13, 3, none⟩) l13).trans j3; have u4 := (hSw.cell (p := ⟨g13, 4, none⟩) l13).trans j4; have u5 := (hSw.cell (p := ⟨g13, 5, none⟩) l13).trans j5; clear hSw; go_simp)
            case rest =>
            simp only [Act.put, List.setIfInBounds_toArray, List.set_cons_zero, List.set_cons_succ]
            refine wpAnyH_take' (i := 3) (v := .agg #[.bool sR, .slice aR nR cR, .slice bR mR dR, .bool sr, .slice ar nr cr, .slice br mr dr]) (some 52) rfl rfl (by kernel_rfl) (by kernel_rfl) (by kernel_rfl) (fun _ _ _ h => h) (Or.inl ⟨by rfl, ?hy⟩) (by assumption) ?rest
            case hy => (intro w' hSw; (try dsimp only at hSw); have u0 := (hSw.cell (p := ⟨g14, 0, none⟩) l14).trans k0; have u1 := (hSw.cell (p := ⟨g14, 1, none⟩) l14).trans k1; have u2 := (hSw.cell (p := ⟨g14, 2, none⟩) l14).trans k2; have u3 := (hSw.cell (p := ⟨g14, 3, none⟩) l14).trans k3; have u4 := (hSw.cell (p := ⟨g14, 4, none⟩) l14).trans k4; have u5 := (hSw.cell (p := ⟨g14, 5, none⟩) l14).trans k5; clear hSw; go_simp)
            case rest =>
            simp only [Act.put, List.setIfInBounds_toArray, List.set_cons_zero, List.set_cons_succ]
            refine wpAnyH_take' (i := 6) (v := .agg #[.bool sQ, .slice aQ nQ cQ, .slice bQ mQ dQ, .bool sq, .slice aq nq cq, .slice bq mq dq]) (some 55) rfl rfl (by kernel_rfl) (by kernel_rfl) (by kernel_rfl) (fun _ _ _ h => h) (Or.inl ⟨by rfl, ?hy⟩) (by assumption) ?rest
            case hy => (intro w' hSw; (try dsimp only at hSw); have u0 := (hSw.cell (p := ⟨g13, 0, none⟩) l13).trans j0; have u1 := (hSw.cell (p := ⟨g13, 1, none⟩) l13).trans j1; have u2 := (hSw.cell (p := ⟨g13, 2, none⟩) l13).trans j2; have u3 := (hSw.cell (p := ⟨g13, 3, none⟩) l13).trans j3; have u4 := (hSw.cell (p := ⟨g13, 4, none⟩) l13).trans j4; have u5 := (hSw.cell (p := ⟨g13, 5, none⟩) l13).trans j5; clear hSw; go_simp)
            case rest =>
            simp only [Act.put, List.setIfInBounds_toArray, List.set_cons_zero, List.set_cons_succ]
            refine wpAnyH_take' (i := 8) (v := .agg #[.bool sR, .slice aR nR cR, .slice bR mR dR, .bool sr, .slice ar nr cr, .slice br mr dr]) (some 57) rfl rfl (by kernel_rfl) (by kernel_rfl) (by kernel_rfl) (fun _ _ _ h => h) (Or.inl ⟨by rfl, ?hy⟩) (by assumption) ?rest
            case hy => (intro w' hSw; (try dsimp only at hSw); have u0 := (hSw.cell (p := ⟨g14, 0, none⟩) l14).trans k0; have u1 := (hSw.cell (p := ⟨g14, 1, none⟩) l14).trans k1; have u2 := (hSw.cell (p := ⟨g14, 2, none⟩) l14).trans k2; have u3 := (hSw.cell (p := ⟨g14, 3, none⟩) l14).trans k3; have u4 := (hSw.cell (p := ⟨g14, 4, none⟩) l14).trans k4; have u5 := (hSw.cell (p := ⟨g14, 5, none⟩) l14).trans k5; clear hSw; go_simp)
            case rest =>
            simp only [Act.put, List.setIfInBounds_toArray, List.set_cons_zero, List.set_cons_succ]
            refine wpAnyH_take' (i := 9) (v := .agg #[.bool sP, .slice aP nP cP, .slice bP mP dP, .bool sp, .slice ap np cp, .slice bp mp dp]) (some 58) rfl rfl (by kernel_rfl) (by kernel_rfl) (by kernel_rfl) (fun _ _ _ h => h) (Or.inl ⟨by rfl, ?hy⟩) (by assumption) ?rest
            case hy => (intro w' hSw; (try dsimp only at hSw); have u0 := (hSw.cell (p := ⟨g12, 0, none⟩) l12).trans i0; have u1 := (hSw.cell (p := ⟨g12, 1, none⟩) l12).trans i1; have u2 := (hSw.cell (p := ⟨g12, 2, none⟩) l12).trans i2; have u3 := (hSw.cell (p := ⟨g12, 3, none⟩) l12).trans i3; have u4 := (hSw.cell (p := ⟨g12, 4, none⟩) l12).trans i4; have u5 := (hSw.cell (p := ⟨g12, 5, none⟩) l12).trans i5; clear hSw; go_simp)
            case rest =>
            simp only [Act.put, List.setIfInBounds_toArray, List.set_cons_zero, List.set_cons_succ]
            refine wpAnyH_take' (i := 12) (v := .agg #[.bool sR, .slice aR nR cR, .slice bR mR dR, .bool sr, .slice ar nr cr, .slice br mr dr]) (some 61) rfl rfl (by kernel_rfl) (by kernel_rfl) (by kernel_rfl) (fun _ _ _ h => h) (Or.inl ⟨by rfl, ?hy⟩) (by assumption) ?rest
            case hy => (intro w' hSw; (try dsimp only at hSw); have u0 := (hSw.cell (p := ⟨g14, 0, none⟩) l14).trans k0; have u1 := (hSw.cell (p := ⟨g14, 1, none⟩) l14).trans k1; have u2 := (hSw.cell (p := ⟨g14, 2, none⟩) l14).trans k2; have u3 := (hSw.cell (p := ⟨g14, 3, none⟩) l14).trans k3; have u4 := (hSw.cell (p := ⟨g14, 4, none⟩) l14).trans k4; have u5 := (hSw.cell (p := ⟨g14, 5, none⟩) l14).trans k5; clear hSw; go_simp)
            case rest =>
            simp only [Act.put, List.setIfInBounds_toArray, List.set_cons_zero, List.set_cons_succ]
            refine wpAnyH_take' (i := 14) (v := .agg #[.bool sP, .slice aP nP cP, .slice bP mP dP, .bool sp, .slice ap np cp, .slice bp mp dp]) (some 63) rfl rfl (by kernel_rfl) (by kernel_rfl) (by kernel_rfl) (fun _ _ _ h => h) (Or.inl ⟨by rfl, ?hy⟩) (by assumption) ?rest
            case hy => (intro w' hSw; (try dsimp only at hSw); have u0 := (hSw.cell (p := ⟨g12, 0, none⟩) l12).trans i0; have u1 := (hSw.cell (p := ⟨g12, 1, none⟩) l12).trans i1; have u2 := (hSw.cell (p := ⟨g12, 2, none⟩) l12).trans i2; have u3 := (hSw.cell (p := ⟨g12, 3, none⟩) l12).trans i3; have u4 := (hSw.cell (p := ⟨g12, 4, none⟩) l12).trans i4; have u5 := (hSw.cell (p := ⟨g12, 5, none⟩) l12).trans i5; clear hSw; go_simp)
            case rest =>
            simp only [Act.put, List.setIfInBounds_toArray, List.set_cons_zero, List.set_cons_succ]
            refine wpAnyH_take' (i := 15) (v := .agg #[.bool sQ, .slice aQ nQ cQ, .slice bQ mQ dQ, .bool sq, .slice aq nq cq, .slice bq mq dq]) (some 64) rfl rfl (by kernel_rfl) (by kernel_rfl) (by kernel_rfl) (fun _ _ _ h => h) (Or.inl ⟨by rfl, ?hy⟩) (by assumption) ?rest
            case hy => (intro w' hSw; (try dsimp only at hSw); have u0 := (hSw.cell (p := ⟨g13, 0, none⟩) l13).trans j0; have u1 := (hSw.cell (p := ⟨g13, 1, none⟩) l13).trans j1; have u2 := (hSw.cell (p := ⟨g13, 2, none⟩) l13).trans j2; have u3 := (hSw.cell (p := ⟨g13, 3, none⟩) l13).trans j3; have u4 := (hSw.cell (p := ⟨g13, 4, none⟩) l13).trans j4; have u5 := (hSw.cell (p := ⟨g13, 5, none⟩) l13).trans j5; clear hSw; go_simp)
            case rest =>
            simp only [Act.put, List.setIfInBounds_toArray, List.set_cons_zero, List.set_cons_succ]
            clear i0 i1 i2 i3 i4 i5 j0 j1 j2 j3 j4 j5 k0 k1 k2 k3 k4 k5 l12 l13 l14
            refine phase_take (fuel := 1) (n := 12) (J5 wE ((v0 - v6) * (v0 - v6) + (v1 - v7) * (v1 - v7)) ((v2 - v6) * (v5 - v7) + -(v3 - v7) * (v4 - v6)) ((v2 - v6) * (v2 - v6) + (v3 - v7) * (v3 - v7)) ((v4 - v6) * (v1 - v7) + -(v5 - v7) * (v0 - v6)) ((v4 - v6) * (v4 - v6) + (v5 - v7) * (v5 - v7)) ((v0 - v6) * (v3 - v7) + -(v1 - v7) * (v2 - v6))) ?hinit ?hstep ?hend
            case hinit => exact ⟨none, none, none, none, none, none, none, none, none, none, none, none, 11, by kernel_rfl, rfl, rfl, CH.c0, RvV.none', RvV.none', RvV.none', RvV.none', RvV.none', RvV.none', SpO.none', SpO.none', SpO.none', SlV.none', RvV.none', StV.none', hHeld⟩
            case hend =>
              rintro listed a w' ⟨x50, x53, x54, x56, x59, x60, x62, x65, x66, x67, x68, y15, R, rfl, ht, rfl, hch, H50, H53, H56, H59, H62, H65, H54, H60, H66, H67, H68, H15, hB⟩
              cases hch
              case c8 =>
                rcases y15 with _ | g15
                · exfalso; simp only [nO] at ht; omega
                · obtain ⟨sU, aU, nU, cU, bU, mU, dU, rfl, RU, ZU⟩ := H68 _ rfl
                  obtain ⟨q15, le15⟩ := H15 _ rfl
                  clear H50 H53 H56 H59 H62 H65 H54 H60 H66 H67 H68 H15 ht G1 G2 G3 G4 G5 G6
                  simp only [pP, pI, Act.put, List.setIfInBounds_toArray, List.set_cons_zero, List.set_cons_succ]
                  obtain ⟨u0, u1, u2⟩ := q15.cells
                  obtain ⟨f0, f1, f2⟩ := q15.frozen
                  refine wpAnyH_ready (rs := [21]) (by kernel_rfl) (by simp) (AllReadyH.cons rfl (fun K' hK => ?_) AllReadyH.nil)
                  go_simp
                  have i9 := in3 w' g15 (.bool sU) (.slice aU nU cU) (.slice bU mU dU)
                  have T9 := (q15.set (.bool sU) (.slice aU nU cU) (.slice bU mU dU)).cells
                  have RT := RU.noInt (show Pb w' g15 43 #[.bool false, .slice none 0 0, .slice none 0 0] from q15) noInt3 i9
                  have hB9 := below_in hB i9 le15 (Nat.le_refl _)
                  refine hK.out _ _ hB9 (fun _ => ?_)
                  obtain ⟨u0, u1, u2⟩ := T9
                  clear hK K' f0 f1 f2 q15 i9 hB RU
                  generalize ((w'.setCell ⟨g15, 0, none⟩ (.bool sU)).setCell ⟨g15, 1, none⟩ (.slice aU nU cU)).setCell ⟨g15, 2, none⟩ (.slice bU mU dU) = wF at *
                  refine wpAnyH_done (by kernel_rfl) ?_ _
                  have nU' := RT.le ZU
                  go_wp2_with fail
                  refine (rSign_any RT (by omega) rfl).mono ?_
                  rintro e wG ⟨rfl, hbG⟩
                  go_wp2
                  go_ret2
                  have hBF := hB2.trans (hB9.mono hB2.size)
                  exact ⟨rfl, hBF.trans (hbG.mono hBF.size)⟩
              all_goals (exfalso; omega)
            case hstep =>
              rintro t listed a w' ⟨x50, x53, x54, x56, x59, x60, x62, x65, x66, x67, x68, y15, R, rfl, ht, rfl, hch, H50, H53, H56, H59, H62, H65, H54, H60, H66, H67, H68, H15, hB⟩
              have hBs := hB.size
              cases hch
              case c0  =>
                rcases y15 with _ | g15
                · obtain rfl : t = 11 := by simp only [nO] at ht; omega
                  clear ht
                  refine steps_of (rs := [1, 20]) (by kernel_rfl) (by simp) ?_
                  refine Steps.cons rfl (fun K' hK => ?_) ?_
                  · simp only [pP, pI]
                    go_simp
                    refine (G1.out _ hB).mono ?_
                    rintro e w'' ⟨sU, aU, nU, cU, bU, mU, dU, rfl, RU, ZU, hb, hb0⟩
                    refine hK.out _ _ ⟨hb0, fun H => ?_⟩
                    exact H.out 11 (Nat.le_refl _) _ _ _ ⟨_, none, none, none, none, none, none, none, none, none, none, none, 10, by kernel_rfl, by simp only [nO], by simp only [pP, pI, Act.put, List.setIfInBounds_toArray, List.set_cons_zero, List.set_cons_succ], CH.c1 _, RvV.some' RU ZU, H53.later hb, H56.later hb, H59.later hb, H62.later hb, H65.later hb, H54.later hb, H60.later hb, H66.later hb, H67.later hb, H68.later hb, H15.later hb, hb0⟩
                  refine Steps.cons rfl (fun K' hK => ?_) ?_
                  · simp only [pP, pI]
                    go_simp
                    have hba := alloc_below (w := w') (.cells #[.bool false, .slice none 0 0, .slice none 0 0] 43)
                    exact hK.out _ _ ⟨hB.trans (hba.mono hBs), fun H => H.out _ (Nat.le_refl _) _ _ _ ⟨none, none, none, none, none, none, none, none, none, none, none, some _, 11, by kernel_rfl, by simp only [nO], by simp only [pP, pI, Act.put, List.setIfInBounds_toArray, List.set_cons_zero, List.set_cons_succ], CH.c0 , H50.later hba, H53.later hba, H56.later hba, H59.later hba, H62.later hba, H65.later hba, H54.later hba, H60.later hba, H66.later hba, H67.later hba, H68.later hba, StV.new hBs, hB.trans (hba.mono hBs)⟩⟩
                  exact Steps.nil
                · obtain rfl : t = 10 := by simp only [nO] at ht; omega
                  clear ht
                  refine steps_of (rs := [1]) (by kernel_rfl) (by simp) ?_
                  refine Steps.cons rfl (fun K' hK => ?_) ?_
                  · simp only [pP, pI, Act.put, List.setIfInBounds_toArray, List.set_cons_zero, List.set_cons_succ]
                    go_simp
                    refine (G1.out _ hB).mono ?_
                    rintro e w'' ⟨sU, aU, nU, cU, bU, mU, dU, rfl, RU, ZU, hb, hb0⟩
                    refine hK.out _ _ ⟨hb0, fun H => ?_⟩
                    exact H.out 10 (Nat.le_refl _) _ _ _ ⟨_, none, none, none, none, none, none, none, none, none, none, some g15, 10, by kernel_rfl, by simp only [nO], by simp only [pP, pI, Act.put, List.setIfInBounds_toArray, List.set_cons_zero, List.set_cons_succ], CH.c1 _, RvV.some' RU ZU, H53.later hb, H56.later hb, H59.later hb, H62.later hb, H65.later hb, H54.later hb, H60.later hb, H66.later hb, H67.later hb, H68.later hb, H15.later hb, hb0⟩
                  exact Steps.nil
              case c1 v50 =>
                rcases y15 with _ | g15
                · obtain rfl : t = 10 := by simp only [nO] at ht; omega
                  clear ht
                  obtain ⟨sV, aV, nV', cV, bV, mV, dV, rfl, RV, ZV⟩ := H50 _ rfl
                  refine steps_of (rs := [4, 20]) (by kernel_rfl) (by simp) ?_
                  refine Steps.cons rfl (fun K' hK => ?_) ?_
                  · simp only [pP, pI, Act.put, List.setIfInBounds_toArray, List.set_cons_zero, List.set_cons_succ]
                    go_simp
                    refine (G2.out _ hB).mono ?_
                    rintro e w'' ⟨sU, aU, nU, cU, bU, mU, dU, rfl, RU, ZU, hb, hb0⟩
                    refine hK.out _ _ ⟨hb0, fun H => ?_⟩
                    refine wpAnyH_take' (i := 5) (v := .agg #[.bool sV, .slice aV nV' cV, .slice bV mV dV, .bool sU, .slice aU nU cU, .slice bU mU dU]) (some 54) rfl rfl (by kernel_rfl) (by kernel_rfl) (by kernel_rfl) (fun _ _ _ h => h) (Or.inl ⟨by rfl, ?_⟩) hb0 ?_
                    · intro w9 _; go_simp
                    · exact H.out 9 (by omega) _ _ _ ⟨_, _, _, none, none, none, none, none, none, none, none, none, 8, by kernel_rfl, by simp only [nO], by simp only [pP, pI, Act.put, List.setIfInBounds_toArray, List.set_cons_zero, List.set_cons_succ], CH.c2 _ _ _, H50.later hb, RvV.some' RU ZU, H56.later hb, H59.later hb, H62.later hb, H65.later hb, SpO.some' ⟨_, _, _, _, _, _, _, _, _, _, _, _, _, _, rfl, RV.later hb, RU, ZV, ZU⟩, H60.later hb, H66.later hb, H67.later hb, H68.later hb, H15.later hb, hb0⟩
                  refine Steps.cons rfl (fun K' hK => ?_) ?_
                  · simp only [pP, pI, Act.put, List.setIfInBounds_toArray, List.set_cons_zero, List.set_cons_succ]
                    go_simp
                    have hba := alloc_below (w := w') (.cells #[.bool false, .slice none 0 0, .slice none 0 0] 43)
                    exact hK.out _ _ ⟨hB.trans (hba.mono hBs), fun H => H.out _ (Nat.le_refl _) _ _ _ ⟨_, none, none, none, none, none, none, none, none, none, none, some _, 10, by kernel_rfl, by simp only [nO], by simp only [pP, pI, Act.put, List.setIfInBounds_toArray, List.set_cons_zero, List.set_cons_succ], CH.c1 _, H50.later hba, H53.later hba, H56.later hba, H59.later hba, H62.later hba, H65.later hba, H54.later hba, H60.later hba, H66.later hba, H67.later hba, H68.later hba, StV.new hBs, hB.trans (hba.mono hBs)⟩⟩
                  exact Steps.nil
                · obtain rfl : t = 9 := by simp only [nO] at ht; omega
                  clear ht
                  obtain ⟨sV, aV, nV', cV, bV, mV, dV, rfl, RV, ZV⟩ := H50 _ rfl
                  refine steps_of (rs := [4]) (by kernel_rfl) (by simp) ?_
                  refine Steps.cons rfl (fun K' hK => ?_) ?_
                  · simp only [pP, pI, Act.put, List.setIfInBounds_toArray, List.set_cons_zero, List.set_cons_succ]
                    go_simp
                    refine (G2.out _ hB).mono ?_
                    rintro e w'' ⟨sU, aU, nU, cU, bU, mU, dU, rfl, RU, ZU, hb, hb0⟩
                    refine hK.out _ _ ⟨hb0, fun H => ?_⟩
                    refine wpAnyH_take' (i := 5) (v := .agg #[.bool sV, .slice aV nV' cV, .slice bV mV dV, .bool sU, .slice aU nU cU, .slice bU mU dU]) (some 54) rfl rfl (by kernel_rfl) (by kernel_rfl) (by kernel_rfl) (fun _ _ _ h => h) (Or.inl ⟨by rfl, ?_⟩) hb0 ?_
                    · intro w9 _; go_simp
                    · exact H.out 8 (by omega) _ _ _ ⟨_, _, _, none, none, none, none, none, none, none, none, some g15, 8, by kernel_rfl, by simp only [nO], by simp only [pP, pI, Act.put, List.setIfInBounds_toArray, List.set_cons_zero, List.set_cons_succ], CH.c2 _ _ _, H50.later hb, RvV.some' RU ZU, H56.later hb, H59.later hb, H62.later hb, H65.later hb, SpO.some' ⟨_, _, _, _, _, _, _, _, _, _, _, _, _, _, rfl, RV.later hb, RU, ZV, ZU⟩, H60.later hb, H66.later hb, H67.later hb, H68.later hb, H15.later hb, hb0⟩
                  exact Steps.nil
              case c2 v50 v53 v54 =>
                rcases y15 with _ | g15
                · obtain rfl : t = 8 := by simp only [nO] at ht; omega
                  clear ht
                  refine steps_of (rs := [7, 20]) (by kernel_rfl) (by simp) ?_
                  refine Steps.cons rfl (fun K' hK => ?_) ?_
                  · simp only [pP, pI, Act.put, List.setIfInBounds_toArray, List.set_cons_zero, List.set_cons_succ]
                    go_simp
                    refine (G3.out _ hB).mono ?_
                    rintro e w'' ⟨sU, aU, nU, cU, bU, mU, dU, rfl, RU, ZU, hb, hb0⟩
                    refine hK.out _ _ ⟨hb0, fun H => ?_⟩
                    exact H.out 8 (Nat.le_refl _) _ _ _ ⟨_, _, _, _, none, none, none, none, none, none, none, none, 7, by kernel_rfl, by simp only [nO], by simp only [pP, pI, Act.put, List.setIfInBounds_toArray, List.set_cons_zero, List.set_cons_succ], CH.c3 _ _ _ _, H50.later hb, H53.later hb, RvV.some' RU ZU, H59.later hb, H62.later hb, H65.later hb, H54.later hb, H60.later hb, H66.later hb, H67.later hb, H68.later hb, H15.later hb, hb0⟩
                  refine Steps.cons rfl (fun K' hK => ?_) ?_
                  · simp only [pP, pI, Act.put, List.setIfInBounds_toArray, List.set_cons_zero, List.set_cons_succ]
                    go_simp
                    have hba := alloc_below (w := w') (.cells #[.bool false, .slice none 0 0, .slice none 0 0] 43)
                    exact hK.out _ _ ⟨hB.trans (hba.mono hBs), fun H => H.out _ (Nat.le_refl _) _ _ _ ⟨_, _, _, none, none, none, none, none, none, none, none, some _, 8, by kernel_rfl, by simp only [nO], by simp only [pP, pI, Act.put, List.setIfInBounds_toArray, List.set_cons_zero, List.set_cons_succ], CH.c2 _ _ _, H50.later hba, H53.later hba, H56.later hba, H59.later hba, H62.later hba, H65.later hba, H54.later hba, H60.later hba, H66.later hba, H67.later hba, H68.later hba, StV.new hBs, hB.trans (hba.mono hBs)⟩⟩
                  exact Steps.nil
                · obtain rfl : t = 7 := by simp only [nO] at ht; omega
                  clear ht
                  refine steps_of (rs := [7]) (by kernel_rfl) (by simp) ?_
                  refine Steps.cons rfl (fun K' hK => ?_) ?_
                  · simp only [pP, pI, Act.put, List.setIfInBounds_toArray, List.set_cons_zero, List.set_cons_succ]
                    go_simp
                    refine (G3.out _ hB).mono ?_
                    rintro e w'' ⟨sU, aU, nU, cU, bU, mU, dU, rfl, RU, ZU, hb, hb0⟩
                    refine hK.out _ _ ⟨hb0, fun H => ?_⟩
                    exact H.out 7 (Nat.le_refl _) _ _ _ ⟨_, _, _, _, none, none, none, none, none, none, none, some g15, 7, by kernel_rfl, by simp only [nO], by simp only [pP, pI, Act.put, List.setIfInBounds_toArray, List.set_cons_zero, List.set_cons_succ], CH.c3 _ _ _ _, H50.later hb, H53.later hb, RvV.some' RU ZU, H59.later hb, H62.later hb, H65.later hb, H54.later hb, H60.later hb, H66.later hb, H67.later hb, H68.later hb, H15.later hb, hb0⟩
                  exact Steps.nil
              case c3 v50 v53 v54 v56 =>
                rcases y15 with _ | g15
                · obtain rfl : t = 7 := by simp only [nO] at ht; omega
                  clear ht
                  obtain ⟨sV, aV, nV', cV, bV, mV, dV, rfl, RV, ZV⟩ := H56 _ rfl
                  refine steps_of (rs := [10, 20]) (by kernel_rfl) (by simp) ?_
                  refine Steps.cons rfl (fun K' hK => ?_) ?_
                  · simp only [pP, pI, Act.put, List.setIfInBounds_toArray, List.set_cons_zero, List.set_cons_succ]
                    go_simp
                    refine (G4.out _ hB).mono ?_
                    rintro e w'' ⟨sU, aU, nU, cU, bU, mU, dU, rfl, RU, ZU, hb, hb0⟩
                    refine hK.out _ _ ⟨hb0, fun H => ?_⟩
                    refine wpAnyH_take' (i := 11) (v := .agg #[.bool sV, .slice aV nV' cV, .slice bV mV dV, .bool sU, .slice aU nU cU, .slice bU mU dU]) (some 60) rfl rfl (by kernel_rfl) (by kernel_rfl) (by kernel_rfl) (fun _ _ _ h => h) (Or.inl ⟨by rfl, ?_⟩) hb0 ?_
                    · intro w9 _; go_simp
                    · exact H.out 6 (by omega) _ _ _ ⟨_, _, _, _, _, _, none, none, none, none, none, none, 5, by kernel_rfl, by simp only [nO], by simp only [pP, pI, Act.put, List.setIfInBounds_toArray, List.set_cons_zero, List.set_cons_succ], CH.c4 _ _ _ _ _ _, H50.later hb, H53.later hb, H56.later hb, RvV.some' RU ZU, H62.later hb, H65.later hb, H54.later hb, SpO.some' ⟨_, _, _, _, _, _, _, _, _, _, _, _, _, _, rfl, RV.later hb, RU, ZV, ZU⟩, H66.later hb, H67.later hb, H68.later hb, H15.later hb, hb0⟩
                  refine Steps.cons rfl (fun K' hK => ?_) ?_
                  · simp only [pP, pI, Act.put, List.setIfInBounds_toArray, List.set_cons_zero, List.set_cons_succ]
                    go_simp
                    have hba := alloc_below (w := w') (.cells #[.bool false, .slice none 0 0, .slice none 0 0] 43)
                    exact hK.out _ _ ⟨hB.trans (hba.mono hBs), fun H => H.out _ (Nat.le_refl _) _ _ _ ⟨_, _, _, _, none, none, none, none, none, none, none, some _, 7, by kernel_rfl, by simp only [nO], by simp only [pP, pI, Act.put, List.setIfInBounds_toArray, List.set_cons_zero, List.set_cons_succ], CH.c3 _ _ _ _, H50.later hba, H53.later hba, H56.later hba, H59.later hba, H62.later hba, H65.later hba, H54.later hba, H60.later hba, H66.later hba, H67.later hba, H68.later hba, StV.new hBs, hB.trans (hba.mono hBs)⟩⟩
                  exact Steps.nil
                · obtain rfl : t = 6 := by simp only [nO] at ht; omega
                  clear ht
                  obtain ⟨sV, aV, nV', cV, bV, mV, dV, rfl, RV, ZV⟩ := H56 _ rfl
                  refine steps_of (rs := [10]) (by kernel_rfl) (by simp) ?_
                  refine Steps.cons rfl (fun K' hK => ?_) ?_
                  · simp only [pP, pI, Act.put, List.setIfInBounds_toArray, List.set_cons_zero, List.set_cons_succ]
                    go_simp
                    refine (G4.out _ hB).mono ?_
                    rintro e w'' ⟨sU, aU, nU, cU, bU, mU, dU, rfl, RU, ZU, hb, hb0⟩
                    refine hK.out _ _ ⟨hb0, fun H => ?_⟩
                    refine wpAnyH_take' (i := 11) (v := .agg #[.bool sV, .slice aV nV' cV, .slice bV mV dV, .bool sU, .slice aU nU cU, .slice bU mU dU]) (some 60) rfl rfl (by kernel_rfl) (by kernel_rfl) (by kernel_rfl) (fun _ _ _ h => h) (Or.inl ⟨by rfl, ?_⟩) hb0 ?_
                    · intro w9 _; go_simp
                    · exact H.out 5 (by omega) _ _ _ ⟨_, _, _, _, _, _, none, none, none, none, none, some g15, 5, by kernel_rfl, by simp only [nO], by simp only [pP, pI, Act.put, List.setIfInBounds_toArray, List.set_cons_zero, List.set_cons_succ], CH.c4 _ _ _ _ _ _, H50.later hb, H53.later hb, H56.later hb, RvV.some' RU ZU, H62.later hb, H65.later hb, H54.later hb, SpO.some' ⟨_, _, _, _, _, _, _, _, _, _, _, _, _, _, rfl, RV.later hb, RU, ZV, ZU⟩, H66.later hb, H67.later hb, H68.later hb, H15.later hb, hb0⟩
                  exact Steps.nil
              case c4 v50 v53 v54 v56 v59 v60 =>
                rcases y15 with _ | g15
                · obtain rfl : t = 5 := by simp only [nO] at ht; omega
                  clear ht
                  refine steps_of (rs := [13, 20]) (by kernel_rfl) (by simp) ?_
                  refine Steps.cons rfl (fun K' hK => ?_) ?_
                  · simp only [pP, pI, Act.put, List.setIfInBounds_toArray, List.set_cons_zero, List.set_cons_succ]
                    go_simp
                    refine (G5.out _ hB).mono ?_
                    rintro e w'' ⟨sU, aU, nU, cU, bU, mU, dU, rfl, RU, ZU, hb, hb0⟩
                    refine hK.out _ _ ⟨hb0, fun H => ?_⟩
                    exact H.out 5 (Nat.le_refl _) _ _ _ ⟨_, _, _, _, _, _, _, none, none, none, none, none, 4, by kernel_rfl, by simp only [nO], by simp only [pP, pI, Act.put, List.setIfInBounds_toArray, List.set_cons_zero, List.set_cons_succ], CH.c5 _ _ _ _ _ _ _, H50.later hb, H53.later hb, H56.later hb, H59.later hb, RvV.some' RU ZU, H65.later hb, H54.later hb, H60.later hb, H66.later hb, H67.later hb, H68.later hb, H15.later hb, hb0⟩
                  refine Steps.cons rfl (fun K' hK => ?_) ?_
                  · simp only [pP, pI, Act.put, List.setIfInBounds_toArray, List.set_cons_zero, List.set_cons_succ]
                    go_simp
                    have hba := alloc_below (w := w') (.cells #[.bool false, .slice none 0 0, .slice none 0 0] 43)
                    exact hK.out _ _ ⟨hB.trans (hba.mono hBs), fun H => H.out _ (Nat.le_refl _) _ _ _ ⟨_, _, _, _, _, _, none, none, none, none, none, some _, 5, by kernel_rfl, by simp only [nO], by simp only [pP, pI, Act.put, List.setIfInBounds_toArray, List.set_cons_zero, List.set_cons_succ], CH.c4 _ _ _ _ _ _, H50.later hba, H53.later hba, H56.later hba, H59.later hba, H62.later hba, H65.later hba, H54.later hba, H60.later hba, H66.later hba, H67.later hba, H68.later hba, StV.new hBs, hB.trans (hba.mono hBs)⟩⟩
                  exact Steps.nil
                · obtain rfl : t = 4 := by simp only [nO] at ht; omega
                  clear ht
                  refine steps_of (rs := [13]) (by kernel_rfl) (by simp) ?_
                  refine Steps.cons rfl (fun K' hK => ?_) ?_
                  · simp only [pP, pI, Act.put, List.setIfInBounds_toArray, List.set_cons_zero, List.set_cons_succ]
                    go_simp
                    refine (G5.out _ hB).mono ?_
                    rintro e w'' ⟨sU, aU, nU, cU, bU, mU, dU, rfl, RU, ZU, hb, hb0⟩
                    refine hK.out _ _ ⟨hb0, fun H => ?_⟩
                    exact H.out 4 (Nat.le_refl _) _ _ _ ⟨_, _, _, _, _, _, _, none, none, none, none, some g15, 4, by kernel_rfl, by simp only [nO], by simp only [pP, pI, Act.put, List.setIfInBounds_toArray, List.set_cons_zero, List.set_cons_succ], CH.c5 _ _ _ _ _ _ _, H50.later hb, H53.later hb, H56.later hb, H59.later hb, RvV.some' RU ZU, H65.later hb, H54.later hb, H60.later hb, H66.later hb, H67.later hb, H68.later hb, H15.later hb, hb0⟩
                  exact Steps.nil
              case c5 v50 v53 v54 v56 v59 v60 v62 =>
                rcases y15 with _ | g15
                · obtain rfl : t = 4 := by simp only [nO] at ht; omega
                  clear ht
                  obtain ⟨sV, aV, nV', cV, bV, mV, dV, rfl, RV, ZV⟩ := H62 _ rfl
                  refine steps_of (rs := [16, 20]) (by kernel_rfl) (by simp) ?_
                  refine Steps.cons rfl (fun K' hK => ?_) ?_
                  · simp only [pP, pI, Act.put, List.setIfInBounds_toArray, List.set_cons_zero, List.set_cons_succ]
                    go_simp
                    refine (G6.out _ hB).mono ?_
                    rintro e w'' ⟨sU, aU, nU, cU, bU, mU, dU, rfl, RU, ZU, hb, hb0⟩
                    refine hK.out _ _ ⟨hb0, fun H => ?_⟩
                    refine wpAnyH_take' (i := 17) (v := .agg #[.bool sV, .slice aV nV' cV, .slice bV mV dV, .bool sU, .slice aU nU cU, .slice bU mU dU]) (some 66) rfl rfl (by kernel_rfl) (by kernel_rfl) (by kernel_rfl) (fun _ _ _ h => h) (Or.inl ⟨by rfl, ?_⟩) hb0 ?_
                    · intro w9 _; go_simp
                    · exact H.out 3 (by omega) _ _ _ ⟨_, _, _, _, _, _, _, _, _, none, none, none, 2, by kernel_rfl, by simp only [nO], by simp only [pP, pI, Act.put, List.setIfInBounds_toArray, List.set_cons_zero, List.set_cons_succ], CH.c6 _ _ _ _ _ _ _ _ _, H50.later hb, H53.later hb, H56.later hb, H59.later hb, H62.later hb, RvV.some' RU ZU, H54.later hb, H60.later hb, SpO.some' ⟨_, _, _, _, _, _, _, _, _, _, _, _, _, _, rfl, RV.later hb, RU, ZV, ZU⟩, H67.later hb, H68.later hb, H15.later hb, hb0⟩
                  refine Steps.cons rfl (fun K' hK => ?_) ?_
                  · simp only [pP, pI, Act.put, List.setIfInBounds_toArray, List.set_cons_zero, List.set_cons_succ]
                    go_simp
                    have hba := alloc_below (w := w') (.cells #[.bool false, .slice none 0 0, .slice none 0 0] 43)
                    exact hK.out _ _ ⟨hB.trans (hba.mono hBs), fun H => H.out _ (Nat.le_refl _) _ _ _ ⟨_, _, _, _, _, _, _, none, none, none, none, some _, 4, by kernel_rfl, by simp only [nO], by simp only [pP, pI, Act.put, List.setIfInBounds_toArray, List.set_cons_zero, List.set_cons_succ], CH.c5 _ _ _ _ _ _ _, H50.later hba, H53.later hba, H56.later hba, H59.later hba, H62.later hba, H65.later hba, H54.later hba, H60.later hba, H66.later hba, H67.later hba, H68.later hba, StV.new hBs, hB.trans (hba.mono hBs)⟩⟩
                  exact Steps.nil
                · obtain rfl : t = 3 := by simp only [nO] at ht; omega
                  clear ht
                  obtain ⟨sV, aV, nV', cV, bV, mV, dV, rfl, RV, ZV⟩ := H62 _ rfl
                  refine steps_of (rs := [16]) (by kernel_rfl) (by simp) ?_
                  refine Steps.cons rfl (fun K' hK => ?_) ?_
                  · simp only [pP, pI, Act.put, List.setIfInBounds_toArray, List.set_cons_zero, List.set_cons_succ]
                    go_simp
                    refine (G6.out _ hB).mono ?_
                    rintro e w'' ⟨sU, aU, nU, cU, bU, mU, dU, rfl, RU, ZU, hb, hb0⟩
                    refine hK.out _ _ ⟨hb0, fun H => ?_⟩
                    refine wpAnyH_take' (i := 17) (v := .agg #[.bool sV, .slice aV nV' cV, .slice bV mV dV, .bool sU, .slice aU nU cU, .slice bU mU dU]) (some 66) rfl rfl (by kernel_rfl) (by kernel_rfl) (by kernel_rfl) (fun _ _ _ h => h) (Or.inl ⟨by rfl, ?_⟩) hb0 ?_
                    · intro w9 _; go_simp
                    · exact H.out 2 (by omega) _ _ _ ⟨_, _, _, _, _, _, _, _, _, none, none, some g15, 2, by kernel_rfl, by simp only [nO], by simp only [pP, pI, Act.put, List.setIfInBounds_toArray, List.set_cons_zero, List.set_cons_succ], CH.c6 _ _ _ _ _ _ _ _ _, H50.later hb, H53.later hb, H56.later hb, H59.later hb, H62.later hb, RvV.some' RU ZU, H54.later hb, H60.later hb, SpO.some' ⟨_, _, _, _, _, _, _, _, _, _, _, _, _, _, rfl, RV.later hb, RU, ZV, ZU⟩, H67.later hb, H68.later hb, H15.later hb, hb0⟩
                  exact Steps.nil
              case c6 v50 v53 v54 v56 v59 v60 v62 v65 v66 =>
                rcases y15 with _ | g15
                · obtain rfl : t = 2 := by simp only [nO] at ht; omega
                  clear ht
                  obtain ⟨sV, aV, nV', cV, bV, mV, dV, sV1, aV1, nV1, cV1, bV1, mV1, dV1, rfl, RV, RV1, ZV, ZV1⟩ := H60 _ rfl
                  obtain ⟨sW, aW, nW', cW, bW, mW, dW, sW1, aW1, nW1, cW1, bW1, mW1, dW1, rfl, RW, RW1, ZW, ZW1⟩ := H66 _ rfl
                  refine steps_of (rs := [18, 20]) (by kernel_rfl) (by simp) ?_
                  refine Steps.cons rfl (fun K' hK => ?_) ?_
                  · simp only [pP, pI, Act.put, List.setIfInBounds_toArray, List.set_cons_zero, List.set_cons_succ]
                    go_simp
                    have hba := alloc_below (w := w') (.cells #[.bool sV, .slice aV nV' cV, .slice bV mV dV, .bool sV1, .slice aV1 nV1 cV1, .slice bV1 mV1 dV1, .bool sW, .slice aW nW' cW, .slice bW mW dW, .bool sW1, .slice aW1 nW1 cW1, .slice bW1 mW1 dW1] 87)
                    have hPb := Pb.new w' 87 #[.bool sV, .slice aV nV' cV, .slice bV mV dV, .bool sV1, .slice aV1 nV1 cV1, .slice bV1 mV1 dV1, .bool sW, .slice aW nW' cW, .slice bW mW dW, .bool sW1, .slice aW1 nW1 cW1, .slice bW1 mW1 dW1]
                    exact hK.out _ _ ⟨hB.trans (hba.mono hBs), fun H => H.out _ (Nat.le_refl _) _ _ _ ⟨_, _, _, _, _, _, _, _, _, some (.slice (some ⟨w'.heap.size, 0, none⟩) 2 2), none, none, 1, by kernel_rfl, by simp only [nO], by simp only [pP, pI, Act.put, List.setIfInBounds_toArray, List.set_cons_zero, List.set_cons_succ], CH.c7 _ _ _ _ _ _ _ _ _ _, H50.later hba, H53.later hba, H56.later hba, H59.later hba, H62.later hba, H65.later hba, H54.later hba, H60.later hba, H66.later hba, (fun _ e => by cases e; exact ⟨_, rfl, prAt_two hPb (RV.later hba) (RV1.later hba) (RW.later hba) (RW1.later hba) ZV ZV1 ZW ZW1⟩), H68.later hba, H15.later hba, hB.trans (hba.mono hBs)⟩⟩
                  refine Steps.cons rfl (fun K' hK => ?_) ?_
                  · simp only [pP, pI, Act.put, List.setIfInBounds_toArray, List.set_cons_zero, List.set_cons_succ]
                    go_simp
                    have hba := alloc_below (w := w') (.cells #[.bool false, .slice none 0 0, .slice none 0 0] 43)
                    exact hK.out _ _ ⟨hB.trans (hba.mono hBs), fun H => H.out _ (Nat.le_refl _) _ _ _ ⟨_, _, _, _, _, _, _, _, _, none, none, some _, 2, by kernel_rfl, by simp only [nO], by simp only [pP, pI, Act.put, List.setIfInBounds_toArray, List.set_cons_zero, List.set_cons_succ], CH.c6 _ _ _ _ _ _ _ _ _, H50.later hba, H53.later hba, H56.later hba, H59.later hba, H62.later hba, H65.later hba, H54.later hba, H60.later hba, H66.later hba, H67.later hba, H68.later hba, StV.new hBs, hB.trans (hba.mono hBs)⟩⟩
                  exact Steps.nil
                · obtain rfl : t = 1 := by simp only [nO] at ht; omega
                  clear ht
                  obtain ⟨sV, aV, nV', cV, bV, mV, dV, sV1, aV1, nV1, cV1, bV1, mV1, dV1, rfl, RV, RV1, ZV, ZV1⟩ := H60 _ rfl
                  obtain ⟨sW, aW, nW', cW, bW, mW, dW, sW1, aW1, nW1, cW1, bW1, mW1, dW1, rfl, RW, RW1, ZW, ZW1⟩ := H66 _ rfl
                  refine steps_of (rs := [18]) (by kernel_rfl) (by simp) ?_
                  refine Steps.cons rfl (fun K' hK => ?_) ?_
                  · simp only [pP, pI, Act.put, List.setIfInBounds_toArray, List.set_cons_zero, List.set_cons_succ]
                    go_simp
                    have hba := alloc_below (w := w') (.cells #[.bool sV, .slice aV nV' cV, .slice bV mV dV, .bool sV1, .slice aV1 nV1 cV1, .slice bV1 mV1 dV1, .bool sW, .slice aW nW' cW, .slice bW mW dW, .bool sW1, .slice aW1 nW1 cW1, .slice bW1 mW1 dW1] 87)
                    have hPb := Pb.new w' 87 #[.bool sV, .slice aV nV' cV, .slice bV mV dV, .bool sV1, .slice aV1 nV1 cV1, .slice bV1 mV1 dV1, .bool sW, .slice aW nW' cW, .slice bW mW dW, .bool sW1, .slice aW1 nW1 cW1, .slice bW1 mW1 dW1]
                    exact hK.out _ _ ⟨hB.trans (hba.mono hBs), fun H => H.out _ (Nat.le_refl _) _ _ _ ⟨_, _, _, _, _, _, _, _, _, some (.slice (some ⟨w'.heap.size, 0, none⟩) 2 2), none, some g15, 1, by kernel_rfl, by simp only [nO], by simp only [pP, pI, Act.put, List.setIfInBounds_toArray, List.set_cons_zero, List.set_cons_succ], CH.c7 _ _ _ _ _ _ _ _ _ _, H50.later hba, H53.later hba, H56.later hba, H59.later hba, H62.later hba, H65.later hba, H54.later hba, H60.later hba, H66.later hba, (fun _ e => by cases e; exact ⟨_, rfl, prAt_two hPb (RV.later hba) (RV1.later hba) (RW.later hba) (RW1.later hba) ZV ZV1 ZW ZW1⟩), H68.later hba, H15.later hba, hB.trans (hba.mono hBs)⟩⟩
                  exact Steps.nil
              case c7 v50 v53 v54 v56 v59 v60 v62 v65 v66 v67 =>
                rcases y15 with _ | g15
                · obtain rfl : t = 1 := by simp only [nO] at ht; omega
                  clear ht
                  obtain ⟨sV, aV, nV', cV, bV, mV, dV, sV1, aV1, nV1, cV1, bV1, mV1, dV1, rfl, RV, RV1, ZV, ZV1⟩ := H54 _ rfl
                  obtain ⟨gS, rfl, hPr⟩ := H67 _ rfl
                  refine steps_of (rs := [19, 20]) (by kernel_rfl) (by simp) ?_
                  refine Steps.cons rfl (fun K' hK => ?_) ?_
                  · simp only [pP, pI, Act.put, List.setIfInBounds_toArray, List.set_cons_zero, List.set_cons_succ]
                    go_simp
                    refine (sum22_two RV RV1 ZV ZV1 hPr).mono ?_
                    rintro e w'' ⟨sU, aU, nU, cU, bU, mU, dU, rfl, RU, ZU, hb⟩
                    exact hK.out _ _ ⟨hB.trans (hb.mono hBs), fun H => H.out _ (Nat.le_refl _) _ _ _ ⟨_, _, _, _, _, _, _, _, _, _, _, none, 0, by kernel_rfl, by simp only [nO], by simp only [pP, pI, Act.put, List.setIfInBounds_toArray, List.set_cons_zero, List.set_cons_succ], CH.c8 _ _ _ _ _ _ _ _ _ _ _, H50.later hb, H53.later hb, H56.later hb, H59.later hb, H62.later hb, H65.later hb, H54.later hb, H60.later hb, H66.later hb, H67.later hb, RvV.some' RU ZU, H15.later hb, hB.trans (hb.mono hBs)⟩⟩
                  refine Steps.cons rfl (fun K' hK => ?_) ?_
                  · simp only [pP, pI, Act.put, List.setIfInBounds_toArray, List.set_cons_zero, List.set_cons_succ]
                    go_simp
                    have hba := alloc_below (w := w') (.cells #[.bool false, .slice none 0 0, .slice none 0 0] 43)
                    exact hK.out _ _ ⟨hB.trans (hba.mono hBs), fun H => H.out _ (Nat.le_refl _) _ _ _ ⟨_, _, _, _, _, _, _, _, _, _, none, some _, 1, by kernel_rfl, by simp only [nO], by simp only [pP, pI, Act.put, List.setIfInBounds_toArray, List.set_cons_zero, List.set_cons_succ], CH.c7 _ _ _ _ _ _ _ _ _ _, H50.later hba, H53.later hba, H56.later hba, H59.later hba, H62.later hba, H65.later hba, H54.later hba, H60.later hba, H66.later hba, H67.later hba, H68.later hba, StV.new hBs, hB.trans (hba.mono hBs)⟩⟩
                  exact Steps.nil
                · obtain rfl : t = 0 := by simp only [nO] at ht; omega
                  clear ht
                  obtain ⟨sV, aV, nV', cV, bV, mV, dV, sV1, aV1, nV1, cV1, bV1, mV1, dV1, rfl, RV, RV1, ZV, ZV1⟩ := H54 _ rfl
                  obtain ⟨gS, rfl, hPr⟩ := H67 _ rfl
                  refine steps_of (rs := [19]) (by kernel_rfl) (by simp) ?_
                  refine Steps.cons rfl (fun K' hK => ?_) ?_
                  · simp only [pP, pI, Act.put, List.setIfInBounds_toArray, List.set_cons_zero, List.set_cons_succ]
                    go_simp
                    refine (sum22_two RV RV1 ZV ZV1 hPr).mono ?_
                    rintro e w'' ⟨sU, aU, nU, cU, bU, mU, dU, rfl, RU, ZU, hb⟩
                    exact hK.out _ _ ⟨hB.trans (hb.mono hBs), fun H => H.out _ (Nat.le_refl _) _ _ _ ⟨_, _, _, _, _, _, _, _, _, _, _, some g15, 0, by kernel_rfl, by simp only [nO], by simp only [pP, pI, Act.put, List.setIfInBounds_toArray, List.set_cons_zero, List.set_cons_succ], CH.c8 _ _ _ _ _ _ _ _ _ _ _, H50.later hb, H53.later hb, H56.later hb, H59.later hb, H62.later hb, H65.later hb, H54.later hb, H60.later hb, H66.later hb, H67.later hb, RvV.some' RU ZU, H15.later hb, hB.trans (hb.mono hBs)⟩⟩
                  exact Steps.nil
              case c8 v50 v53 v54 v56 v59 v60 v62 v65 v66 v67 v68 =>
                rcases y15 with _ | g15
                · obtain rfl : t = 0 := by simp only [nO] at ht; omega
                  clear ht
                  refine steps_of (rs := [20]) (by kernel_rfl) (by simp) ?_
                  refine Steps.cons rfl (fun K' hK => ?_) ?_
                  · simp only [pP, pI, Act.put, List.setIfInBounds_toArray, List.set_cons_zero, List.set_cons_succ]
                    go_simp
                    have hba := alloc_below (w := w') (.cells #[.bool false, .slice none 0 0, .slice none 0 0] 43)
                    exact hK.out _ _ ⟨hB.trans (hba.mono hBs), fun H => H.out _ (Nat.le_refl _) _ _ _ ⟨_, _, _, _, _, _, _, _, _, _, _, some _, 0, by kernel_rfl, by simp only [nO], by simp only [pP, pI, Act.put, List.setIfInBounds_toArray, List.set_cons_zero, List.set_cons_succ], CH.c8 _ _ _ _ _ _ _ _ _ _ _, H50.later hba, H53.later hba, H56.later hba, H59.later hba, H62.later hba, H65.later hba, H54.later hba, H60.later hba, H66.later hba, H67.later hba, H68.later hba, StV.new hBs, hB.trans (hba.mono hBs)⟩⟩
                  exact Steps.nil
                · exfalso; simp only [nO] at ht; omega
end Go.Proofs.YtbonkgmcpjaepabGreat

/- plumblaw22: what PredSteps asks of its numbers. -/
namespace Go.Proofs.YtbonkgmcpjaepabGreat
open Go.ChangeShapes Go.WideShapes Go.ChangeAt Go.RowKit
open Na Ar
set_option linter.unusedVariables false
theorem sgnR_pos {q : Rat} (h : 0 < q) : sgnR q = 1 := by
  have h1 : 0 ≤ q.num := Rat.num_nonneg.mpr (Rat.le_of_lt h)
  have h2 : q.num ≠ 0 := fun e => by rw [Rat.num_eq_zero] at e; rw [e] at h; exact absurd h (by decide)
  unfold sgnR
  rw [if_neg h2, if_neg (by omega)]
theorem sgnR_ng {q : Rat} (h : q < 0) : sgnR q = -1 := by
  have := sgnR_pos (q := -q) (by grind)
  rw [sgnR_neg] at this
  omega
theorem mk_lt22 {x y E : Int} (hx : 0 ≤ x) (h : x < y) (hE : 0 < E) : mkR false x E < mkR false y E := by
  have s : ∀ z : Int, sg false z = z := fun z => rfl
  rw [← ordR_neg, ordR_mk hx hE (by omega) hE, s, s, ordN_lt (Int.mul_lt_mul_of_pos_right h hE)]
  decide
end Go.Proofs.YtbonkgmcpjaepabGreat

/- plumblaw22: what PredWhole asks of its numbers. -/
namespace Go.Proofs.YtbonkgmcpjaepabGreat
open Go.ChangeShapes Go.WideShapes Go.ChangeAt Go.RowKit
open Na Ar
set_option linter.unusedVariables false
theorem sgn_scale {z : Int} {q : Rat} (h : 0 < q) : sgnR ((z : Rat) * q) = sgI z := by
  rcases Int.lt_trichotomy z 0 with hz | hz | hz
  · rw [sgI_ng hz]
    refine sgnR_ng ?_
    have h2 : 0 < ((-z : Int) : Rat) := by exact_mod_cast (show 0 < -z by omega)
    have := Rat.mul_pos h2 h
    rw [Rat.intCast_neg] at this
    grind
  · subst hz; rw [sgI_zero]
    have : (((0 : Int) : Rat) * q) = 0 := by simp
    rw [this]; rfl
  · rw [sgI_pos hz]
    exact sgnR_pos (Rat.mul_pos (by exact_mod_cast hz) h)
theorem ord_int (a b : Int) : ordR (a : Rat) (b : Rat) = sgI (a - b) := by
  refine (ordR_of (sgI_in _) ?_ ?_).symm
  · rw [Rat.intCast_lt_intCast]; unfold sgI; (repeat' split) <;> omega
  · rw [sgI_eq, Rat.intCast_inj]; omega
theorem ord_scale {a b : Int} {p : Rat} (h : 0 < p) : ordR ((a : Rat) * p) ((b : Rat) * p) = sgI (a - b) := by
  rw [ordR_mul, ord_int, sgnR_pos h, Int.mul_one]
/-- the order of two places with whole coordinates -/
def ordI (ax ay bx by' : Int) : Int := if sgI (ax - bx) = 0 then sgI (ay - by') else sgI (ax - bx)
theorem ordS_scale {ax ay bx by' : Int} {p : Rat} (h : 0 < p) : ordS ((ax : Rat) * p) ((ay : Rat) * p) ((bx : Rat) * p) ((by' : Rat) * p) = ordI ax ay bx by' := by
  unfold ordS ordI
  rw [ord_scale h, ord_scale h]
def crI (ax ay bx by' cx cy : Int) : Int := (bx - ax) * (cy - ay) - (by' - ay) * (cx - ax)
theorem cr_scale {ax ay bx by' cx cy : Int} {p : Rat} (h : 0 < p) : sgnR (crR ((ax : Rat) * p) ((ay : Rat) * p) ((bx : Rat) * p) ((by' : Rat) * p) ((cx : Rat) * p) ((cy : Rat) * p)) = sgI (crI ax ay bx by' cx cy) := by
  have e : crR ((ax : Rat) * p) ((ay : Rat) * p) ((bx : Rat) * p) ((by' : Rat) * p) ((cx : Rat) * p) ((cy : Rat) * p) = ((crI ax ay bx by' cx cy : Int) : Rat) * (p * p) := by
    unfold crR crI
    simp only [Rat.intCast_sub, Rat.intCast_mul]
    grind
  rw [e]
  exact sgn_scale (Rat.mul_pos h h)
def sqI (ax ay bx by' : Int) : Int := (ax - bx) * (ax - bx) + (ay - by') * (ay - by')
theorem sq_scale {ax ay bx by' cx cy dx dy : Int} {p : Rat} (h : 0 < p) : ordR (sqR ((ax : Rat) * p) ((ay : Rat) * p) ((bx : Rat) * p) ((by' : Rat) * p)) (sqR ((cx : Rat) * p) ((cy : Rat) * p) ((dx : Rat) * p) ((dy : Rat) * p)) = sgI (sqI ax ay bx by' - sqI cx cy dx dy) := by
  have e : ∀ ax ay bx by' : Int, sqR ((ax : Rat) * p) ((ay : Rat) * p) ((bx : Rat) * p) ((by' : Rat) * p) = ((sqI ax ay bx by' : Int) : Rat) * (p * p) := by
    intro ax ay bx by'
    unfold sqR sqI
    simp only [Rat.intCast_sub, Rat.intCast_mul, Rat.intCast_add]
    grind
  rw [e, e]
  exact ord_scale (Rat.mul_pos h h)
/-- the chapter's sum, as PredWhole has it -/
def inI (px py qx qy rx ry : Int) : Int := px * (qy * (rx * rx + ry * ry) - ry * (qx * qx + qy * qy)) - py * (qx * (rx * rx + ry * ry) - rx * (qx * qx + qy * qy)) + (px * px + py * py) * (qx * ry - rx * qy)
theorem in_scale {ax ay bx by' cx cy dx dy : Int} {p : Rat} (h : 0 < p) : sgnR (inR ((ax : Rat) * p) ((ay : Rat) * p) ((bx : Rat) * p) ((by' : Rat) * p) ((cx : Rat) * p) ((cy : Rat) * p) ((dx : Rat) * p) ((dy : Rat) * p)) = sgI (inI (ax - dx) (ay - dy) (bx - dx) (by' - dy) (cx - dx) (cy - dy)) := by
  have e : inR ((ax : Rat) * p) ((ay : Rat) * p) ((bx : Rat) * p) ((by' : Rat) * p) ((cx : Rat) * p) ((cy : Rat) * p) ((dx : Rat) * p) ((dy : Rat) * p) = ((inI (ax - dx) (ay - dy) (bx - dx) (by' - dy) (cx - dx) (cy - dy) : Int) : Rat) * ((p * p) * (p * p)) := by
    unfold inR inI
    simp only [Rat.intCast_sub, Rat.intCast_mul, Rat.intCast_add]
    grind
  rw [e]
  exact sgn_scale (Rat.mul_pos (Rat.mul_pos h h) (Rat.mul_pos h h))
/-- the sign of a step, by X, then by Y -/
def lexI (x y : Int) : Int := if sgI x = 0 then sgI y else sgI x
theorem lex_dot {ux uy wx wy : Int} (h : ux * wy - uy * wx = 0) : lexI ux uy * lexI wx wy = sgI (ux * wx + uy * wy) := by
  unfold lexI
  by_cases hu : ux = 0
  · subst hu
    rw [sgI_zero, if_pos rfl]
    rw [Int.zero_mul, Int.zero_sub] at h
    rw [Int.zero_mul, Int.zero_add, sgI_mul]
    rcases Int.mul_eq_zero.mp (show uy * wx = 0 by omega) with e | e
    · subst e; rw [sgI_zero, Int.zero_mul, Int.zero_mul]
    · subst e; rw [sgI_zero, if_pos rfl]
  · have nu : sgI ux ≠ 0 := fun e => hu (sgI_eq.mp e)
    rw [if_neg nu]
    by_cases hw : wx = 0
    · subst hw
      rw [Int.mul_zero, Int.sub_zero] at h
      rcases Int.mul_eq_zero.mp h with e | e
      · exact absurd e hu
      · subst e
        rw [sgI_zero, if_pos rfl, Int.mul_zero, Int.mul_zero, Int.mul_zero, Int.add_zero, sgI_zero]
    · rw [if_neg (fun e => hw (sgI_eq.mp e))]
      have k : (ux * wx + uy * wy) * ux = wx * (ux * ux + uy * uy) := by
        have : uy * wy * ux = uy * (ux * wy) := by grind
        have e2 : ux * wy = uy * wx := by omega
        grind
      have sq : 0 < ux * ux + uy * uy := by
        have h1 : 0 < ux * ux := by
          rcases Int.lt_trichotomy ux 0 with g | g | g
          · exact Int.mul_pos_of_neg_of_neg g g
          · exact absurd g hu
          · exact Int.mul_pos g g
        have h2 : 0 ≤ uy * uy := by
          rcases Int.lt_trichotomy uy 0 with g | g | g
          · exact Int.le_of_lt (Int.mul_pos_of_neg_of_neg g g)
          · subst g; simp
          · exact Int.le_of_lt (Int.mul_pos g g)
        omega
      have k2 := congrArg sgI k
      rw [sgI_mul, sgI_mul wx, sgI_pos sq, Int.mul_one] at k2
      have b1 := sgI_in ux
      rcases (show sgI ux = -1 ∨ sgI ux = 1 by omega) with e | e <;> rw [e] at k2 ⊢ <;> omega
/-- between, by whole numbers -/
theorem btw_int {ax ay bx by' cx cy : Int} : (decide (0 ≤ ordI ax ay cx cy * ordI cx cy bx by') && decide (sgI (crI ax ay bx by' cx cy) = 0)) = ((crI ax ay bx by' cx cy == 0) && decide ((cx - ax) * (cx - bx) + (cy - ay) * (cy - by') ≤ 0)) := by
  by_cases h : crI ax ay bx by' cx cy = 0
  · rw [h, sgI_zero]
    have hc : (cx - ax) * (cy - by') - (cy - ay) * (cx - bx) = 0 := by
      have : crI ax ay bx by' cx cy = (cx - ax) * (cy - by') - (cy - ay) * (cx - bx) := by unfold crI; grind
      omega
    have l := lex_dot hc
    have o1 : ordI ax ay cx cy = - lexI (cx - ax) (cy - ay) := by
      unfold ordI lexI
      have e1 : ax - cx = -(cx - ax) := by omega
      have e2 : ay - cy = -(cy - ay) := by omega
      rw [e1, e2, sgI_neg, sgI_neg]
      by_cases g : sgI (cx - ax) = 0
      · rw [if_pos (by omega), if_pos g]
      · rw [if_neg (by omega), if_neg g]
    have o2 : ordI cx cy bx by' = lexI (cx - bx) (cy - by') := rfl
    rw [o1, o2, Int.neg_mul, l]
    generalize (cx - ax) * (cx - bx) + (cy - ay) * (cy - by') = D
    have : sgI D ≤ 0 ↔ D ≤ 0 := by unfold sgI; (repeat' split) <;> omega
    simp [this]
  · have h2 : ¬ sgI (crI ax ay bx by' cx cy) = 0 := fun e => h (sgI_eq.mp e)
    simp [h, h2]
end Go.Proofs.YtbonkgmcpjaepabGreat


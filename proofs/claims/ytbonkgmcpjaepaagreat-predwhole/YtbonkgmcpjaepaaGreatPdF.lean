/- package pred: Order, Orient, Area2, Nearer, Between (written by genpdf.py). -/
import Derived.Test.YtbonkgmcpjaepaaGreatPdE
namespace Go.Proofs.YtbonkgmcpjaepaaGreat
open Go.ChangeShapes Go.WideShapes Go.ChangeAt Go.RowKit
open Na Ar
set_option linter.unusedVariables false
/-- both patterns are words; they are numbers' -/
def U2 (p : Int × Int) : Prop := U p.1 ∧ U p.2
def fin2 (p : Int × Int) : Prop := ef p.1 ≠ 2047 ∧ ef p.2 ≠ 2047
theorem fin_iff {P : Nat → Int × Int} {n : Nat} : (∀ t, t < 2 * n → ef (numT P t) ≠ 2047) ↔ ∀ i, i < n → fin2 (P i) := by
  constructor
  · intro h i hi
    have h1 := h (2 * i) (by omega)
    have h2 := h (2 * i + 1) (by omega)
    unfold numT at h1 h2
    rw [if_pos (by omega), show 2 * i / 2 = i by omega] at h1
    rw [if_neg (by omega), show (2 * i + 1) / 2 = i by omega] at h2
    exact ⟨h1, h2⟩
  · intro h t ht
    unfold numT
    split
    · exact (h _ (by omega)).1
    · exact (h _ (by omega)).2
/-- a Rat at its place in a block, opened -/
def S1At (w : World) (o k k' k'' : Nat) (q : Rat) : Prop := ∃ s a n c b m d, (w.cell? ⟨o, k, none⟩ = some (.bool s) ∧ w.cell? ⟨o, k', none⟩ = some (.slice a n c) ∧ w.cell? ⟨o, k'', none⟩ = some (.slice b m d)) ∧ Rt w s a n c b m d q
theorem s1At {w : World} {o base : Nat} {ty : TypeId} {cs : Array Value} {t k k' k'' : Nat} {q : Rat} (hp : Pb w o ty cs) (h : RaAt w base cs t q) (e : k = t * 3) (e' : k' = t * 3 + 1) (e'' : k'' = t * 3 + 2) : S1At w o k k' k'' q := by
  obtain ⟨s, a, n, c, b, m, d, e1, e2, e3, r⟩ := h
  subst e e' e''
  exact ⟨s, a, n, c, b, m, d, ⟨hp.cell _ e1, hp.cell _ e2, hp.cell _ e3⟩, r.rt22⟩
/-- a Rat at its place in a block -/
theorem rat_cells {w : World} {g : Nat} {ty : TypeId} {cs : Array Value} (hp : Pb w g ty cs) {k : Nat} {x y z : Value} (e1 : cs[k]? = some x) (e2 : cs[k + 1]? = some y) (e3 : cs[k + 2]? = some z) : w.cell? ⟨g, k, none⟩ = some x ∧ w.cell? ⟨g, k + 1, none⟩ = some y ∧ w.cell? ⟨g, k + 2, none⟩ = some z := ⟨hp.cell _ e1, hp.cell _ e2, hp.cell _ e3⟩
theorem pts2_below (w : World) (A B : Int × Int) : Below w.heap.size w ((w.alloc (.cells #[.int .u64 A.1, .int .u64 A.2] 28)).alloc (.cells #[.int .u64 B.1, .int .u64 B.2] 28)) := by
  have b0 := alloc_below (w := w) (.cells #[.int .u64 A.1, .int .u64 A.2] 28)
  have b1 := alloc_below (w := (w.alloc (.cells #[.int .u64 A.1, .int .u64 A.2] 28))) (.cells #[.int .u64 B.1, .int .u64 B.2] 28)
  have c1 := b0.trans (b1.mono b0.size)
  exact c1
theorem ptAt2 (w : World) (t : TypeId) {a b : Int × Int} (ua : U2 a) (ub : U2 b) : PtAt (w.alloc (.cells #[.int .u64 a.1, .int .u64 a.2, .int .u64 b.1, .int .u64 b.2] t)) w.heap.size 0 (fun i => [a, b].getD i (0, 0)) 2 := by
  have h := Pb.new w t #[.int .u64 a.1, .int .u64 a.2, .int .u64 b.1, .int .u64 b.2]
  intro i hi
  rcases (show i = 0 ∨ i = 1 by omega) with rfl | rfl
  · exact ⟨h.cell 0 rfl, h.cell 1 rfl, ua.1, ua.2⟩
  · exact ⟨h.cell 2 rfl, h.cell 3 rfl, ub.1, ub.2⟩
theorem fin2_of {a b : Int × Int} (fa : fin2 a) (fb : fin2 b) : ∀ i, i < 2 → fin2 ([a, b].getD i (0, 0)) := by
  intro i hi
  rcases (show i = 0 ∨ i = 1 by omega) with rfl | rfl
  · exact fa
  · exact fb
theorem open2 {w w' : World} {e : Ending} {a b : Int × Int} (ua : U2 a) (fa : fin2 a) (ub : U2 b) (fb : fin2 b) (h : SpQ w 2 (fun i => [a, b].getD i (0, 0)) e w') : ∃ o, e = .returned (.tuple #[.slice (some ⟨o, 0, none⟩) 2 2, .int .i64 0]) ∧ o < w'.heap.size ∧ w.heap.size ≤ o ∧ S1At w' o 0 1 2 (valR a.1) ∧ S1At w' o 3 4 5 (valR a.2) ∧ S1At w' o 6 7 8 (valR b.1) ∧ S1At w' o 9 10 11 (valR b.2) ∧ Below w.heap.size w w' := by
  rcases h with ⟨_, o, cs, e0, hPb, ho, hsz, hT, hb⟩ | ⟨⟨t, ht, h⟩, _⟩
  · exact ⟨o, e0, hPb.lt, ho, s1At hPb (hT 0 (by omega)) rfl rfl rfl, s1At hPb (hT 1 (by omega)) rfl rfl rfl, s1At hPb (hT 2 (by omega)) rfl rfl rfl, s1At hPb (hT 3 (by omega)) rfl rfl rfl, hb⟩
  · exact absurd h (fin_iff.mpr (fin2_of fa fb) t ht)
theorem open2_inf {w w' : World} {e : Ending} {a b : Int × Int} (hf : ¬ (fin2 a ∧ fin2 b)) (h : SpQ w 2 (fun i => [a, b].getD i (0, 0)) e w') : e = .returned (.tuple #[.slice none 0 0, .int .i64 220]) ∧ Below w.heap.size w w' := by
  rcases h with ⟨h, _⟩ | ⟨_, e0, hb⟩
  · exact absurd ⟨fin_iff.mp h 0 (by omega), fin_iff.mp h 1 (by omega)⟩ hf
  · exact ⟨e0, hb⟩
theorem pts3_below (w : World) (A B C : Int × Int) : Below w.heap.size w (((w.alloc (.cells #[.int .u64 A.1, .int .u64 A.2] 28)).alloc (.cells #[.int .u64 B.1, .int .u64 B.2] 28)).alloc (.cells #[.int .u64 C.1, .int .u64 C.2] 28)) := by
  have b0 := alloc_below (w := w) (.cells #[.int .u64 A.1, .int .u64 A.2] 28)
  have b1 := alloc_below (w := (w.alloc (.cells #[.int .u64 A.1, .int .u64 A.2] 28))) (.cells #[.int .u64 B.1, .int .u64 B.2] 28)
  have c1 := b0.trans (b1.mono b0.size)
  have b2 := alloc_below (w := ((w.alloc (.cells #[.int .u64 A.1, .int .u64 A.2] 28)).alloc (.cells #[.int .u64 B.1, .int .u64 B.2] 28))) (.cells #[.int .u64 C.1, .int .u64 C.2] 28)
  have c2 := c1.trans (b2.mono c1.size)
  exact c2
theorem ptAt3 (w : World) (t : TypeId) {a b c : Int × Int} (ua : U2 a) (ub : U2 b) (uc : U2 c) : PtAt (w.alloc (.cells #[.int .u64 a.1, .int .u64 a.2, .int .u64 b.1, .int .u64 b.2, .int .u64 c.1, .int .u64 c.2] t)) w.heap.size 0 (fun i => [a, b, c].getD i (0, 0)) 3 := by
  have h := Pb.new w t #[.int .u64 a.1, .int .u64 a.2, .int .u64 b.1, .int .u64 b.2, .int .u64 c.1, .int .u64 c.2]
  intro i hi
  rcases (show i = 0 ∨ i = 1 ∨ i = 2 by omega) with rfl | rfl | rfl
  · exact ⟨h.cell 0 rfl, h.cell 1 rfl, ua.1, ua.2⟩
  · exact ⟨h.cell 2 rfl, h.cell 3 rfl, ub.1, ub.2⟩
  · exact ⟨h.cell 4 rfl, h.cell 5 rfl, uc.1, uc.2⟩
theorem fin3_of {a b c : Int × Int} (fa : fin2 a) (fb : fin2 b) (fc : fin2 c) : ∀ i, i < 3 → fin2 ([a, b, c].getD i (0, 0)) := by
  intro i hi
  rcases (show i = 0 ∨ i = 1 ∨ i = 2 by omega) with rfl | rfl | rfl
  · exact fa
  · exact fb
  · exact fc
theorem open3 {w w' : World} {e : Ending} {a b c : Int × Int} (ua : U2 a) (fa : fin2 a) (ub : U2 b) (fb : fin2 b) (uc : U2 c) (fc : fin2 c) (h : SpQ w 3 (fun i => [a, b, c].getD i (0, 0)) e w') : ∃ o, e = .returned (.tuple #[.slice (some ⟨o, 0, none⟩) 3 3, .int .i64 0]) ∧ o < w'.heap.size ∧ w.heap.size ≤ o ∧ S1At w' o 0 1 2 (valR a.1) ∧ S1At w' o 3 4 5 (valR a.2) ∧ S1At w' o 6 7 8 (valR b.1) ∧ S1At w' o 9 10 11 (valR b.2) ∧ S1At w' o 12 13 14 (valR c.1) ∧ S1At w' o 15 16 17 (valR c.2) ∧ Below w.heap.size w w' := by
  rcases h with ⟨_, o, cs, e0, hPb, ho, hsz, hT, hb⟩ | ⟨⟨t, ht, h⟩, _⟩
  · exact ⟨o, e0, hPb.lt, ho, s1At hPb (hT 0 (by omega)) rfl rfl rfl, s1At hPb (hT 1 (by omega)) rfl rfl rfl, s1At hPb (hT 2 (by omega)) rfl rfl rfl, s1At hPb (hT 3 (by omega)) rfl rfl rfl, s1At hPb (hT 4 (by omega)) rfl rfl rfl, s1At hPb (hT 5 (by omega)) rfl rfl rfl, hb⟩
  · exact absurd h (fin_iff.mpr (fin3_of fa fb fc) t ht)
theorem open3_inf {w w' : World} {e : Ending} {a b c : Int × Int} (hf : ¬ (fin2 a ∧ fin2 b ∧ fin2 c)) (h : SpQ w 3 (fun i => [a, b, c].getD i (0, 0)) e w') : e = .returned (.tuple #[.slice none 0 0, .int .i64 220]) ∧ Below w.heap.size w w' := by
  rcases h with ⟨h, _⟩ | ⟨_, e0, hb⟩
  · exact absurd ⟨fin_iff.mp h 0 (by omega), fin_iff.mp h 1 (by omega), fin_iff.mp h 2 (by omega)⟩ hf
  · exact ⟨e0, hb⟩
theorem pts4_below (w : World) (A B C D : Int × Int) : Below w.heap.size w ((((w.alloc (.cells #[.int .u64 A.1, .int .u64 A.2] 28)).alloc (.cells #[.int .u64 B.1, .int .u64 B.2] 28)).alloc (.cells #[.int .u64 C.1, .int .u64 C.2] 28)).alloc (.cells #[.int .u64 D.1, .int .u64 D.2] 28)) := by
  have b0 := alloc_below (w := w) (.cells #[.int .u64 A.1, .int .u64 A.2] 28)
  have b1 := alloc_below (w := (w.alloc (.cells #[.int .u64 A.1, .int .u64 A.2] 28))) (.cells #[.int .u64 B.1, .int .u64 B.2] 28)
  have c1 := b0.trans (b1.mono b0.size)
  have b2 := alloc_below (w := ((w.alloc (.cells #[.int .u64 A.1, .int .u64 A.2] 28)).alloc (.cells #[.int .u64 B.1, .int .u64 B.2] 28))) (.cells #[.int .u64 C.1, .int .u64 C.2] 28)
  have c2 := c1.trans (b2.mono c1.size)
  have b3 := alloc_below (w := (((w.alloc (.cells #[.int .u64 A.1, .int .u64 A.2] 28)).alloc (.cells #[.int .u64 B.1, .int .u64 B.2] 28)).alloc (.cells #[.int .u64 C.1, .int .u64 C.2] 28))) (.cells #[.int .u64 D.1, .int .u64 D.2] 28)
  have c3 := c2.trans (b3.mono c2.size)
  exact c3
theorem ptAt4 (w : World) (t : TypeId) {a b c d : Int × Int} (ua : U2 a) (ub : U2 b) (uc : U2 c) (ud : U2 d) : PtAt (w.alloc (.cells #[.int .u64 a.1, .int .u64 a.2, .int .u64 b.1, .int .u64 b.2, .int .u64 c.1, .int .u64 c.2, .int .u64 d.1, .int .u64 d.2] t)) w.heap.size 0 (fun i => [a, b, c, d].getD i (0, 0)) 4 := by
  have h := Pb.new w t #[.int .u64 a.1, .int .u64 a.2, .int .u64 b.1, .int .u64 b.2, .int .u64 c.1, .int .u64 c.2, .int .u64 d.1, .int .u64 d.2]
  intro i hi
  rcases (show i = 0 ∨ i = 1 ∨ i = 2 ∨ i = 3 by omega) with rfl | rfl | rfl | rfl
  · exact ⟨h.cell 0 rfl, h.cell 1 rfl, ua.1, ua.2⟩
  · exact ⟨h.cell 2 rfl, h.cell 3 rfl, ub.1, ub.2⟩
  · exact ⟨h.cell 4 rfl, h.cell 5 rfl, uc.1, uc.2⟩
  · exact ⟨h.cell 6 rfl, h.cell 7 rfl, ud.1, ud.2⟩
theorem fin4_of {a b c d : Int × Int} (fa : fin2 a) (fb : fin2 b) (fc : fin2 c) (fd : fin2 d) : ∀ i, i < 4 → fin2 ([a, b, c, d].getD i (0, 0)) := by
  intro i hi
  rcases (show i = 0 ∨ i = 1 ∨ i = 2 ∨ i = 3 by omega) with rfl | rfl | rfl | rfl
  · exact fa
  · exact fb
  · exact fc
  · exact fd
theorem open4 {w w' : World} {e : Ending} {a b c d : Int × Int} (ua : U2 a) (fa : fin2 a) (ub : U2 b) (fb : fin2 b) (uc : U2 c) (fc : fin2 c) (ud : U2 d) (fd : fin2 d) (h : SpQ w 4 (fun i => [a, b, c, d].getD i (0, 0)) e w') : ∃ o, e = .returned (.tuple #[.slice (some ⟨o, 0, none⟩) 4 4, .int .i64 0]) ∧ o < w'.heap.size ∧ w.heap.size ≤ o ∧ S1At w' o 0 1 2 (valR a.1) ∧ S1At w' o 3 4 5 (valR a.2) ∧ S1At w' o 6 7 8 (valR b.1) ∧ S1At w' o 9 10 11 (valR b.2) ∧ S1At w' o 12 13 14 (valR c.1) ∧ S1At w' o 15 16 17 (valR c.2) ∧ S1At w' o 18 19 20 (valR d.1) ∧ S1At w' o 21 22 23 (valR d.2) ∧ Below w.heap.size w w' := by
  rcases h with ⟨_, o, cs, e0, hPb, ho, hsz, hT, hb⟩ | ⟨⟨t, ht, h⟩, _⟩
  · exact ⟨o, e0, hPb.lt, ho, s1At hPb (hT 0 (by omega)) rfl rfl rfl, s1At hPb (hT 1 (by omega)) rfl rfl rfl, s1At hPb (hT 2 (by omega)) rfl rfl rfl, s1At hPb (hT 3 (by omega)) rfl rfl rfl, s1At hPb (hT 4 (by omega)) rfl rfl rfl, s1At hPb (hT 5 (by omega)) rfl rfl rfl, s1At hPb (hT 6 (by omega)) rfl rfl rfl, s1At hPb (hT 7 (by omega)) rfl rfl rfl, hb⟩
  · exact absurd h (fin_iff.mpr (fin4_of fa fb fc fd) t ht)
theorem open4_inf {w w' : World} {e : Ending} {a b c d : Int × Int} (hf : ¬ (fin2 a ∧ fin2 b ∧ fin2 c ∧ fin2 d)) (h : SpQ w 4 (fun i => [a, b, c, d].getD i (0, 0)) e w') : e = .returned (.tuple #[.slice none 0 0, .int .i64 220]) ∧ Below w.heap.size w w' := by
  rcases h with ⟨h, _⟩ | ⟨_, e0, hb⟩
  · exact absurd ⟨fin_iff.mp h 0 (by omega), fin_iff.mp h 1 (by omega), fin_iff.mp h 2 (by omega), fin_iff.mp h 3 (by omega)⟩ hf
  · exact ⟨e0, hb⟩
set_option maxHeartbeats 6400000 in
set_option maxRecDepth 100000 in
theorem Order22_inf {w : World} {a b : Int × Int} (ua : U2 a) (ub : U2 b) (hf : ¬ (fin2 a ∧ fin2 b)) :
    Calls Tryz.prog 16 #[.agg #[.int .u64 a.1, .int .u64 a.2], .agg #[.int .u64 b.1, .int .u64 b.2]] w fun e w' => e = .returned (.tuple #[.int .i64 0, .int .i64 220]) ∧ Below w.heap.size w w' := by
  obtain ⟨w0, hw0⟩ : ∃ w0, w0 = (w.alloc (.cells #[.int .u64 a.1, .int .u64 a.2] 28)).alloc (.cells #[.int .u64 b.1, .int .u64 b.2] 28) := ⟨_, rfl⟩
  have hb0 : Below w.heap.size w w0 := by
    subst hw0
    exact pts2_below _ _ _
  have al := alloc_below (w := w0) (.cells #[.int .u64 a.1, .int .u64 a.2, .int .u64 b.1, .int .u64 b.2] 28)
  have hPt := ptAt2 w0 28 ua ub
  have e0 : w0.heap.size = w.heap.size + 1 + 1 := by subst hw0; simp
  rw [e0] at hPt
  have hsp := spots22_any (c := 2) hPt (by rw [← e0]; simp) (by omega)
  have hB1 := hb0.trans (al.mono hb0.size)
  replace hsp := hsp.mono (fun e w' h => open2_inf hf h)
  clear hPt al hb0 e0 hf ua ub
  go_enter Tryz.func16, Tryz.ntmps16
  go_wp2_with fail
  rw [← hw0]
  generalize w0.alloc (.cells #[.int .u64 a.1, .int .u64 a.2, .int .u64 b.1, .int .u64 b.2] 28) = w1 at *
  refine hsp.mono ?_
  rintro e wA ⟨rfl, hbA⟩
  have B2 := hB1.trans (hbA.mono hB1.size)
  clear hsp hw0
  go_wp2
  go_ret2
  exact ⟨rfl, B2⟩
set_option maxHeartbeats 6400000 in
set_option maxRecDepth 100000 in
theorem Order22_fin {w : World} {a b : Int × Int} (ua : U2 a) (ub : U2 b) (fa : fin2 a) (fb : fin2 b) :
    Calls Tryz.prog 16 #[.agg #[.int .u64 a.1, .int .u64 a.2], .agg #[.int .u64 b.1, .int .u64 b.2]] w fun e w' => e = .returned (.tuple #[.int .i64 (ordS (valR a.1) (valR a.2) (valR b.1) (valR b.2)), .int .i64 0]) ∧ Below w.heap.size w w' := by
  obtain ⟨w0, hw0⟩ : ∃ w0, w0 = (w.alloc (.cells #[.int .u64 a.1, .int .u64 a.2] 28)).alloc (.cells #[.int .u64 b.1, .int .u64 b.2] 28) := ⟨_, rfl⟩
  have hb0 : Below w.heap.size w w0 := by
    subst hw0
    exact pts2_below _ _ _
  have al := alloc_below (w := w0) (.cells #[.int .u64 a.1, .int .u64 a.2, .int .u64 b.1, .int .u64 b.2] 28)
  have hPt := ptAt2 w0 28 ua ub
  have e0 : w0.heap.size = w.heap.size + 1 + 1 := by subst hw0; simp
  rw [e0] at hPt
  have hsp := spots22_any (c := 2) hPt (by rw [← e0]; simp) (by omega)
  have hB1 := hb0.trans (al.mono hb0.size)
  have z0 := value_size ua.1 fa.1
  have z1 := value_size ua.2 fa.2
  have z2 := value_size ub.1 fb.1
  have z3 := value_size ub.2 fb.2
  replace hsp := hsp.mono (fun e w' h => open2 ua fa ub fb h)
  clear hPt al hb0 e0 ua fa ub fb
  generalize valR a.1 = v0 at *
  generalize valR a.2 = v1 at *
  generalize valR b.1 = v2 at *
  generalize valR b.2 = v3 at *
  go_enter Tryz.func16, Tryz.ntmps16
  go_wp2_with fail
  rw [← hw0]
  generalize w0.alloc (.cells #[.int .u64 a.1, .int .u64 a.2, .int .u64 b.1, .int .u64 b.2] 28) = w1 at *
  refine hsp.mono ?_
  rintro e wA ⟨o, rfl, lo, go, A0, A1, A2, A3, hbA⟩
  have B2 := hB1.trans (hbA.mono hB1.size)
  clear hsp hw0 go
  obtain ⟨s0, a0, n0, c0, b0, m0, d0, ⟨y00, y01, y02⟩, R0⟩ := A0
  obtain ⟨s1, a1, n1, c1, b1, m1, d1, ⟨y10, y11, y12⟩, R1⟩ := A1
  obtain ⟨s2, a2, n2, c2, b2, m2, d2, ⟨y20, y21, y22⟩, R2⟩ := A2
  obtain ⟨s3, a3, n3, c3, b3, m3, d3, ⟨y30, y31, y32⟩, R3⟩ := A3
  go_wp2
  have hcl : ∀ w', Below wA.heap.size wA w' → w'.cell? ⟨o, 0, none⟩ = some (.bool s0) ∧ w'.cell? ⟨o, 1, none⟩ = some (.slice a0 n0 c0) ∧ w'.cell? ⟨o, 2, none⟩ = some (.slice b0 m0 d0) ∧ w'.cell? ⟨o, 3, none⟩ = some (.bool s1) ∧ w'.cell? ⟨o, 4, none⟩ = some (.slice a1 n1 c1) ∧ w'.cell? ⟨o, 5, none⟩ = some (.slice b1 m1 d1) ∧ w'.cell? ⟨o, 6, none⟩ = some (.bool s2) ∧ w'.cell? ⟨o, 7, none⟩ = some (.slice a2 n2 c2) ∧ w'.cell? ⟨o, 8, none⟩ = some (.slice b2 m2 d2) ∧ w'.cell? ⟨o, 9, none⟩ = some (.bool s3) ∧ w'.cell? ⟨o, 10, none⟩ = some (.slice a3 n3 c3) ∧ w'.cell? ⟨o, 11, none⟩ = some (.slice b3 m3 d3) := fun w' h => ⟨(h.cell (p := ⟨o, 0, none⟩) lo).trans y00, (h.cell (p := ⟨o, 1, none⟩) lo).trans y01, (h.cell (p := ⟨o, 2, none⟩) lo).trans y02, (h.cell (p := ⟨o, 3, none⟩) lo).trans y10, (h.cell (p := ⟨o, 4, none⟩) lo).trans y11, (h.cell (p := ⟨o, 5, none⟩) lo).trans y12, (h.cell (p := ⟨o, 6, none⟩) lo).trans y20, (h.cell (p := ⟨o, 7, none⟩) lo).trans y21, (h.cell (p := ⟨o, 8, none⟩) lo).trans y22, (h.cell (p := ⟨o, 9, none⟩) lo).trans y30, (h.cell (p := ⟨o, 10, none⟩) lo).trans y31, (h.cell (p := ⟨o, 11, none⟩) lo).trans y32⟩
  go_region_held3 (fun w' => w'.cell? ⟨o, 0, none⟩ = some (.bool s0) ∧ w'.cell? ⟨o, 1, none⟩ = some (.slice a0 n0 c0) ∧ w'.cell? ⟨o, 2, none⟩ = some (.slice b0 m0 d0) ∧ w'.cell? ⟨o, 3, none⟩ = some (.bool s1) ∧ w'.cell? ⟨o, 4, none⟩ = some (.slice a1 n1 c1) ∧ w'.cell? ⟨o, 5, none⟩ = some (.slice b1 m1 d1) ∧ w'.cell? ⟨o, 6, none⟩ = some (.bool s2) ∧ w'.cell? ⟨o, 7, none⟩ = some (.slice a2 n2 c2) ∧ w'.cell? ⟨o, 8, none⟩ = some (.slice b2 m2 d2) ∧ w'.cell? ⟨o, 9, none⟩ = some (.bool s3) ∧ w'.cell? ⟨o, 10, none⟩ = some (.slice a3 n3 c3) ∧ w'.cell? ⟨o, 11, none⟩ = some (.slice b3 m3 d3)) (go_keep) ((go_at_call 33; refine (order22_at R0 R1 R2 R3 z0 z1 z2 z3 (by omega) (by first | exact Below.refl _ _ | exact below_drewN (Below.refl _ _) _)).mono ?_; rintro e wX ⟨rfl, hbX⟩; obtain ⟨y00, y01, y02, y10, y11, y12, y20, y21, y22, y30, y31, y32⟩ := hcl wX hbX))
  go_wp2
  go_ret2
  exact ⟨rfl, B2.trans (hbX.mono B2.size)⟩
set_option maxHeartbeats 6400000 in
set_option maxRecDepth 100000 in
theorem Orient22_inf {w : World} {a b c : Int × Int} (ua : U2 a) (ub : U2 b) (uc : U2 c) (hf : ¬ (fin2 a ∧ fin2 b ∧ fin2 c)) :
    Calls Tryz.prog 7 #[.agg #[.int .u64 a.1, .int .u64 a.2], .agg #[.int .u64 b.1, .int .u64 b.2], .agg #[.int .u64 c.1, .int .u64 c.2]] w fun e w' => e = .returned (.tuple #[.int .i64 0, .int .i64 220]) ∧ Below w.heap.size w w' := by
  obtain ⟨w0, hw0⟩ : ∃ w0, w0 = ((w.alloc (.cells #[.int .u64 a.1, .int .u64 a.2] 28)).alloc (.cells #[.int .u64 b.1, .int .u64 b.2] 28)).alloc (.cells #[.int .u64 c.1, .int .u64 c.2] 28) := ⟨_, rfl⟩
  have hb0 : Below w.heap.size w w0 := by
    subst hw0
    exact pts3_below _ _ _ _
  have al := alloc_below (w := w0) (.cells #[.int .u64 a.1, .int .u64 a.2, .int .u64 b.1, .int .u64 b.2, .int .u64 c.1, .int .u64 c.2] 28)
  have hPt := ptAt3 w0 28 ua ub uc
  have e0 : w0.heap.size = w.heap.size + 1 + 1 + 1 := by subst hw0; simp
  rw [e0] at hPt
  have hsp := spots22_any (c := 3) hPt (by rw [← e0]; simp) (by omega)
  have hB1 := hb0.trans (al.mono hb0.size)
  replace hsp := hsp.mono (fun e w' h => open3_inf hf h)
  clear hPt al hb0 e0 hf ua ub uc
  go_enter Tryz.func7, Tryz.ntmps7
  go_wp2_with fail
  rw [← hw0]
  generalize w0.alloc (.cells #[.int .u64 a.1, .int .u64 a.2, .int .u64 b.1, .int .u64 b.2, .int .u64 c.1, .int .u64 c.2] 28) = w1 at *
  refine hsp.mono ?_
  rintro e wA ⟨rfl, hbA⟩
  have B2 := hB1.trans (hbA.mono hB1.size)
  clear hsp hw0
  go_wp2
  go_ret2
  exact ⟨rfl, B2⟩
set_option maxHeartbeats 6400000 in
set_option maxRecDepth 100000 in
theorem Orient22_fin {w : World} {a b c : Int × Int} (ua : U2 a) (ub : U2 b) (uc : U2 c) (fa : fin2 a) (fb : fin2 b) (fc : fin2 c) :
    Calls Tryz.prog 7 #[.agg #[.int .u64 a.1, .int .u64 a.2], .agg #[.int .u64 b.1, .int .u64 b.2], .agg #[.int .u64 c.1, .int .u64 c.2]] w fun e w' => e = .returned (.tuple #[.int .i64 (sgnR (crR (valR a.1) (valR a.2) (valR b.1) (valR b.2) (valR c.1) (valR c.2))), .int .i64 0]) ∧ Below w.heap.size w w' := by
  obtain ⟨w0, hw0⟩ : ∃ w0, w0 = ((w.alloc (.cells #[.int .u64 a.1, .int .u64 a.2] 28)).alloc (.cells #[.int .u64 b.1, .int .u64 b.2] 28)).alloc (.cells #[.int .u64 c.1, .int .u64 c.2] 28) := ⟨_, rfl⟩
  have hb0 : Below w.heap.size w w0 := by
    subst hw0
    exact pts3_below _ _ _ _
  have al := alloc_below (w := w0) (.cells #[.int .u64 a.1, .int .u64 a.2, .int .u64 b.1, .int .u64 b.2, .int .u64 c.1, .int .u64 c.2] 28)
  have hPt := ptAt3 w0 28 ua ub uc
  have e0 : w0.heap.size = w.heap.size + 1 + 1 + 1 := by subst hw0; simp
  rw [e0] at hPt
  have hsp := spots22_any (c := 3) hPt (by rw [← e0]; simp) (by omega)
  have hB1 := hb0.trans (al.mono hb0.size)
  have z0 := value_size ua.1 fa.1
  have z1 := value_size ua.2 fa.2
  have z2 := value_size ub.1 fb.1
  have z3 := value_size ub.2 fb.2
  have z4 := value_size uc.1 fc.1
  have z5 := value_size uc.2 fc.2
  replace hsp := hsp.mono (fun e w' h => open3 ua fa ub fb uc fc h)
  clear hPt al hb0 e0 ua fa ub fb uc fc
  generalize valR a.1 = v0 at *
  generalize valR a.2 = v1 at *
  generalize valR b.1 = v2 at *
  generalize valR b.2 = v3 at *
  generalize valR c.1 = v4 at *
  generalize valR c.2 = v5 at *
  go_enter Tryz.func7, Tryz.ntmps7
  go_wp2_with fail
  rw [← hw0]
  generalize w0.alloc (.cells #[.int .u64 a.1, .int .u64 a.2, .int .u64 b.1, .int .u64 b.2, .int .u64 c.1, .int .u64 c.2] 28) = w1 at *
  refine hsp.mono ?_
  rintro e wA ⟨o, rfl, lo, go, A0, A1, A2, A3, A4, A5, hbA⟩
  have B2 := hB1.trans (hbA.mono hB1.size)
  clear hsp hw0 go
  obtain ⟨s0, a0, n0, c0, b0, m0, d0, ⟨y00, y01, y02⟩, R0⟩ := A0
  obtain ⟨s1, a1, n1, c1, b1, m1, d1, ⟨y10, y11, y12⟩, R1⟩ := A1
  obtain ⟨s2, a2, n2, c2, b2, m2, d2, ⟨y20, y21, y22⟩, R2⟩ := A2
  obtain ⟨s3, a3, n3, c3, b3, m3, d3, ⟨y30, y31, y32⟩, R3⟩ := A3
  obtain ⟨s4, a4, n4, c4, b4, m4, d4, ⟨y40, y41, y42⟩, R4⟩ := A4
  obtain ⟨s5, a5, n5, c5, b5, m5, d5, ⟨y50, y51, y52⟩, R5⟩ := A5
  go_wp2
  have hcl : ∀ w', Below wA.heap.size wA w' → w'.cell? ⟨o, 0, none⟩ = some (.bool s0) ∧ w'.cell? ⟨o, 1, none⟩ = some (.slice a0 n0 c0) ∧ w'.cell? ⟨o, 2, none⟩ = some (.slice b0 m0 d0) ∧ w'.cell? ⟨o, 3, none⟩ = some (.bool s1) ∧ w'.cell? ⟨o, 4, none⟩ = some (.slice a1 n1 c1) ∧ w'.cell? ⟨o, 5, none⟩ = some (.slice b1 m1 d1) ∧ w'.cell? ⟨o, 6, none⟩ = some (.bool s2) ∧ w'.cell? ⟨o, 7, none⟩ = some (.slice a2 n2 c2) ∧ w'.cell? ⟨o, 8, none⟩ = some (.slice b2 m2 d2) ∧ w'.cell? ⟨o, 9, none⟩ = some (.bool s3) ∧ w'.cell? ⟨o, 10, none⟩ = some (.slice a3 n3 c3) ∧ w'.cell? ⟨o, 11, none⟩ = some (.slice b3 m3 d3) ∧ w'.cell? ⟨o, 12, none⟩ = some (.bool s4) ∧ w'.cell? ⟨o, 13, none⟩ = some (.slice a4 n4 c4) ∧ w'.cell? ⟨o, 14, none⟩ = some (.slice b4 m4 d4) ∧ w'.cell? ⟨o, 15, none⟩ = some (.bool s5) ∧ w'.cell? ⟨o, 16, none⟩ = some (.slice a5 n5 c5) ∧ w'.cell? ⟨o, 17, none⟩ = some (.slice b5 m5 d5) := fun w' h => ⟨(h.cell (p := ⟨o, 0, none⟩) lo).trans y00, (h.cell (p := ⟨o, 1, none⟩) lo).trans y01, (h.cell (p := ⟨o, 2, none⟩) lo).trans y02, (h.cell (p := ⟨o, 3, none⟩) lo).trans y10, (h.cell (p := ⟨o, 4, none⟩) lo).trans y11, (h.cell (p := ⟨o, 5, none⟩) lo).trans y12, (h.cell (p := ⟨o, 6, none⟩) lo).trans y20, (h.cell (p := ⟨o, 7, none⟩) lo).trans y21, (h.cell (p := ⟨o, 8, none⟩) lo).trans y22, (h.cell (p := ⟨o, 9, none⟩) lo).trans y30, (h.cell (p := ⟨o, 10, none⟩) lo).trans y31, (h.cell (p := ⟨o, 11, none⟩) lo).trans y32, (h.cell (p := ⟨o, 12, none⟩) lo).trans y40, (h.cell (p := ⟨o, 13, none⟩) lo).trans y41, (h.cell (p := ⟨o, 14, none⟩) lo).trans y42, (h.cell (p := ⟨o, 15, none⟩) lo).trans y50, (h.cell (p := ⟨o, 16, none⟩) lo).trans y51, (h.cell (p := ⟨o, 17, none⟩) lo).trans y52⟩
  go_region_held3 (fun w' => w'.cell? ⟨o, 0, none⟩ = some (.bool s0) ∧ w'.cell? ⟨o, 1, none⟩ = some (.slice a0 n0 c0) ∧ w'.cell? ⟨o, 2, none⟩ = some (.slice b0 m0 d0) ∧ w'.cell? ⟨o, 3, none⟩ = some (.bool s1) ∧ w'.cell? ⟨o, 4, none⟩ = some (.slice a1 n1 c1) ∧ w'.cell? ⟨o, 5, none⟩ = some (.slice b1 m1 d1) ∧ w'.cell? ⟨o, 6, none⟩ = some (.bool s2) ∧ w'.cell? ⟨o, 7, none⟩ = some (.slice a2 n2 c2) ∧ w'.cell? ⟨o, 8, none⟩ = some (.slice b2 m2 d2) ∧ w'.cell? ⟨o, 9, none⟩ = some (.bool s3) ∧ w'.cell? ⟨o, 10, none⟩ = some (.slice a3 n3 c3) ∧ w'.cell? ⟨o, 11, none⟩ = some (.slice b3 m3 d3) ∧ w'.cell? ⟨o, 12, none⟩ = some (.bool s4) ∧ w'.cell? ⟨o, 13, none⟩ = some (.slice a4 n4 c4) ∧ w'.cell? ⟨o, 14, none⟩ = some (.slice b4 m4 d4) ∧ w'.cell? ⟨o, 15, none⟩ = some (.bool s5) ∧ w'.cell? ⟨o, 16, none⟩ = some (.slice a5 n5 c5) ∧ w'.cell? ⟨o, 17, none⟩ = some (.slice b5 m5 d5)) (go_keep) ((go_at_call 27; refine (turn22_at R0 R1 R2 R3 R4 R5 z0 z1 z2 z3 z4 z5 (by omega) (by first | exact Below.refl _ _ | exact below_drewN (Below.refl _ _) _)).mono ?_; rintro e wX ⟨rfl, hbX⟩; obtain ⟨y00, y01, y02, y10, y11, y12, y20, y21, y22, y30, y31, y32, y40, y41, y42, y50, y51, y52⟩ := hcl wX hbX))
  go_wp2
  go_ret2
  exact ⟨rfl, B2.trans (hbX.mono B2.size)⟩
end Go.Proofs.YtbonkgmcpjaepaaGreat

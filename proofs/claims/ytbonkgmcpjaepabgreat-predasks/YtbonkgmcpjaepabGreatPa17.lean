import Derived.Deep.RegionHeld3
import Derived.Deep.QuietTactic
import Derived.BigQuiet
import Derived.Deep.DeepCutAuto
import Derived.Below
import Derived.BigRegion
import Derived.ChangeOld
import Derived.Deep.DeepFit
import Derived.Deep.LoopGhost
import Derived.Deep.RegionLaw
import Derived.Deep.RegionWith
import Derived.Defers
import Derived.KernelRfl
import Derived.Laws.BitsAllLaws
import Derived.Laws.CopyRow
import Derived.Laws.EntriesVeiled
import Derived.Laws.IdiomCopy
import Derived.Laws.IdiomRangeMap
import Derived.OpenShut
import Derived.Orders
import Derived.OwnWalk
import Derived.ProofKit
import Derived.Recover
import Derived.Scope
import Derived.ShutString
import Derived.WalkKit
import Derived.WalkLawsBesides
import Derived.WalkMore
import Derived.WalkSpells
import Derived.Test.YtbonkgmcpjaepabGreatPa4
import Derived.Test.YtbonkgmcpjaepabGreatPa5
import Derived.Test.YtbonkgmcpjaepabGreatPa8
import Derived.Test.YtbonkgmcpjaepabGreatPa11
import Derived.Test.YtbonkgmcpjaepabGreatPa15
import Derived.Test.YtbonkgmcpjaepabGreatPa16
/- plumbref22: whole numbers with a sign, in memory. -/
namespace Go.Proofs.YtbonkgmcpjaepabGreat
open Go.ChangeShapes Go.WideShapes Go.ChangeAt Go.RowKit
open Na Ar
set_option linter.unusedVariables false
/-- a whole number with a sign in memory of its own, of fewer than k + 1 words -/
def ZO (w : World) (base : Nat) (s : Bool) (v : Value) (z : Int) (k : Nat) : Prop := ∃ N : Int, Own .u64 w base 32 v (words N) ∧ Lt N k ∧ sg s N = z
/-- one that may be read -/
def Zr (w : World) (s : Bool) (a : Option Addr) (n c : Nat) (z : Int) (k : Nat) : Prop := ∃ N : Int, RowC w a n c (words N) ∧ Lt N k ∧ sg s N = z
theorem ZO.opens {w : World} {base : Nat} {s : Bool} {v : Value} {z : Int} {k : Nat} (h : ZO w base s v z k) : ∃ a n c, v = .slice a n c ∧ Zr w s a n c z k := by
  obtain ⟨N, ho, hl, hz⟩ := h
  obtain ⟨a, c, rfl, hr⟩ := ho.readsC
  exact ⟨a, _, c, rfl, N, hr, hl, hz⟩
theorem ZO.zr {w : World} {base : Nat} {s : Bool} {a : Option Addr} {n c : Nat} {z : Int} {k : Nat} (h : ZO w base s (.slice a n c) z k) : Zr w s a n c z k := by
  obtain ⟨a', n', c', e, hr⟩ := h.opens
  simp only [Value.slice.injEq] at e
  obtain ⟨rfl, rfl, rfl⟩ := e
  exact hr
theorem Zr.later {w w' : World} {s : Bool} {a : Option Addr} {n c : Nat} {z : Int} {k : Nat} (h : Zr w s a n c z k) (hb : Below w.heap.size w w') : Zr w' s a n c z k := by
  obtain ⟨N, hr, hl, hz⟩ := h
  exact ⟨N, hr.later hb, hl, hz⟩
theorem ZO.later {w w' : World} {base : Nat} {s : Bool} {v : Value} {z : Int} {k : Nat} (h : ZO w base s v z k) (hb : Below w.heap.size w w') : ZO w' base s v z k := by
  obtain ⟨N, hr, hl, hz⟩ := h
  exact ⟨N, hr.later hb, hl, hz⟩
theorem ZO.lower {w : World} {base base' : Nat} {s : Bool} {v : Value} {z : Int} {k : Nat} (h : ZO w base s v z k) (hb : base' ≤ base) : ZO w base' s v z k := by
  obtain ⟨N, hr, hl, hz⟩ := h
  exact ⟨N, hr.wider hb, hl, hz⟩
theorem ZO.inn {w w' : World} {base g : Nat} {s : Bool} {v : Value} {z : Int} {k : Nat} (h : ZO w base s v z k) (hi : In g (g + 1) w w') (hg : g < base) : ZO w' base s v z k := by
  obtain ⟨N, hr, hl, hz⟩ := h
  exact ⟨N, own_inn hr hi hg, hl, hz⟩
theorem Zr.parts {w : World} {s : Bool} {a : Option Addr} {n c : Nat} {z : Int} {k : Nat} (h : Zr w s a n c z k) : ∃ N : Int, RowAt .u64 w a n (words N) ∧ Ws (words N) ∧ n ≤ k ∧ num (words N) = N ∧ Lt N k ∧ sg s N = z := by
  obtain ⟨N, hr, hl, hz⟩ := h
  exact ⟨N, hr.1, Dg_words N, by rw [← hr.1.1]; exact hl.len, num_words hl.1, hl, hz⟩
theorem Zr.neg {w : World} {s : Bool} {a : Option Addr} {n c : Nat} {z : Int} {k : Nat} (h : Zr w s a n c z k) : Zr w (!s) a n c (-z) k := by
  obtain ⟨N, hr, hl, hz⟩ := h
  refine ⟨N, hr, hl, ?_⟩
  rw [← hz]; cases s <;> simp [sg]
/-- a call's answer: a whole number -/
def ZQ (w : World) (z : Int) (k : Nat) (e : Ending) (w' : World) : Prop := ∃ s a n c, e = .returned (.agg #[.bool s, .slice a n c]) ∧ ZO w' w.heap.size s (.slice a n c) z k ∧ Below w.heap.size w w'
/-- a call's answer: a place -/
def PQ (w : World) (x y : Int) (k : Nat) (e : Ending) (w' : World) : Prop := ∃ s a n c t b m d, e = .returned (.agg #[.bool s, .slice a n c, .bool t, .slice b m d]) ∧ ZO w' w.heap.size s (.slice a n c) x k ∧ ZO w' w.heap.size t (.slice b m d) y k ∧ Below w.heap.size w w'
theorem zcells {w : World} {g : Nat} {t : TypeId} {y0 y1 : Value} (h : Pb w g t #[y0, y1]) : w.cell? ⟨g, 0, none⟩ = some y0 ∧ w.cell? ⟨g, 1, none⟩ = some y1 := ⟨h.cell 0 rfl, h.cell 1 rfl⟩
theorem pcells {w : World} {g : Nat} {t : TypeId} {y0 y1 y2 y3 : Value} (h : Pb w g t #[y0, y1, y2, y3]) : w.cell? ⟨g, 0, none⟩ = some y0 ∧ w.cell? ⟨g, 1, none⟩ = some y1 ∧ w.cell? ⟨g, 2, none⟩ = some y2 ∧ w.cell? ⟨g, 3, none⟩ = some y3 := ⟨h.cell 0 rfl, h.cell 1 rfl, h.cell 2 rfl, h.cell 3 rfl⟩
theorem zfrozen {w : World} {g : Nat} {t : TypeId} {y0 y1 : Value} (h : Pb w g t #[y0, y1]) : w.frozen? ⟨g, 0, none⟩ = false ∧ w.frozen? ⟨g, 1, none⟩ = false := ⟨h.frozen _, h.frozen _⟩
theorem pfrozen {w : World} {g : Nat} {t : TypeId} {y0 y1 y2 y3 : Value} (h : Pb w g t #[y0, y1, y2, y3]) : w.frozen? ⟨g, 0, none⟩ = false ∧ w.frozen? ⟨g, 1, none⟩ = false ∧ w.frozen? ⟨g, 2, none⟩ = false ∧ w.frozen? ⟨g, 3, none⟩ = false := ⟨h.frozen _, h.frozen _, h.frozen _, h.frozen _⟩
theorem sg_mul (s t : Bool) (A B : Int) : sg (s != t) (A * B) = sg s A * sg t B := by
  cases s <;> cases t <;> simp [sg, Int.neg_mul, Int.mul_neg]
theorem sg_add (s : Bool) (A B : Int) : sg s (A + B) = sg s A + sg s B := by
  cases s <;> simp [sg] <;> omega
/-- the blocks of a call: one row of cells behind the other -/
theorem blocks2 (w : World) (A B : Array Value) (t1 t2 : TypeId) : ∃ w0, w0 = (w.alloc (.cells A t1)).alloc (.cells B t2) ∧ Pb w0 w.heap.size t1 A ∧ Pb w0 (w.heap.size + 1) t2 B ∧ Below w.heap.size w w0 ∧ w0.heap.size = w.heap.size + 1 + 1 := by
  have b1 := alloc_below (w := w) (.cells A t1)
  have b2 := alloc_below (w := w.alloc (.cells A t1)) (.cells B t2)
  have p1 := Pb.new w t1 A
  have p2 := Pb.new (w.alloc (.cells A t1)) t2 B
  have e : (w.alloc (.cells A t1)).heap.size = w.heap.size + 1 := by simp
  rw [e] at p2
  exact ⟨_, rfl, p1.later b2, p2, b1.trans (b2.mono b1.size), by simp⟩
theorem blocks3 (w : World) (A B C : Array Value) (t1 t2 t3 : TypeId) : ∃ w0, w0 = ((w.alloc (.cells A t1)).alloc (.cells B t2)).alloc (.cells C t3) ∧ Pb w0 w.heap.size t1 A ∧ Pb w0 (w.heap.size + 1) t2 B ∧ Pb w0 (w.heap.size + 1 + 1) t3 C ∧ Below w.heap.size w w0 ∧ w0.heap.size = w.heap.size + 1 + 1 + 1 := by
  obtain ⟨w1, rfl, p1, p2, b, e⟩ := blocks2 w A B t1 t2
  have b3 := alloc_below (w := (w.alloc (.cells A t1)).alloc (.cells B t2)) (.cells C t3)
  have p3 := Pb.new ((w.alloc (.cells A t1)).alloc (.cells B t2)) t3 C
  rw [e] at p3
  exact ⟨_, rfl, p1.later b3, p2.later b3, p3, b.trans (b3.mono b.size), by simp⟩
theorem blocks4 (w : World) (A B C D : Array Value) (t1 t2 t3 t4 : TypeId) : ∃ w0, w0 = (((w.alloc (.cells A t1)).alloc (.cells B t2)).alloc (.cells C t3)).alloc (.cells D t4) ∧ Pb w0 w.heap.size t1 A ∧ Pb w0 (w.heap.size + 1) t2 B ∧ Pb w0 (w.heap.size + 1 + 1) t3 C ∧ Pb w0 (w.heap.size + 1 + 1 + 1) t4 D ∧ Below w.heap.size w w0 ∧ w0.heap.size = w.heap.size + 1 + 1 + 1 + 1 := by
  obtain ⟨w1, rfl, p1, p2, p3, b, e⟩ := blocks3 w A B C t1 t2 t3
  have b4 := alloc_below (w := ((w.alloc (.cells A t1)).alloc (.cells B t2)).alloc (.cells C t3)) (.cells D t4)
  have p4 := Pb.new (((w.alloc (.cells A t1)).alloc (.cells B t2)).alloc (.cells C t3)) t4 D
  rw [e] at p4
  exact ⟨_, rfl, p1.later b4, p2.later b4, p3.later b4, p4, b.trans (b4.mono b.size), by simp⟩
end Go.Proofs.YtbonkgmcpjaepabGreat

/- plumbref03's sums and products of whole numbers with a sign; plumbref22: Mul, Add, Sub, Sign. -/
namespace Go.Proofs.YtbonkgmcpjaepabGreat
open Go.ChangeShapes Go.WideShapes Go.ChangeAt Go.RowKit
open Na Ar
set_option linter.unusedVariables false
section
variable {w0 w : World} {s1 s2 : Bool} {a1 a2 : Option Addr} {n1 c1 n2 c2 k l : Nat} {x y : Int}
theorem rMul_at (h1 : Zr w0 s1 a1 n1 c1 x k) (h2 : Zr w0 s2 a2 n2 c2 y l) (hk : k ≤ 100000) (hl : l ≤ 100000) (h : Below w0.heap.size w0 w) :
    Calls Tryz.prog 72 #[.slice a1 n1 c1, .slice a2 n2 c2] w fun e w' => ∃ a n c, e = .returned (.slice a n c) ∧ ZO w' w0.heap.size (!(s1 == s2)) (.slice a n c) (x * y) (k + l) ∧ w.heap.size ≤ w'.heap.size ∧ Below w0.heap.size w0 w' := by
  obtain ⟨N, r1, d1, e1, v1, l1, z1⟩ := (h1.later h).parts
  obtain ⟨M, r2, d2, e2, v2, l2, z2⟩ := (h2.later h).parts
  refine (ref3Mul_any (c1 := c1) (c2 := c2) r1 r2 d1 d2 (by omega) (by omega)).mono ?_
  rintro e w' ⟨v, rfl, ho, hb⟩
  rw [v1, v2] at ho
  obtain ⟨a, c, rfl, _⟩ := ho.readsC
  exact ⟨a, _, c, rfl, ⟨_, ho.wider h.size, l1.mul l2, by rw [show (!(s1 == s2)) = (s1 != s2) from rfl, sg_mul, z1, z2]⟩, hb.size, h.trans (hb.mono h.size)⟩
theorem rAdd_at (h1 : Zr w0 s1 a1 n1 c1 x k) (h2 : Zr w0 s1 a2 n2 c2 y l) (hk : k ≤ 100000) (hl : l ≤ 100000) (h : Below w0.heap.size w0 w) :
    Calls Tryz.prog 73 #[.slice a1 n1 c1, .slice a2 n2 c2] w fun e w' => ∃ a n c, e = .returned (.slice a n c) ∧ ZO w' w0.heap.size s1 (.slice a n c) (x + y) (k + l + 1) ∧ w.heap.size ≤ w'.heap.size ∧ Below w0.heap.size w0 w' := by
  obtain ⟨N, r1, d1, e1, v1, l1, z1⟩ := (h1.later h).parts
  obtain ⟨M, r2, d2, e2, v2, l2, z2⟩ := (h2.later h).parts
  refine (ref3Add_any (c1 := c1) (c2 := c2) r1 r2 d1 d2 (by omega) (by omega)).mono ?_
  rintro e w' ⟨v, rfl, ho, hb⟩
  rw [v1, v2] at ho
  obtain ⟨a, c, rfl, _⟩ := ho.readsC
  exact ⟨a, _, c, rfl, ⟨_, ho.wider h.size, l1.add l2, by rw [sg_add, z1, z2]⟩, hb.size, h.trans (hb.mono h.size)⟩
theorem rSub_at (h1 : Zr w0 s1 a1 n1 c1 x k) (h2 : Zr w0 (!s1) a2 n2 c2 y l) (hle : y.natAbs ≤ x.natAbs) (hk : k ≤ 100000) (hl : l ≤ 100000) (h : Below w0.heap.size w0 w) :
    Calls Tryz.prog 75 #[.slice a1 n1 c1, .slice a2 n2 c2] w fun e w' => ∃ a n c, e = .returned (.slice a n c) ∧ ZO w' w0.heap.size s1 (.slice a n c) (x + y) k ∧ w.heap.size ≤ w'.heap.size ∧ Below w0.heap.size w0 w' := by
  obtain ⟨N, r1, d1, e1, v1, l1, z1⟩ := (h1.later h).parts
  obtain ⟨M, r2, d2, e2, v2, l2, z2⟩ := (h2.later h).parts
  have hN : (N : Int) = x.natAbs := by rw [← z1]; have := l1.1; cases s1 <;> simp [sg] <;> omega
  have hM : (M : Int) = y.natAbs := by rw [← z2]; have := l2.1; cases s1 <;> simp [sg] <;> omega
  have hMN : M ≤ N := by omega
  have hlen : n2 ≤ n1 := by rw [← r1.1, ← r2.1]; exact words_mono l2.1 hMN
  refine (ref3Sub_any (c1 := c1) (c2 := c2) r1 r2 d1 d2 (by omega) hlen (by rw [v1, v2]; exact hMN)).mono ?_
  rintro e w' ⟨v, rfl, ho, hb⟩
  rw [v1, v2] at ho
  obtain ⟨a, c, rfl, _⟩ := ho.readsC
  refine ⟨a, _, c, rfl, ⟨_, ho.wider h.size, l1.le (by omega) (by have := l2.1; omega), ?_⟩, hb.size, h.trans (hb.mono h.size)⟩
  rw [← z1, ← z2]; cases s1 <;> simp [sg] <;> omega
theorem rCmp_at (h1 : Zr w0 s1 a1 n1 c1 x k) (h2 : Zr w0 s2 a2 n2 c2 y l) (hk : k ≤ 100000) (hl : l ≤ 100000) :
    Calls Tryz.prog 74 #[.slice a1 n1 c1, .slice a2 n2 c2] w0 fun e w' => e = .returned (.int .i64 (ordN (x.natAbs : Int) (y.natAbs : Int))) ∧ w0 = w' := by
  obtain ⟨N, r1, d1, e1, v1, l1, z1⟩ := h1.parts
  obtain ⟨M, r2, d2, e2, v2, l2, z2⟩ := h2.parts
  have hN : (N : Int) = x.natAbs := by rw [← z1]; have := l1.1; cases s1 <;> simp [sg] <;> omega
  have hM : (M : Int) = y.natAbs := by rw [← z2]; have := l2.1; cases s2 <;> simp [sg] <;> omega
  have f := ref3Cmp_any (c1 := c1) (c2 := c2) r1 r2 d1 d2 (by omega) (by omega)
  rw [v1, v2, hN, hM] at f
  exact f
theorem rBits_at (h1 : Zr w0 s1 a1 n1 c1 x k) (hk : k ≤ 100000) :
    Calls Tryz.prog 61 #[.slice a1 n1 c1] w0 fun e w' => e = .returned (.int .i64 (bitsN (x.natAbs : Int))) ∧ w0 = w' := by
  obtain ⟨N, r1, d1, e1, v1, l1, z1⟩ := h1.parts
  have hN : (N : Int) = x.natAbs := by rw [← z1]; have := l1.1; cases s1 <;> simp [sg] <;> omega
  have f := ref3Bits_any (cap := c1) r1 d1 (by omega)
  rw [v1, hN] at f
  exact f
theorem Zr.sgn {w : World} {s : Bool} {a : Option Addr} {n c : Nat} {z : Int} {k : Nat} (h : Zr w s a n c z k) (hz : z ≠ 0) : s = decide (z < 0) := by
  obtain ⟨N, _, hl, e⟩ := h
  have := hl.1
  cases s
  · exact (decide_eq_false (by rw [← e]; simp [sg]; omega)).symm
  · refine (decide_eq_true ?_).symm
    have h2 : z = -N := by rw [← e]; rfl
    omega
end
set_option maxRecDepth 100000 in
theorem zSign_any {w : World} {s : Bool} {a : Option Addr} {n c : Nat} {z : Int} {k : Nat} (h1 : Zr w s a n c z k) (hk : k ≤ 100000) :
    Calls Tryz.prog 29 #[.agg #[.bool s, .slice a n c]] w fun e w' => e = .returned (.int .i64 (sgI z)) ∧ Below w.heap.size w w' := by
  have b1 := alloc_below (w := w) (.cells #[.bool s, .slice a n c] 67)
  have p1 := Pb.new w 67 #[.bool s, .slice a n c]
  obtain ⟨i0, i1⟩ := zcells p1
  have f := rBits_at (h1.later b1) hk
  have hs := h1.sgn
  obtain ⟨B, hB⟩ : ∃ B, B = bitsN (z.natAbs : Int) := ⟨_, rfl⟩
  have hB0 : B = 0 ↔ z = 0 := by
    constructor
    · intro e
      by_cases g : z = 0
      · exact g
      · obtain ⟨b, hb, _, _⟩ := bits_some (N := (z.natAbs : Int)) (by omega)
        omega
    · rintro rfl; rw [hB]; exact bits_none
  rw [← hB] at f
  clear hB h1
  go_enter Tryz.func29, Tryz.ntmps29
  go_wp2_with fail
  refine f.mono ?_
  rintro e w' ⟨rfl, rfl⟩
  clear f
  by_cases h0 : z = 0
  · have t1 : (B == 0) = true := beq_of (hB0.mpr h0)
    have e1 : Hid (sgI z = 0) := by show _ = _; rw [h0]; rfl
    clear hB0 hs h0
    go_wp2
    go_ret
    exact ⟨by rw [e1.out]; rfl, b1⟩
  · have t1 : (B == 0) = false := beq_no (fun e => h0 (hB0.mp e))
    have hs' := hs h0
    by_cases hn : z < 0
    · have e1 : Hid (sgI z = -1) := sgI_ng hn
      rw [decide_eq_true hn] at hs'
      clear hB0 hs h0 hn
      subst hs'
      go_wp2
      go_ret
      exact ⟨by rw [e1.out]; rfl, b1⟩
    · have e1 : Hid (sgI z = 1) := sgI_pos (by omega)
      rw [decide_eq_false hn] at hs'
      clear hB0 hs h0 hn
      subst hs'
      go_wp2
      go_ret
      exact ⟨by rw [e1.out]; rfl, b1⟩
end Go.Proofs.YtbonkgmcpjaepabGreat

/- plumbref22: Mul, Add, Sub, minus, cross, square (written by genzc.py). -/
namespace Go.Proofs.YtbonkgmcpjaepabGreat
open Go.ChangeShapes Go.WideShapes Go.ChangeAt Go.RowKit
open Na Ar
set_option linter.unusedVariables false
theorem zo_mono {w : World} {base : Nat} {s : Bool} {v : Value} {z : Int} {k l : Nat} (h : ZO w base s v z k) (hl : k ≤ l) : ZO w base s v z l := by
  obtain ⟨N, ho, h2, hz⟩ := h
  exact ⟨N, ho, h2.mono hl, hz⟩
set_option maxHeartbeats 6400000 in
set_option maxRecDepth 100000 in
theorem zMul_any {w : World} {sx : Bool} {ax : Option Addr} {nx cx kx : Nat} {zx : Int} {sy : Bool} {ay : Option Addr} {ny cy ky : Nat} {zy : Int} (hx : Zr w sx ax nx cx zx kx) (Hx : kx ≤ 50000) (hy : Zr w sy ay ny cy zy ky) (Hy : ky ≤ 50000) :
    Calls Tryz.prog 45 #[.agg #[.bool sx, .slice ax nx cx], .agg #[.bool sy, .slice ay ny cy]] w fun e w' => ZQ w (zx * zy) (kx + ky) e w' := by
  obtain ⟨w0, hw0, u0, u1, u2, hb0, e0⟩ := blocks3 w #[.bool sx, .slice ax nx cx] #[.bool sy, .slice ay ny cy] #[.bool false, .slice none 0 0] 67 67 67
  obtain ⟨g, hg⟩ : ∃ g, g = w.heap.size := ⟨_, rfl⟩
  have HG : Hid (w.heap.size = g) := hg.symm
  rw [← hg] at u0 u1 u2 e0
  have hR : g + 2 < w0.heap.size := by omega
  have hRw : w.heap.size ≤ g + 2 := by omega
  have rx := hx.later hb0
  have ry := hy.later hb0
  have hcl : ∀ w', Below w0.heap.size w0 w' → w'.cell? ⟨g, 0, none⟩ = some (.bool sx) ∧ w'.cell? ⟨g, 1, none⟩ = some (.slice ax nx cx) ∧ w'.cell? ⟨g + 1, 0, none⟩ = some (.bool sy) ∧ w'.cell? ⟨g + 1, 1, none⟩ = some (.slice ay ny cy) := by
    intro w' h
    obtain ⟨i00, i01⟩ := zcells (u0.later h)
    obtain ⟨i10, i11⟩ := zcells (u1.later h)
    exact ⟨i00, i01, i10, i11⟩
  obtain ⟨i00, i01, i10, i11⟩ := hcl w0 (Below.refl _ _)
  have ne0 : ¬ g = g + 1 + 1 := by omega
  have me0 : ¬ g + 1 + 1 = g := by omega
  have ne1 : ¬ g + 1 = g + 1 + 1 := by omega
  have me1 : ¬ g + 1 + 1 = g + 1 := by omega
  clear e0 hx hy
  go_enter Tryz.func45, Tryz.ntmps45
  go_wp2
  rw [← hw0, ← hg]
  clear hw0 hg
  go_region_held3 (fun w' => w'.cell? ⟨g, 0, none⟩ = some (.bool sx) ∧ w'.cell? ⟨g, 1, none⟩ = some (.slice ax nx cx) ∧ w'.cell? ⟨g + 1, 0, none⟩ = some (.bool sy) ∧ w'.cell? ⟨g + 1, 1, none⟩ = some (.slice ay ny cy)) (go_keep) (first | (go_at_call_of 72 ax; refine (rMul_at rx ry (by omega) (by omega) (by first | exact Below.refl _ _ | exact below_drewN (Below.refl _ _) _)).mono ?_; rintro e W1 ⟨a, n, c, rfl, Om, sz1, b1⟩; have B1 := b1; replace rx := rx.later b1; replace ry := ry.later b1; have rm := Om.zr; obtain ⟨i00, i01, i10, i11⟩ := hcl W1 B1; have u9 := u2.later B1; obtain ⟨o0, o1⟩ := zcells u9; obtain ⟨p0, p1⟩ := zfrozen u9))
  go_wp2
  generalize (!(sx == sy)) = sb at *
  have i9 : In (g + 1 + 1) (g + 1 + 1 + 1) W1 ((W1.setCell ⟨g + 1 + 1, 0, none⟩ (.bool sb)).setCell ⟨g + 1 + 1, 1, none⟩ (.slice a n c)) := (((In.refl (g + 1 + 1) (g + 1 + 1 + 1) W1).set1 0 _).set1 1 _)
  have q9 := ((u9.set 0 (.bool sb)).set 1 (.slice a n c))
  have T0 := q9.cell 0 (v := .bool sb) rfl
  have T1 := q9.cell 1 (v := .slice a n c) rfl
  refine bodyPost_ret (v := .agg #[.bool sb, .slice a n c]) (by simp [results, Tryz.results45, go_sem, T0, T1]) rfl ?_
  exact ⟨_, _, _, _, rfl, (Om.inn i9 (by omega)).lower (by have := hb0.size; omega), below_in (hb0.trans (B1.mono hb0.size)) i9 hRw (Nat.le_refl _)⟩
theorem zMul_at {w w0 : World} {sx : Bool} {ax : Option Addr} {nx cx kx : Nat} {zx : Int} {sy : Bool} {ay : Option Addr} {ny cy ky : Nat} {zy : Int} (hx : Zr w0 sx ax nx cx zx kx) (Hx : kx ≤ 50000) (hy : Zr w0 sy ay ny cy zy ky) (Hy : ky ≤ 50000) (h : Below w0.heap.size w0 w) :
    Calls Tryz.prog 45 #[.agg #[.bool sx, .slice ax nx cx], .agg #[.bool sy, .slice ay ny cy]] w fun e w' => ∃ s a n c, e = .returned (.agg #[.bool s, .slice a n c]) ∧ ZO w' w0.heap.size s (.slice a n c) (zx * zy) (kx + ky) ∧ w.heap.size ≤ w'.heap.size ∧ Below w0.heap.size w0 w' := by
  refine (zMul_any (hx.later h) Hx (hy.later h) Hy).mono ?_
  rintro e w' ⟨s, a, n, c, rfl, O, hb⟩
  exact ⟨s, a, n, c, rfl, O.lower h.size, hb.size, h.trans (hb.mono h.size)⟩
set_option maxHeartbeats 6400000 in
set_option maxRecDepth 100000 in
theorem zAdd_any {w : World} {sx : Bool} {ax : Option Addr} {nx cx kx : Nat} {zx : Int} {sy : Bool} {ay : Option Addr} {ny cy ky : Nat} {zy : Int} (hx : Zr w sx ax nx cx zx kx) (Hx : kx ≤ 50000) (hy : Zr w sy ay ny cy zy ky) (Hy : ky ≤ 50000) :
    Calls Tryz.prog 46 #[.agg #[.bool sx, .slice ax nx cx], .agg #[.bool sy, .slice ay ny cy]] w fun e w' => ZQ w (zx + zy) (kx + ky + 1) e w' := by
  obtain ⟨w0, hw0, u0, u1, u2, hb0, e0⟩ := blocks3 w #[.bool sx, .slice ax nx cx] #[.bool sy, .slice ay ny cy] #[.bool false, .slice none 0 0] 67 67 67
  obtain ⟨g, hg⟩ : ∃ g, g = w.heap.size := ⟨_, rfl⟩
  have HG : Hid (w.heap.size = g) := hg.symm
  rw [← hg] at u0 u1 u2 e0
  have hR : g + 2 < w0.heap.size := by omega
  have hRw : w.heap.size ≤ g + 2 := by omega
  have rx := hx.later hb0
  have ry := hy.later hb0
  have hcl : ∀ w', Below w0.heap.size w0 w' → w'.cell? ⟨g, 0, none⟩ = some (.bool sx) ∧ w'.cell? ⟨g, 1, none⟩ = some (.slice ax nx cx) ∧ w'.cell? ⟨g + 1, 0, none⟩ = some (.bool sy) ∧ w'.cell? ⟨g + 1, 1, none⟩ = some (.slice ay ny cy) := by
    intro w' h
    obtain ⟨i00, i01⟩ := zcells (u0.later h)
    obtain ⟨i10, i11⟩ := zcells (u1.later h)
    exact ⟨i00, i01, i10, i11⟩
  obtain ⟨i00, i01, i10, i11⟩ := hcl w0 (Below.refl _ _)
  have ne0 : ¬ g = g + 1 + 1 := by omega
  have me0 : ¬ g + 1 + 1 = g := by omega
  have ne1 : ¬ g + 1 = g + 1 + 1 := by omega
  have me1 : ¬ g + 1 + 1 = g + 1 := by omega
  clear e0 hx hy
  by_cases hs : sx = sy
  · subst hs
    go_enter Tryz.func46, Tryz.ntmps46
    go_wp2
    rw [← hw0, ← hg]
    clear hw0 hg
    go_region_held3 (fun w' => w'.cell? ⟨g, 0, none⟩ = some (.bool sx) ∧ w'.cell? ⟨g, 1, none⟩ = some (.slice ax nx cx) ∧ w'.cell? ⟨g + 1, 0, none⟩ = some (.bool sx) ∧ w'.cell? ⟨g + 1, 1, none⟩ = some (.slice ay ny cy)) (go_keep) (first | (go_at_call_of 73 ax; refine (rAdd_at rx ry (by omega) (by omega) (by first | exact Below.refl _ _ | exact below_drewN (Below.refl _ _) _)).mono ?_; rintro e W1 ⟨a, n, c, rfl, Om, sz1, b1⟩; have B1 := b1; replace rx := rx.later b1; replace ry := ry.later b1; have rm := Om.zr; obtain ⟨i00, i01, i10, i11⟩ := hcl W1 B1; have u9 := u2.later B1; obtain ⟨o0, o1⟩ := zcells u9; obtain ⟨p0, p1⟩ := zfrozen u9))
    go_wp2
    have i9 : In (g + 1 + 1) (g + 1 + 1 + 1) W1 ((W1.setCell ⟨g + 1 + 1, 0, none⟩ (.bool sx)).setCell ⟨g + 1 + 1, 1, none⟩ (.slice a n c)) := (((In.refl (g + 1 + 1) (g + 1 + 1 + 1) W1).set1 0 _).set1 1 _)
    have q9 := ((u9.set 0 (.bool sx)).set 1 (.slice a n c))
    have T0 := q9.cell 0 (v := .bool sx) rfl
    have T1 := q9.cell 1 (v := .slice a n c) rfl
    refine bodyPost_ret (v := .agg #[.bool sx, .slice a n c]) (by simp [results, Tryz.results46, go_sem, T0, T1]) rfl ?_
    exact ⟨_, _, _, _, rfl, (Om.inn i9 (by omega)).lower (by have := hb0.size; omega), below_in (hb0.trans (B1.mono hb0.size)) i9 hRw (Nat.le_refl _)⟩
  · have hs2 : sy = !sx := by cases sx <;> cases sy <;> simp_all
    subst hs2
    have t1 : (sx == !sx) = false := by cases sx <;> rfl
    have cC := rCmp_at rx ry (by omega) (by omega)
    obtain ⟨C, hC⟩ : ∃ C, C = ordN (zx.natAbs : Int) (zy.natAbs : Int) := ⟨_, rfl⟩
    have hC1 : 0 ≤ C ↔ zy.natAbs ≤ zx.natAbs := by rw [hC]; unfold ordN; (repeat' split) <;> omega
    rw [← hC] at cC
    clear hC hs
    go_enter Tryz.func46, Tryz.ntmps46
    go_wp2_with fail
    rw [← hw0, ← hg]
    clear hw0 hg
    refine cC.mono ?_
    rintro e w' ⟨rfl, rfl⟩
    by_cases h0 : 0 ≤ C
    · have hle := hC1.mp h0
      clear hC1 cC
      go_wp2
      go_region_held3 (fun w' => w'.cell? ⟨g, 0, none⟩ = some (.bool sx) ∧ w'.cell? ⟨g, 1, none⟩ = some (.slice ax nx cx) ∧ w'.cell? ⟨g + 1, 0, none⟩ = some (.bool (!sx)) ∧ w'.cell? ⟨g + 1, 1, none⟩ = some (.slice ay ny cy)) (go_keep) (first | (go_at_call_of 75 ax; refine (rSub_at rx ry hle (by omega) (by omega) (by first | exact Below.refl _ _ | exact below_drewN (Below.refl _ _) _)).mono ?_; rintro e W1 ⟨a, n, c, rfl, Om, sz1, b1⟩; have B1 := b1; replace rx := rx.later b1; replace ry := ry.later b1; have rm := Om.zr; obtain ⟨i00, i01, i10, i11⟩ := hcl W1 B1; have u9 := u2.later B1; obtain ⟨o0, o1⟩ := zcells u9; obtain ⟨p0, p1⟩ := zfrozen u9))
      go_wp2
      have i9 : In (g + 1 + 1) (g + 1 + 1 + 1) W1 ((W1.setCell ⟨g + 1 + 1, 0, none⟩ (.bool sx)).setCell ⟨g + 1 + 1, 1, none⟩ (.slice a n c)) := (((In.refl (g + 1 + 1) (g + 1 + 1 + 1) W1).set1 0 _).set1 1 _)
      have q9 := ((u9.set 0 (.bool sx)).set 1 (.slice a n c))
      have T0 := q9.cell 0 (v := .bool sx) rfl
      have T1 := q9.cell 1 (v := .slice a n c) rfl
      refine bodyPost_ret (v := .agg #[.bool sx, .slice a n c]) (by simp [results, Tryz.results46, go_sem, T0, T1]) rfl ?_
      exact ⟨_, _, _, _, rfl, ((zo_mono Om (by omega)).inn i9 (by omega)).lower (by have := hb0.size; omega), below_in (hb0.trans (B1.mono hb0.size)) i9 hRw (Nat.le_refl _)⟩
    · have hle : zx.natAbs ≤ zy.natAbs := by omega
      clear hC1 cC
      go_wp2
      go_region_held3 (fun w' => w'.cell? ⟨g, 0, none⟩ = some (.bool sx) ∧ w'.cell? ⟨g, 1, none⟩ = some (.slice ax nx cx) ∧ w'.cell? ⟨g + 1, 0, none⟩ = some (.bool (!sx)) ∧ w'.cell? ⟨g + 1, 1, none⟩ = some (.slice ay ny cy)) (go_keep) (first | (go_at_call_of 75 ay; refine (rSub_at ry (by rw [Bool.not_not]; exact rx) hle (by omega) (by omega) (by first | exact Below.refl _ _ | exact below_drewN (Below.refl _ _) _)).mono ?_; rintro e W1 ⟨a, n, c, rfl, Om, sz1, b1⟩; have B1 := b1; replace rx := rx.later b1; replace ry := ry.later b1; have rm := Om.zr; obtain ⟨i00, i01, i10, i11⟩ := hcl W1 B1; have u9 := u2.later B1; obtain ⟨o0, o1⟩ := zcells u9; obtain ⟨p0, p1⟩ := zfrozen u9))
      go_wp2
      have i9 : In (g + 1 + 1) (g + 1 + 1 + 1) W1 ((W1.setCell ⟨g + 1 + 1, 0, none⟩ (.bool (!sx))).setCell ⟨g + 1 + 1, 1, none⟩ (.slice a n c)) := (((In.refl (g + 1 + 1) (g + 1 + 1 + 1) W1).set1 0 _).set1 1 _)
      have q9 := ((u9.set 0 (.bool (!sx))).set 1 (.slice a n c))
      have T0 := q9.cell 0 (v := .bool (!sx)) rfl
      have T1 := q9.cell 1 (v := .slice a n c) rfl
      refine bodyPost_ret (v := .agg #[.bool (!sx), .slice a n c]) (by simp [results, Tryz.results46, go_sem, T0, T1]) rfl ?_
      exact ⟨_, _, _, _, rfl, ((zo_mono (by rw [Int.add_comm]; exact Om) (by omega)).inn i9 (by omega)).lower (by have := hb0.size; omega), below_in (hb0.trans (B1.mono hb0.size)) i9 hRw (Nat.le_refl _)⟩
theorem zAdd_at {w w0 : World} {sx : Bool} {ax : Option Addr} {nx cx kx : Nat} {zx : Int} {sy : Bool} {ay : Option Addr} {ny cy ky : Nat} {zy : Int} (hx : Zr w0 sx ax nx cx zx kx) (Hx : kx ≤ 50000) (hy : Zr w0 sy ay ny cy zy ky) (Hy : ky ≤ 50000) (h : Below w0.heap.size w0 w) :
    Calls Tryz.prog 46 #[.agg #[.bool sx, .slice ax nx cx], .agg #[.bool sy, .slice ay ny cy]] w fun e w' => ∃ s a n c, e = .returned (.agg #[.bool s, .slice a n c]) ∧ ZO w' w0.heap.size s (.slice a n c) (zx + zy) (kx + ky + 1) ∧ w.heap.size ≤ w'.heap.size ∧ Below w0.heap.size w0 w' := by
  refine (zAdd_any (hx.later h) Hx (hy.later h) Hy).mono ?_
  rintro e w' ⟨s, a, n, c, rfl, O, hb⟩
  exact ⟨s, a, n, c, rfl, O.lower h.size, hb.size, h.trans (hb.mono h.size)⟩
set_option maxHeartbeats 6400000 in
set_option maxRecDepth 100000 in
theorem zSub_any {w : World} {sx : Bool} {ax : Option Addr} {nx cx kx : Nat} {zx : Int} {sy : Bool} {ay : Option Addr} {ny cy ky : Nat} {zy : Int} (hx : Zr w sx ax nx cx zx kx) (Hx : kx ≤ 50000) (hy : Zr w sy ay ny cy zy ky) (Hy : ky ≤ 50000) :
    Calls Tryz.prog 31 #[.agg #[.bool sx, .slice ax nx cx], .agg #[.bool sy, .slice ay ny cy]] w fun e w' => ZQ w (zx - zy) (kx + ky + 1) e w' := by
  obtain ⟨w0, hw0, u0, u1, u2, hb0, e0⟩ := blocks3 w #[.bool sx, .slice ax nx cx] #[.bool sy, .slice ay ny cy] #[.bool false, .slice none 0 0] 67 67 67
  obtain ⟨g, hg⟩ : ∃ g, g = w.heap.size := ⟨_, rfl⟩
  have HG : Hid (w.heap.size = g) := hg.symm
  rw [← hg] at u0 u1 u2 e0
  have hR : g + 2 < w0.heap.size := by omega
  have hRw : w.heap.size ≤ g + 2 := by omega
  have rx := hx.later hb0
  have ry := hy.later hb0
  have hcl : ∀ w', Below w0.heap.size w0 w' → w'.cell? ⟨g, 0, none⟩ = some (.bool sx) ∧ w'.cell? ⟨g, 1, none⟩ = some (.slice ax nx cx) ∧ w'.cell? ⟨g + 1, 0, none⟩ = some (.bool sy) ∧ w'.cell? ⟨g + 1, 1, none⟩ = some (.slice ay ny cy) := by
    intro w' h
    obtain ⟨i00, i01⟩ := zcells (u0.later h)
    obtain ⟨i10, i11⟩ := zcells (u1.later h)
    exact ⟨i00, i01, i10, i11⟩
  obtain ⟨i00, i01, i10, i11⟩ := hcl w0 (Below.refl _ _)
  have ne0 : ¬ g = g + 1 + 1 := by omega
  have me0 : ¬ g + 1 + 1 = g := by omega
  have ne1 : ¬ g + 1 = g + 1 + 1 := by omega
  have me1 : ¬ g + 1 + 1 = g + 1 := by omega
  clear e0 hx hy
  have ry' := ry.neg
  have cA := zAdd_at rx Hx ry' Hy (Below.refl _ _)
  go_enter Tryz.func31, Tryz.ntmps31
  go_wp2_with fail
  rw [← hw0, ← hg]
  clear hw0 hg
  refine cA.mono ?_
  rintro e W1 ⟨s, a, n, c, rfl, Om, sz1, B1⟩
  have u9 := u2.later B1
  obtain ⟨o0, o1⟩ := zcells u9
  obtain ⟨p0, p1⟩ := zfrozen u9
  go_wp2
  have i9 : In (g + 1 + 1) (g + 1 + 1 + 1) W1 ((W1.setCell ⟨g + 1 + 1, 0, none⟩ (.bool s)).setCell ⟨g + 1 + 1, 1, none⟩ (.slice a n c)) := (((In.refl (g + 1 + 1) (g + 1 + 1 + 1) W1).set1 0 _).set1 1 _)
  have q9 := ((u9.set 0 (.bool s)).set 1 (.slice a n c))
  have T0 := q9.cell 0 (v := .bool s) rfl
  have T1 := q9.cell 1 (v := .slice a n c) rfl
  refine bodyPost_ret (v := .agg #[.bool s, .slice a n c]) (by simp [results, Tryz.results31, go_sem, T0, T1]) rfl ?_
  exact ⟨_, _, _, _, rfl, ((show ZO W1 w0.heap.size s (.slice a n c) (zx - zy) (kx + ky + 1) by rw [Int.sub_eq_add_neg]; exact Om).inn i9 (by omega)).lower (by have := hb0.size; omega), below_in (hb0.trans (B1.mono hb0.size)) i9 hRw (Nat.le_refl _)⟩
theorem zSub_at {w w0 : World} {sx : Bool} {ax : Option Addr} {nx cx kx : Nat} {zx : Int} {sy : Bool} {ay : Option Addr} {ny cy ky : Nat} {zy : Int} (hx : Zr w0 sx ax nx cx zx kx) (Hx : kx ≤ 50000) (hy : Zr w0 sy ay ny cy zy ky) (Hy : ky ≤ 50000) (h : Below w0.heap.size w0 w) :
    Calls Tryz.prog 31 #[.agg #[.bool sx, .slice ax nx cx], .agg #[.bool sy, .slice ay ny cy]] w fun e w' => ∃ s a n c, e = .returned (.agg #[.bool s, .slice a n c]) ∧ ZO w' w0.heap.size s (.slice a n c) (zx - zy) (kx + ky + 1) ∧ w.heap.size ≤ w'.heap.size ∧ Below w0.heap.size w0 w' := by
  refine (zSub_any (hx.later h) Hx (hy.later h) Hy).mono ?_
  rintro e w' ⟨s, a, n, c, rfl, O, hb⟩
  exact ⟨s, a, n, c, rfl, O.lower h.size, hb.size, h.trans (hb.mono h.size)⟩
set_option maxHeartbeats 6400000 in
set_option maxRecDepth 100000 in
theorem zMinus_any {w : World} {spx : Bool} {apx : Option Addr} {npx cpx kpx : Nat} {zpx : Int} {spy : Bool} {apy : Option Addr} {npy cpy kpy : Nat} {zpy : Int} {sqx : Bool} {aqx : Option Addr} {nqx cqx kqx : Nat} {zqx : Int} {sqy : Bool} {aqy : Option Addr} {nqy cqy kqy : Nat} {zqy : Int} (hpx : Zr w spx apx npx cpx zpx kpx) (Hpx : kpx ≤ 20000) (hpy : Zr w spy apy npy cpy zpy kpy) (Hpy : kpy ≤ 20000) (hqx : Zr w sqx aqx nqx cqx zqx kqx) (Hqx : kqx ≤ 20000) (hqy : Zr w sqy aqy nqy cqy zqy kqy) (Hqy : kqy ≤ 20000) :
    Calls Tryz.prog 33 #[.agg #[.bool spx, .slice apx npx cpx, .bool spy, .slice apy npy cpy], .agg #[.bool sqx, .slice aqx nqx cqx, .bool sqy, .slice aqy nqy cqy]] w fun e w' => PQ w (zpx - zqx) (zpy - zqy) (kpx + kqx + (kpy + kqy) + 1) e w' := by
  obtain ⟨w0, hw0, u0, u1, u2, hb0, e0⟩ := blocks3 w #[.bool spx, .slice apx npx cpx, .bool spy, .slice apy npy cpy] #[.bool sqx, .slice aqx nqx cqx, .bool sqy, .slice aqy nqy cqy] #[.bool false, .slice none 0 0, .bool false, .slice none 0 0] 72 72 72
  obtain ⟨g, hg⟩ : ∃ g, g = w.heap.size := ⟨_, rfl⟩
  have HG : Hid (w.heap.size = g) := hg.symm
  rw [← hg] at u0 u1 u2 e0
  have hR : g + 2 < w0.heap.size := by omega
  have hRw : w.heap.size ≤ g + 2 := by omega
  have rpx := hpx.later hb0
  have rpy := hpy.later hb0
  have rqx := hqx.later hb0
  have rqy := hqy.later hb0
  have hcl : ∀ w', Below w0.heap.size w0 w' → w'.cell? ⟨g, 0, none⟩ = some (.bool spx) ∧ w'.cell? ⟨g, 1, none⟩ = some (.slice apx npx cpx) ∧ w'.cell? ⟨g, 2, none⟩ = some (.bool spy) ∧ w'.cell? ⟨g, 3, none⟩ = some (.slice apy npy cpy) ∧ w'.cell? ⟨g + 1, 0, none⟩ = some (.bool sqx) ∧ w'.cell? ⟨g + 1, 1, none⟩ = some (.slice aqx nqx cqx) ∧ w'.cell? ⟨g + 1, 2, none⟩ = some (.bool sqy) ∧ w'.cell? ⟨g + 1, 3, none⟩ = some (.slice aqy nqy cqy) := by
    intro w' h
    obtain ⟨i00, i01, i02, i03⟩ := pcells (u0.later h)
    obtain ⟨i10, i11, i12, i13⟩ := pcells (u1.later h)
    exact ⟨i00, i01, i02, i03, i10, i11, i12, i13⟩
  obtain ⟨i00, i01, i02, i03, i10, i11, i12, i13⟩ := hcl w0 (Below.refl _ _)
  have ne0 : ¬ g = g + 1 + 1 := by omega
  have me0 : ¬ g + 1 + 1 = g := by omega
  have ne1 : ¬ g + 1 = g + 1 + 1 := by omega
  have me1 : ¬ g + 1 + 1 = g + 1 := by omega
  clear e0 hpx hpy hqx hqy
  go_enter Tryz.func33, Tryz.ntmps33
  go_wp2
  rw [← hw0, ← hg]
  clear hw0 hg
  go_region_held3 (fun w' => w'.cell? ⟨g, 0, none⟩ = some (.bool spx) ∧ w'.cell? ⟨g, 1, none⟩ = some (.slice apx npx cpx) ∧ w'.cell? ⟨g, 2, none⟩ = some (.bool spy) ∧ w'.cell? ⟨g, 3, none⟩ = some (.slice apy npy cpy) ∧ w'.cell? ⟨g + 1, 0, none⟩ = some (.bool sqx) ∧ w'.cell? ⟨g + 1, 1, none⟩ = some (.slice aqx nqx cqx) ∧ w'.cell? ⟨g + 1, 2, none⟩ = some (.bool sqy) ∧ w'.cell? ⟨g + 1, 3, none⟩ = some (.slice aqy nqy cqy)) (go_keep) (first | (go_at_call_of 31 apx; refine (zSub_at rpx (by omega) rqx (by omega) (by first | exact Below.refl _ _ | exact below_drewN (Below.refl _ _) _)).mono ?_; rintro e W1 ⟨s1, a1, n1, c1, rfl, Om, sz1, b1⟩; have B1 := b1; replace rpx := rpx.later b1; replace rpy := rpy.later b1; replace rqx := rqx.later b1; replace rqy := rqy.later b1; have rm := Om.zr; obtain ⟨i00, i01, i02, i03, i10, i11, i12, i13⟩ := hcl W1 B1) | (go_at_call_of 31 apy; refine (zSub_at rpy (by omega) rqy (by omega) (by first | exact Below.refl _ _ | exact below_drewN (Below.refl _ _) _)).mono ?_; rintro e W2 ⟨s2, a2, n2, c2, rfl, Ol, sz2, b2⟩; have B2 := B1.trans (b2.mono B1.size); replace rpx := rpx.later b2; replace rpy := rpy.later b2; replace rqx := rqx.later b2; replace rqy := rqy.later b2; replace rm := rm.later b2; have rl := Ol.zr; obtain ⟨i00, i01, i02, i03, i10, i11, i12, i13⟩ := hcl W2 B2; have u9 := u2.later B2; obtain ⟨o0, o1, o2, o3⟩ := pcells u9; obtain ⟨p0, p1, p2, p3⟩ := pfrozen u9))
  go_wp2
  have i9 : In (g + 1 + 1) (g + 1 + 1 + 1) W2 ((((W2.setCell ⟨g + 1 + 1, 0, none⟩ (.bool s1)).setCell ⟨g + 1 + 1, 1, none⟩ (.slice a1 n1 c1)).setCell ⟨g + 1 + 1, 2, none⟩ (.bool s2)).setCell ⟨g + 1 + 1, 3, none⟩ (.slice a2 n2 c2)) := (((((In.refl (g + 1 + 1) (g + 1 + 1 + 1) W2).set1 0 _).set1 1 _).set1 2 _).set1 3 _)
  have q9 := ((((u9.set 0 (.bool s1)).set 1 (.slice a1 n1 c1)).set 2 (.bool s2)).set 3 (.slice a2 n2 c2))
  have T0 := q9.cell 0 (v := .bool s1) rfl
  have T1 := q9.cell 1 (v := .slice a1 n1 c1) rfl
  have T2 := q9.cell 2 (v := .bool s2) rfl
  have T3 := q9.cell 3 (v := .slice a2 n2 c2) rfl
  refine bodyPost_ret (v := .agg #[.bool s1, .slice a1 n1 c1, .bool s2, .slice a2 n2 c2]) (by simp [results, Tryz.results33, go_sem, T0, T1, T2, T3]) rfl ?_
  exact ⟨_, _, _, _, _, _, _, _, rfl, ((zo_mono (Om.later b2) (by omega)).inn i9 (by omega)).lower (by have := hb0.size; omega), ((zo_mono Ol (by omega)).inn i9 (by have := B1.size; omega)).lower (by have := hb0.size; have := B1.size; omega), below_in (hb0.trans (B2.mono hb0.size)) i9 hRw (Nat.le_refl _)⟩
theorem zMinus_at {w w0 : World} {spx : Bool} {apx : Option Addr} {npx cpx kpx : Nat} {zpx : Int} {spy : Bool} {apy : Option Addr} {npy cpy kpy : Nat} {zpy : Int} {sqx : Bool} {aqx : Option Addr} {nqx cqx kqx : Nat} {zqx : Int} {sqy : Bool} {aqy : Option Addr} {nqy cqy kqy : Nat} {zqy : Int} (hpx : Zr w0 spx apx npx cpx zpx kpx) (Hpx : kpx ≤ 20000) (hpy : Zr w0 spy apy npy cpy zpy kpy) (Hpy : kpy ≤ 20000) (hqx : Zr w0 sqx aqx nqx cqx zqx kqx) (Hqx : kqx ≤ 20000) (hqy : Zr w0 sqy aqy nqy cqy zqy kqy) (Hqy : kqy ≤ 20000) (h : Below w0.heap.size w0 w) :
    Calls Tryz.prog 33 #[.agg #[.bool spx, .slice apx npx cpx, .bool spy, .slice apy npy cpy], .agg #[.bool sqx, .slice aqx nqx cqx, .bool sqy, .slice aqy nqy cqy]] w fun e w' => ∃ s a n c t b m d, e = .returned (.agg #[.bool s, .slice a n c, .bool t, .slice b m d]) ∧ ZO w' w0.heap.size s (.slice a n c) (zpx - zqx) (kpx + kqx + (kpy + kqy) + 1) ∧ ZO w' w0.heap.size t (.slice b m d) (zpy - zqy) (kpx + kqx + (kpy + kqy) + 1) ∧ w.heap.size ≤ w'.heap.size ∧ Below w0.heap.size w0 w' := by
  refine (zMinus_any (hpx.later h) Hpx (hpy.later h) Hpy (hqx.later h) Hqx (hqy.later h) Hqy).mono ?_
  rintro e w' ⟨s, a, n, c, t, b, m, d, rfl, O, O', hb⟩
  exact ⟨s, a, n, c, t, b, m, d, rfl, O.lower h.size, O'.lower h.size, hb.size, h.trans (hb.mono h.size)⟩
set_option maxHeartbeats 6400000 in
set_option maxRecDepth 100000 in
theorem zCross_any {w : World} {spx : Bool} {apx : Option Addr} {npx cpx kpx : Nat} {zpx : Int} {spy : Bool} {apy : Option Addr} {npy cpy kpy : Nat} {zpy : Int} {sqx : Bool} {aqx : Option Addr} {nqx cqx kqx : Nat} {zqx : Int} {sqy : Bool} {aqy : Option Addr} {nqy cqy kqy : Nat} {zqy : Int} (hpx : Zr w spx apx npx cpx zpx kpx) (Hpx : kpx ≤ 10000) (hpy : Zr w spy apy npy cpy zpy kpy) (Hpy : kpy ≤ 10000) (hqx : Zr w sqx aqx nqx cqx zqx kqx) (Hqx : kqx ≤ 10000) (hqy : Zr w sqy aqy nqy cqy zqy kqy) (Hqy : kqy ≤ 10000) :
    Calls Tryz.prog 62 #[.agg #[.bool spx, .slice apx npx cpx, .bool spy, .slice apy npy cpy], .agg #[.bool sqx, .slice aqx nqx cqx, .bool sqy, .slice aqy nqy cqy]] w fun e w' => ZQ w (zpx * zqy - zpy * zqx) (kpx + kqy + (kpy + kqx) + 1) e w' := by
  obtain ⟨w0, hw0, u0, u1, u2, hb0, e0⟩ := blocks3 w #[.bool spx, .slice apx npx cpx, .bool spy, .slice apy npy cpy] #[.bool sqx, .slice aqx nqx cqx, .bool sqy, .slice aqy nqy cqy] #[.bool false, .slice none 0 0] 72 72 67
  obtain ⟨g, hg⟩ : ∃ g, g = w.heap.size := ⟨_, rfl⟩
  have HG : Hid (w.heap.size = g) := hg.symm
  rw [← hg] at u0 u1 u2 e0
  have hR : g + 2 < w0.heap.size := by omega
  have hRw : w.heap.size ≤ g + 2 := by omega
  have rpx := hpx.later hb0
  have rpy := hpy.later hb0
  have rqx := hqx.later hb0
  have rqy := hqy.later hb0
  have hcl : ∀ w', Below w0.heap.size w0 w' → w'.cell? ⟨g, 0, none⟩ = some (.bool spx) ∧ w'.cell? ⟨g, 1, none⟩ = some (.slice apx npx cpx) ∧ w'.cell? ⟨g, 2, none⟩ = some (.bool spy) ∧ w'.cell? ⟨g, 3, none⟩ = some (.slice apy npy cpy) ∧ w'.cell? ⟨g + 1, 0, none⟩ = some (.bool sqx) ∧ w'.cell? ⟨g + 1, 1, none⟩ = some (.slice aqx nqx cqx) ∧ w'.cell? ⟨g + 1, 2, none⟩ = some (.bool sqy) ∧ w'.cell? ⟨g + 1, 3, none⟩ = some (.slice aqy nqy cqy) := by
    intro w' h
    obtain ⟨i00, i01, i02, i03⟩ := pcells (u0.later h)
    obtain ⟨i10, i11, i12, i13⟩ := pcells (u1.later h)
    exact ⟨i00, i01, i02, i03, i10, i11, i12, i13⟩
  obtain ⟨i00, i01, i02, i03, i10, i11, i12, i13⟩ := hcl w0 (Below.refl _ _)
  have ne0 : ¬ g = g + 1 + 1 := by omega
  have me0 : ¬ g + 1 + 1 = g := by omega
  have ne1 : ¬ g + 1 = g + 1 + 1 := by omega
  have me1 : ¬ g + 1 + 1 = g + 1 := by omega
  clear e0 hpx hpy hqx hqy
  go_enter Tryz.func62, Tryz.ntmps62
  go_wp2
  rw [← hw0, ← hg]
  clear hw0 hg
  go_region_held3 (fun w' => w'.cell? ⟨g, 0, none⟩ = some (.bool spx) ∧ w'.cell? ⟨g, 1, none⟩ = some (.slice apx npx cpx) ∧ w'.cell? ⟨g, 2, none⟩ = some (.bool spy) ∧ w'.cell? ⟨g, 3, none⟩ = some (.slice apy npy cpy) ∧ w'.cell? ⟨g + 1, 0, none⟩ = some (.bool sqx) ∧ w'.cell? ⟨g + 1, 1, none⟩ = some (.slice aqx nqx cqx) ∧ w'.cell? ⟨g + 1, 2, none⟩ = some (.bool sqy) ∧ w'.cell? ⟨g + 1, 3, none⟩ = some (.slice aqy nqy cqy)) (go_keep) (first | (go_at_call_of 45 apx; refine (zMul_at rpx (by omega) rqy (by omega) (by first | exact Below.refl _ _ | exact below_drewN (Below.refl _ _) _)).mono ?_; rintro e W1 ⟨s1, a1, n1, c1, rfl, Om, sz1, b1⟩; have B1 := b1; replace rpx := rpx.later b1; replace rpy := rpy.later b1; replace rqx := rqx.later b1; replace rqy := rqy.later b1; have rm := Om.zr; obtain ⟨i00, i01, i02, i03, i10, i11, i12, i13⟩ := hcl W1 B1) | (go_at_call_of 45 apy; refine (zMul_at rpy (by omega) rqx (by omega) (by first | exact Below.refl _ _ | exact below_drewN (Below.refl _ _) _)).mono ?_; rintro e W2 ⟨s2, a2, n2, c2, rfl, Ol, sz2, b2⟩; have B2 := B1.trans (b2.mono B1.size); replace rpx := rpx.later b2; replace rpy := rpy.later b2; replace rqx := rqx.later b2; replace rqy := rqy.later b2; replace rm := rm.later b2; have rl := Ol.zr; obtain ⟨i00, i01, i02, i03, i10, i11, i12, i13⟩ := hcl W2 B2) | (go_at_call_of 31 a1; refine (zSub_at rm (by omega) rl (by omega) (by first | exact Below.refl _ _ | exact below_drewN (Below.refl _ _) _)).mono ?_; rintro e W3 ⟨s3, a3, n3, c3, rfl, Od, sz3, b3⟩; have B3 := B2.trans (b3.mono B2.size); replace rpx := rpx.later b3; replace rpy := rpy.later b3; replace rqx := rqx.later b3; replace rqy := rqy.later b3; replace rm := rm.later b3; replace rl := rl.later b3; have rd := Od.zr; obtain ⟨i00, i01, i02, i03, i10, i11, i12, i13⟩ := hcl W3 B3; have u9 := u2.later B3; obtain ⟨o0, o1⟩ := zcells u9; obtain ⟨p0, p1⟩ := zfrozen u9))
  go_wp2
  have i9 : In (g + 1 + 1) (g + 1 + 1 + 1) W3 ((W3.setCell ⟨g + 1 + 1, 0, none⟩ (.bool s3)).setCell ⟨g + 1 + 1, 1, none⟩ (.slice a3 n3 c3)) := (((In.refl (g + 1 + 1) (g + 1 + 1 + 1) W3).set1 0 _).set1 1 _)
  have q9 := ((u9.set 0 (.bool s3)).set 1 (.slice a3 n3 c3))
  have T0 := q9.cell 0 (v := .bool s3) rfl
  have T1 := q9.cell 1 (v := .slice a3 n3 c3) rfl
  refine bodyPost_ret (v := .agg #[.bool s3, .slice a3 n3 c3]) (by simp [results, Tryz.results62, go_sem, T0, T1]) rfl ?_
  exact ⟨_, _, _, _, rfl, (Od.inn i9 (by have := B2.size; omega)).lower (by have := hb0.size; have := B2.size; omega), below_in (hb0.trans (B3.mono hb0.size)) i9 hRw (Nat.le_refl _)⟩
theorem zCross_at {w w0 : World} {spx : Bool} {apx : Option Addr} {npx cpx kpx : Nat} {zpx : Int} {spy : Bool} {apy : Option Addr} {npy cpy kpy : Nat} {zpy : Int} {sqx : Bool} {aqx : Option Addr} {nqx cqx kqx : Nat} {zqx : Int} {sqy : Bool} {aqy : Option Addr} {nqy cqy kqy : Nat} {zqy : Int} (hpx : Zr w0 spx apx npx cpx zpx kpx) (Hpx : kpx ≤ 10000) (hpy : Zr w0 spy apy npy cpy zpy kpy) (Hpy : kpy ≤ 10000) (hqx : Zr w0 sqx aqx nqx cqx zqx kqx) (Hqx : kqx ≤ 10000) (hqy : Zr w0 sqy aqy nqy cqy zqy kqy) (Hqy : kqy ≤ 10000) (h : Below w0.heap.size w0 w) :
    Calls Tryz.prog 62 #[.agg #[.bool spx, .slice apx npx cpx, .bool spy, .slice apy npy cpy], .agg #[.bool sqx, .slice aqx nqx cqx, .bool sqy, .slice aqy nqy cqy]] w fun e w' => ∃ s a n c, e = .returned (.agg #[.bool s, .slice a n c]) ∧ ZO w' w0.heap.size s (.slice a n c) (zpx * zqy - zpy * zqx) (kpx + kqy + (kpy + kqx) + 1) ∧ w.heap.size ≤ w'.heap.size ∧ Below w0.heap.size w0 w' := by
  refine (zCross_any (hpx.later h) Hpx (hpy.later h) Hpy (hqx.later h) Hqx (hqy.later h) Hqy).mono ?_
  rintro e w' ⟨s, a, n, c, rfl, O, hb⟩
  exact ⟨s, a, n, c, rfl, O.lower h.size, hb.size, h.trans (hb.mono h.size)⟩
set_option maxHeartbeats 6400000 in
set_option maxRecDepth 100000 in
theorem zSquare_any {w : World} {spx : Bool} {apx : Option Addr} {npx cpx kpx : Nat} {zpx : Int} {spy : Bool} {apy : Option Addr} {npy cpy kpy : Nat} {zpy : Int} (hpx : Zr w spx apx npx cpx zpx kpx) (Hpx : kpx ≤ 10000) (hpy : Zr w spy apy npy cpy zpy kpy) (Hpy : kpy ≤ 10000) :
    Calls Tryz.prog 32 #[.agg #[.bool spx, .slice apx npx cpx, .bool spy, .slice apy npy cpy]] w fun e w' => ZQ w (zpx * zpx + zpy * zpy) (kpx + kpx + (kpy + kpy) + 1) e w' := by
  obtain ⟨w0, hw0, u0, u1, hb0, e0⟩ := blocks2 w #[.bool spx, .slice apx npx cpx, .bool spy, .slice apy npy cpy] #[.bool false, .slice none 0 0] 72 67
  obtain ⟨g, hg⟩ : ∃ g, g = w.heap.size := ⟨_, rfl⟩
  have HG : Hid (w.heap.size = g) := hg.symm
  rw [← hg] at u0 u1 e0
  have hR : g + 1 < w0.heap.size := by omega
  have hRw : w.heap.size ≤ g + 1 := by omega
  have rpx := hpx.later hb0
  have rpy := hpy.later hb0
  have hcl : ∀ w', Below w0.heap.size w0 w' → w'.cell? ⟨g, 0, none⟩ = some (.bool spx) ∧ w'.cell? ⟨g, 1, none⟩ = some (.slice apx npx cpx) ∧ w'.cell? ⟨g, 2, none⟩ = some (.bool spy) ∧ w'.cell? ⟨g, 3, none⟩ = some (.slice apy npy cpy) := by
    intro w' h
    obtain ⟨i00, i01, i02, i03⟩ := pcells (u0.later h)
    exact ⟨i00, i01, i02, i03⟩
  obtain ⟨i00, i01, i02, i03⟩ := hcl w0 (Below.refl _ _)
  have ne0 : ¬ g = g + 1 := by omega
  have me0 : ¬ g + 1 = g := by omega
  clear e0 hpx hpy
  go_enter Tryz.func32, Tryz.ntmps32
  go_wp2
  rw [← hw0, ← hg]
  clear hw0 hg
  go_region_held3 (fun w' => w'.cell? ⟨g, 0, none⟩ = some (.bool spx) ∧ w'.cell? ⟨g, 1, none⟩ = some (.slice apx npx cpx) ∧ w'.cell? ⟨g, 2, none⟩ = some (.bool spy) ∧ w'.cell? ⟨g, 3, none⟩ = some (.slice apy npy cpy)) (go_keep) (first | (go_at_call_of 45 apx; refine (zMul_at rpx (by omega) rpx (by omega) (by first | exact Below.refl _ _ | exact below_drewN (Below.refl _ _) _)).mono ?_; rintro e W1 ⟨s1, a1, n1, c1, rfl, Om, sz1, b1⟩; have B1 := b1; replace rpx := rpx.later b1; replace rpy := rpy.later b1; have rm := Om.zr; obtain ⟨i00, i01, i02, i03⟩ := hcl W1 B1) | (go_at_call_of 45 apy; refine (zMul_at rpy (by omega) rpy (by omega) (by first | exact Below.refl _ _ | exact below_drewN (Below.refl _ _) _)).mono ?_; rintro e W2 ⟨s2, a2, n2, c2, rfl, Ol, sz2, b2⟩; have B2 := B1.trans (b2.mono B1.size); replace rpx := rpx.later b2; replace rpy := rpy.later b2; replace rm := rm.later b2; have rl := Ol.zr; obtain ⟨i00, i01, i02, i03⟩ := hcl W2 B2) | (go_at_call_of 46 a1; refine (zAdd_at rm (by omega) rl (by omega) (by first | exact Below.refl _ _ | exact below_drewN (Below.refl _ _) _)).mono ?_; rintro e W3 ⟨s3, a3, n3, c3, rfl, Od, sz3, b3⟩; have B3 := B2.trans (b3.mono B2.size); replace rpx := rpx.later b3; replace rpy := rpy.later b3; replace rm := rm.later b3; replace rl := rl.later b3; have rd := Od.zr; obtain ⟨i00, i01, i02, i03⟩ := hcl W3 B3; have u9 := u1.later B3; obtain ⟨o0, o1⟩ := zcells u9; obtain ⟨p0, p1⟩ := zfrozen u9))
  go_wp2
  have i9 : In (g + 1) (g + 1 + 1) W3 ((W3.setCell ⟨g + 1, 0, none⟩ (.bool s3)).setCell ⟨g + 1, 1, none⟩ (.slice a3 n3 c3)) := (((In.refl (g + 1) (g + 1 + 1) W3).set1 0 _).set1 1 _)
  have q9 := ((u9.set 0 (.bool s3)).set 1 (.slice a3 n3 c3))
  have T0 := q9.cell 0 (v := .bool s3) rfl
  have T1 := q9.cell 1 (v := .slice a3 n3 c3) rfl
  refine bodyPost_ret (v := .agg #[.bool s3, .slice a3 n3 c3]) (by simp [results, Tryz.results32, go_sem, T0, T1]) rfl ?_
  exact ⟨_, _, _, _, rfl, (Od.inn i9 (by have := B2.size; omega)).lower (by have := hb0.size; have := B2.size; omega), below_in (hb0.trans (B3.mono hb0.size)) i9 hRw (Nat.le_refl _)⟩
theorem zSquare_at {w w0 : World} {spx : Bool} {apx : Option Addr} {npx cpx kpx : Nat} {zpx : Int} {spy : Bool} {apy : Option Addr} {npy cpy kpy : Nat} {zpy : Int} (hpx : Zr w0 spx apx npx cpx zpx kpx) (Hpx : kpx ≤ 10000) (hpy : Zr w0 spy apy npy cpy zpy kpy) (Hpy : kpy ≤ 10000) (h : Below w0.heap.size w0 w) :
    Calls Tryz.prog 32 #[.agg #[.bool spx, .slice apx npx cpx, .bool spy, .slice apy npy cpy]] w fun e w' => ∃ s a n c, e = .returned (.agg #[.bool s, .slice a n c]) ∧ ZO w' w0.heap.size s (.slice a n c) (zpx * zpx + zpy * zpy) (kpx + kpx + (kpy + kpy) + 1) ∧ w.heap.size ≤ w'.heap.size ∧ Below w0.heap.size w0 w' := by
  refine (zSquare_any (hpx.later h) Hpx (hpy.later h) Hpy).mono ?_
  rintro e w' ⟨s, a, n, c, rfl, O, hb⟩
  exact ⟨s, a, n, c, rfl, O.lower h.size, hb.size, h.trans (hb.mono h.size)⟩
end Go.Proofs.YtbonkgmcpjaepabGreat

/- plumbref22: whole, At. -/
namespace Go.Proofs.YtbonkgmcpjaepabGreat
open Go.ChangeShapes Go.WideShapes Go.ChangeAt Go.RowKit
open Na Ar
set_option linter.unusedVariables false
/-- a pattern's number in units of two to the -1074 -/
def wv (b : Int) : Int := sg (spS b) (numW b)
theorem numW_lt40 {b : Int} (h : U b) (hf : ef b ≠ 2047) : Lt (numW b) 40 := by
  obtain ⟨p, e1, e2', e3, e4, e5, e6, e7⟩ := num_parts h hf
  rw [e7]
  have l := (Lt.word (x := spM b) ⟨e3, by omega⟩).pow2 (t := p)
  exact l.mono (by omega)
theorem top_one {b : Int} (h : U b) (hf : ef b ≠ 2047) : (b / 9223372036854775808 == 1) = spS b := by
  unfold U at h
  unfold spS
  rw [if_neg hf]
  by_cases g : 9223372036854775808 ≤ b
  · rw [decide_eq_true g]; exact beq_of (by omega)
  · rw [decide_eq_false g]; exact beq_no (by omega)
/-- the one word of a list that a call makes -/
theorem one_row (w : World) {m : Int} (hm : U m) : RowC (w.alloc (.cells #[.int .u64 m] 32)) (some ⟨w.heap.size, 0, none⟩) 1 1 [m] ∧ Ws [m] ∧ num [m] = m := by
  have hown : Own .u64 (w.alloc (.cells #[.int .u64 m] 32)) w.heap.size 32 (.slice (some ⟨w.heap.size, 0, none⟩) [m].length 1) [m] := by
    refine ⟨rfl, Or.inr ⟨w.heap.size, 1, #[.int .u64 m], rfl, Nat.le_refl _, ?_, Nat.le_refl _, by decide, rfl, rfl⟩⟩
    exact heap_alloc_new _ _
  exact ⟨hown.rowC (n := 1) rfl, Dg.one hm, by simp [num, val]⟩
set_option maxHeartbeats 3200000 in
set_option maxRecDepth 100000 in
theorem zWhole_any {w : World} {b : Int} (hb : U b) (hf : ef b ≠ 2047) : Calls Tryz.prog 63 #[.int .u64 b] w fun e w' => ZQ w (wv b) 40 e w' := by
  have b1 := alloc_below (w := w) (.cells #[.bool false, .slice none 0 0] 67)
  have p1 := Pb.new w 67 #[.bool false, .slice none 0 0]
  obtain ⟨w1, hw1⟩ : ∃ w1, w1 = w.alloc (.cells #[.bool false, .slice none 0 0] 67) := ⟨_, rfl⟩
  have e1 : w1.heap.size = w.heap.size + 1 := by subst hw1; simp
  rw [← hw1] at b1 p1
  have hL := numW_lt40 hb hf
  have he := field_and hb
  have hm := frac_bits hb
  have ho := hid_or (fr_bd b).1 (fr_bd b).2
  have ht := top_one hb hf
  have HW : Hid (numW b = spM b * 2 ^ (spX b + 1074).toNat) := rfl
  have hfb := fr_bd b
  have heb := ef_bd b
  obtain ⟨E, M, hE, hM, hEM⟩ : ∃ (E : Nat) (M : Int), U M ∧ E ≤ 2046 ∧ ((ef b = 0 ∧ E = 0 ∧ M = fr b) ∨ (0 < ef b ∧ ef b = (E : Int) + 1 ∧ M = 4503599627370496 + fr b)) ∧ numW b = M * 2 ^ E := by
    by_cases g : ef b = 0
    · refine ⟨0, fr b, by unfold U; omega, by omega, Or.inl ⟨g, rfl, rfl⟩, ?_⟩
      rw [HW.out]; unfold spM spX; rw [if_neg hf, if_neg hf, if_pos g, if_pos g]; rfl
    · refine ⟨(ef b - 1).toNat, 4503599627370496 + fr b, by unfold U; omega, by omega, Or.inr ⟨by omega, by omega, rfl⟩, ?_⟩
      rw [HW.out]; unfold spM spX; rw [if_neg hf, if_neg hf, if_neg g, if_neg g]
      have : (ef b - 1075 + 1074).toNat = (ef b - 1).toNat := by omega
      rw [this]
  obtain ⟨hEM, hnum⟩ := hEM
  obtain ⟨r1, r2, r3⟩ := one_row w1 (m := M) hE
  have al := alloc_below (w := w1) (.cells #[.int .u64 M] 32)
  have hS := ref3Shl_any (c1 := 1) r1.1 r2 (by omega) E (by omega)
  rw [r3, ← hnum] at hS
  have u3 := p1.later al
  obtain ⟨w2, hw2⟩ : ∃ w2, w2 = w1.alloc (.cells #[.int .u64 M] 32) := ⟨_, rfl⟩
  rw [← hw2] at al hS u3
  have HV : Hid (wv b = sg (spS b) (numW b)) := rfl
  obtain ⟨g, hg⟩ : ∃ g, g = w.heap.size := ⟨_, rfl⟩
  have HG : Hid (w.heap.size = g) := hg.symm
  rw [← hg] at u3 e1
  rw [e1] at hS
  have hgl : g < w2.heap.size := by have := al.size; omega
  have hwg : w.heap.size ≤ g := by omega
  have hB2 := b1.trans (al.mono b1.size)
  generalize spS b = S at *
  generalize numW b = NW at *
  generalize fr b = F at *
  generalize ef b = X at *
  clear hnum hf hb HW hE r1 r2 r3 p1 al e1
  rcases hEM with ⟨q1, q2, q3⟩ | ⟨q1, q2, q3⟩
  · subst q1 q2 q3
    rw [show ((0 : Nat) : Int) = 0 from rfl] at hS
    go_enter Tryz.func63, Tryz.ntmps63
    go_wp2_with fail
    rw [← hw1, ← hw2, HG.out]
    clear hw1 hw2 hg
    refine hS.mono ?_
    rintro e W ⟨v, rfl, ho2, hbW⟩
    obtain ⟨a, n, c, rfl⟩ : ∃ a n c, v = .slice a n c := by
      obtain ⟨a, c, e, _⟩ := ho2.readsC
      exact ⟨a, _, c, e⟩
    have u9 := u3.later hbW
    obtain ⟨o0, o1⟩ := zcells u9
    obtain ⟨p0, p1⟩ := zfrozen u9
    go_wp2
    have i9 : In g (g + 1) W ((W.setCell ⟨g, 0, none⟩ (.bool S)).setCell ⟨g, 1, none⟩ (.slice a n c)) := ((In.refl g (g + 1) W).set1 0 _).set1 1 _
    have q9 := (u9.set 0 (.bool S)).set 1 (.slice a n c)
    have T0 := q9.cell 0 (v := .bool S) rfl
    have T1 := q9.cell 1 (v := .slice a n c) rfl
    refine bodyPost_ret (v := .agg #[.bool S, .slice a n c]) (by simp [results, Tryz.results63, go_sem, T0, T1]) rfl ?_
    have hZ : ZO W w2.heap.size S (.slice a n c) (wv b) 40 := ⟨NW, ho2, hL, HV.out.symm⟩
    exact ⟨_, _, _, _, rfl, (hZ.inn i9 hgl).lower hB2.size, below_in (hB2.trans (hbW.mono hB2.size)) i9 hwg (Nat.le_refl _)⟩
  · subst q2 q3
    go_enter Tryz.func63, Tryz.ntmps63
    go_wp2_with fail
    rw [← hw1, ← hw2, HG.out]
    clear hw1 hw2 hg
    refine hS.mono ?_
    rintro e W ⟨v, rfl, ho2, hbW⟩
    obtain ⟨a, n, c, rfl⟩ : ∃ a n c, v = .slice a n c := by
      obtain ⟨a, c, e, _⟩ := ho2.readsC
      exact ⟨a, _, c, e⟩
    have u9 := u3.later hbW
    obtain ⟨o0, o1⟩ := zcells u9
    obtain ⟨p0, p1⟩ := zfrozen u9
    go_wp2
    have i9 : In g (g + 1) W ((W.setCell ⟨g, 0, none⟩ (.bool S)).setCell ⟨g, 1, none⟩ (.slice a n c)) := ((In.refl g (g + 1) W).set1 0 _).set1 1 _
    have q9 := (u9.set 0 (.bool S)).set 1 (.slice a n c)
    have T0 := q9.cell 0 (v := .bool S) rfl
    have T1 := q9.cell 1 (v := .slice a n c) rfl
    refine bodyPost_ret (v := .agg #[.bool S, .slice a n c]) (by simp [results, Tryz.results63, go_sem, T0, T1]) rfl ?_
    have hZ : ZO W w2.heap.size S (.slice a n c) (wv b) 40 := ⟨NW, ho2, hL, HV.out.symm⟩
    exact ⟨_, _, _, _, rfl, (hZ.inn i9 hgl).lower hB2.size, below_in (hB2.trans (hbW.mono hB2.size)) i9 hwg (Nat.le_refl _)⟩
end Go.Proofs.YtbonkgmcpjaepabGreat

/- plumbref22: At, turn (written by genze.py). -/
namespace Go.Proofs.YtbonkgmcpjaepabGreat
open Go.ChangeShapes Go.WideShapes Go.ChangeAt Go.RowKit
open Na Ar
set_option linter.unusedVariables false
theorem zWhole_at {w w0 : World} {b : Int} (hb : U b) (hf : ef b ≠ 2047) (h : Below w0.heap.size w0 w) : Calls Tryz.prog 63 #[.int .u64 b] w fun e w' => ∃ s a n c, e = .returned (.agg #[.bool s, .slice a n c]) ∧ ZO w' w0.heap.size s (.slice a n c) (wv b) 40 ∧ w.heap.size ≤ w'.heap.size ∧ Below w0.heap.size w0 w' := by
  refine (zWhole_any hb hf).mono ?_
  rintro e w' ⟨s, a, n, c, rfl, O, hb⟩
  exact ⟨s, a, n, c, rfl, O.lower h.size, hb.size, h.trans (hb.mono h.size)⟩
set_option maxHeartbeats 6400000 in
set_option maxRecDepth 100000 in
theorem zAt_any {w : World} {p0 p1 : Int} (up0 : U p0) (up1 : U p1) (fp0 : ef p0 ≠ 2047) (fp1 : ef p1 ≠ 2047) :
    Calls Tryz.prog 34 #[.agg #[.int .u64 p0, .int .u64 p1]] w fun e w' => PQ w (wv p0) (wv p1) 40 e w' := by
  obtain ⟨w0, hw0, u0, u1, hb0, e0⟩ := blocks2 w #[.int .u64 p0, .int .u64 p1] #[.bool false, .slice none 0 0, .bool false, .slice none 0 0] 34 72
  obtain ⟨g, hg⟩ : ∃ g, g = w.heap.size := ⟨_, rfl⟩
  have HG : Hid (w.heap.size = g) := hg.symm
  rw [← hg] at u0 u1 e0
  have hR : g + 1 < w0.heap.size := by omega
  have hRw : w.heap.size ≤ g + 1 := by omega
  have hcl : ∀ w', Below w0.heap.size w0 w' → w'.cell? ⟨g, 0, none⟩ = some (.int .u64 p0) ∧ w'.cell? ⟨g, 1, none⟩ = some (.int .u64 p1) := by
    intro w' h
    obtain ⟨i00, i01⟩ := zcells (u0.later h)
    exact ⟨i00, i01⟩
  obtain ⟨i00, i01⟩ := hcl w0 (Below.refl _ _)
  have ne0 : ¬ g = g + 1 := by omega
  have me0 : ¬ g + 1 = g := by omega
  have nd1 : ¬ g = g + 1 := by omega
  have md1 : ¬ g + 1 = g := by omega
  clear e0
  go_enter Tryz.func34, Tryz.ntmps34
  go_wp2
  rw [← hw0, ← hg]
  clear hw0 hg
  go_region_held3 (fun w' => w'.cell? ⟨g, 0, none⟩ = some (.int .u64 p0) ∧ w'.cell? ⟨g, 1, none⟩ = some (.int .u64 p1)) (go_keep) (first | (go_at_call_of 63 p0; refine (zWhole_at (w0 := w0) up0 fp0 (by first | exact Below.refl _ _ | exact below_drewN (Below.refl _ _) _)).mono ?_; rintro e W1 ⟨s1, a1, n1, c1, rfl, Ox, sz1, b1⟩; have B1 := b1; have rx := Ox.zr; obtain ⟨i00, i01⟩ := hcl W1 B1) | (go_at_call_of 63 p1; refine (zWhole_at (w0 := W1) up1 fp1 (by first | exact Below.refl _ _ | exact below_drewN (Below.refl _ _) _)).mono ?_; rintro e W2 ⟨s2, a2, n2, c2, rfl, Oy, sz2, b2⟩; have B2 := B1.trans (b2.mono B1.size); replace rx := rx.later b2; have ry := Oy.zr; obtain ⟨i00, i01⟩ := hcl W2 B2; have u9 := u1.later B2; obtain ⟨o0, o1, o2, o3⟩ := pcells u9; obtain ⟨p0, p1, p2, p3⟩ := pfrozen u9))
  go_wp2
  have i9 : In (g + 1) (g + 1 + 1) W2 ((((W2.setCell ⟨g + 1, 0, none⟩ (.bool s1)).setCell ⟨g + 1, 1, none⟩ (.slice a1 n1 c1)).setCell ⟨g + 1, 2, none⟩ (.bool s2)).setCell ⟨g + 1, 3, none⟩ (.slice a2 n2 c2)) := (((((In.refl (g + 1) (g + 1 + 1) W2).set1 0 _).set1 1 _).set1 2 _).set1 3 _)
  have q9 := ((((u9.set 0 (.bool s1)).set 1 (.slice a1 n1 c1)).set 2 (.bool s2)).set 3 (.slice a2 n2 c2))
  have T0 := q9.cell 0 (v := .bool s1) rfl
  have T1 := q9.cell 1 (v := .slice a1 n1 c1) rfl
  have T2 := q9.cell 2 (v := .bool s2) rfl
  have T3 := q9.cell 3 (v := .slice a2 n2 c2) rfl
  refine bodyPost_ret (v := .agg #[.bool s1, .slice a1 n1 c1, .bool s2, .slice a2 n2 c2]) (by simp [results, Tryz.results34, go_sem, T0, T1, T2, T3]) rfl ?_
  exact ⟨_, _, _, _, _, _, _, _, rfl, ((Ox.later b2).inn i9 (by omega)).lower (by have := hb0.size; omega), (Oy.inn i9 (by have := B1.size; omega)).lower (by have := hb0.size; have := B1.size; omega), below_in (hb0.trans (B2.mono hb0.size)) i9 hRw (Nat.le_refl _)⟩
theorem zAt_at {w w0 : World} {p0 p1 : Int} (up0 : U p0) (up1 : U p1) (fp0 : ef p0 ≠ 2047) (fp1 : ef p1 ≠ 2047) (h : Below w0.heap.size w0 w) :
    Calls Tryz.prog 34 #[.agg #[.int .u64 p0, .int .u64 p1]] w fun e w' => ∃ s a n c t b m d, e = .returned (.agg #[.bool s, .slice a n c, .bool t, .slice b m d]) ∧ ZO w' w0.heap.size s (.slice a n c) (wv p0) (40) ∧ ZO w' w0.heap.size t (.slice b m d) (wv p1) (40) ∧ w.heap.size ≤ w'.heap.size ∧ Below w0.heap.size w0 w' := by
  refine (zAt_any up0 up1 fp0 fp1).mono ?_
  rintro e w' ⟨s, a, n, c, t, b, m, d, rfl, O, O', hb⟩
  exact ⟨s, a, n, c, t, b, m, d, rfl, O.lower h.size, O'.lower h.size, hb.size, h.trans (hb.mono h.size)⟩
set_option maxHeartbeats 6400000 in
set_option maxRecDepth 100000 in
theorem zTurn_any {w : World} {a0 a1 : Int} {b0 b1 : Int} {c0 c1 : Int} (ua0 : U a0) (ua1 : U a1) (fa0 : ef a0 ≠ 2047) (fa1 : ef a1 ≠ 2047) (ub0 : U b0) (ub1 : U b1) (fb0 : ef b0 ≠ 2047) (fb1 : ef b1 ≠ 2047) (uc0 : U c0) (uc1 : U c1) (fc0 : ef c0 ≠ 2047) (fc1 : ef c1 ≠ 2047) :
    Calls Tryz.prog 30 #[.agg #[.int .u64 a0, .int .u64 a1], .agg #[.int .u64 b0, .int .u64 b1], .agg #[.int .u64 c0, .int .u64 c1]] w fun e w' => ZQ w ((wv b0 - wv a0) * (wv c1 - wv a1) - (wv b1 - wv a1) * (wv c0 - wv a0)) 1000 e w' := by
  obtain ⟨w0, hw0, u0, u1, u2, u3, hb0, e0⟩ := blocks4 w #[.int .u64 a0, .int .u64 a1] #[.int .u64 b0, .int .u64 b1] #[.int .u64 c0, .int .u64 c1] #[.bool false, .slice none 0 0] 34 34 34 67
  obtain ⟨g, hg⟩ : ∃ g, g = w.heap.size := ⟨_, rfl⟩
  have HG : Hid (w.heap.size = g) := hg.symm
  rw [← hg] at u0 u1 u2 u3 e0
  have hR : g + 3 < w0.heap.size := by omega
  have hRw : w.heap.size ≤ g + 3 := by omega
  have hcl : ∀ w', Below w0.heap.size w0 w' → w'.cell? ⟨g, 0, none⟩ = some (.int .u64 a0) ∧ w'.cell? ⟨g, 1, none⟩ = some (.int .u64 a1) ∧ w'.cell? ⟨g + 1, 0, none⟩ = some (.int .u64 b0) ∧ w'.cell? ⟨g + 1, 1, none⟩ = some (.int .u64 b1) ∧ w'.cell? ⟨g + 1 + 1, 0, none⟩ = some (.int .u64 c0) ∧ w'.cell? ⟨g + 1 + 1, 1, none⟩ = some (.int .u64 c1) := by
    intro w' h
    obtain ⟨i00, i01⟩ := zcells (u0.later h)
    obtain ⟨i10, i11⟩ := zcells (u1.later h)
    obtain ⟨i20, i21⟩ := zcells (u2.later h)
    exact ⟨i00, i01, i10, i11, i20, i21⟩
  obtain ⟨i00, i01, i10, i11, i20, i21⟩ := hcl w0 (Below.refl _ _)
  have ne0 : ¬ g = g + 1 + 1 + 1 := by omega
  have me0 : ¬ g + 1 + 1 + 1 = g := by omega
  have ne1 : ¬ g + 1 = g + 1 + 1 + 1 := by omega
  have me1 : ¬ g + 1 + 1 + 1 = g + 1 := by omega
  have ne2 : ¬ g + 1 + 1 = g + 1 + 1 + 1 := by omega
  have me2 : ¬ g + 1 + 1 + 1 = g + 1 + 1 := by omega
  have nd1 : ¬ g = g + 1 := by omega
  have md1 : ¬ g + 1 = g := by omega
  have nd2 : ¬ g = g + 1 + 1 := by omega
  have md2 : ¬ g + 1 + 1 = g := by omega
  have nd3 : ¬ g = g + 1 + 1 + 1 := by omega
  have md3 : ¬ g + 1 + 1 + 1 = g := by omega
  clear e0
  have B0 := Below.refl w0.heap.size w0
  have cA := zAt_at ua0 ua1 fa0 fa1 B0
  go_enter Tryz.func30, Tryz.ntmps30
  go_wp2_with fail
  rw [← hw0, ← hg]
  clear hw0 hg
  refine cA.mono ?_
  rintro e W1 ⟨s1, e1, n1, c1', t1, b1', m1, d1, rfl, Ox, Oy, szW1, BW1⟩
  have al := alloc_below (w := W1) (.cells #[.bool s1, .slice e1 n1 c1', .bool t1, .slice b1' m1 d1] 72)
  have pP := Pb.new W1 72 #[.bool s1, .slice e1 n1 c1', .bool t1, .slice b1' m1 d1]
  have rx := Ox.zr.later al
  have ry := Oy.zr.later al
  have BW2 := BW1.trans (al.mono BW1.size)
  obtain ⟨i00, i01, i10, i11, i20, i21⟩ := hcl W1 BW1
  have uu := hcl _ BW2
  obtain ⟨i00, i01, i10, i11, i20, i21⟩ := uu
  obtain ⟨j0, j1, j2, j3⟩ := pcells pP
  have hgP : g + 3 < W1.heap.size := by have := BW1.size; omega
  clear cA Ox Oy al B0
  go_upto_region 2 with fail
  generalize W1.alloc (.cells #[.bool s1, .slice e1 n1 c1', .bool t1, .slice b1' m1 d1] 72) = W2 at *
  generalize W1.heap.size = gP at *
  have hcl2 : ∀ w', Below W2.heap.size W2 w' → w'.cell? ⟨g, 0, none⟩ = some (.int .u64 a0) ∧ w'.cell? ⟨g, 1, none⟩ = some (.int .u64 a1) ∧ w'.cell? ⟨g + 1, 0, none⟩ = some (.int .u64 b0) ∧ w'.cell? ⟨g + 1, 1, none⟩ = some (.int .u64 b1) ∧ w'.cell? ⟨g + 1 + 1, 0, none⟩ = some (.int .u64 c0) ∧ w'.cell? ⟨g + 1 + 1, 1, none⟩ = some (.int .u64 c1) ∧ w'.cell? ⟨gP, 0, none⟩ = some (.bool s1) ∧ w'.cell? ⟨gP, 1, none⟩ = some (.slice e1 n1 c1') ∧ w'.cell? ⟨gP, 2, none⟩ = some (.bool t1) ∧ w'.cell? ⟨gP, 3, none⟩ = some (.slice b1' m1 d1) := by
    intro w' h
    obtain ⟨i00, i01, i10, i11, i20, i21⟩ := hcl w' (BW2.trans (h.mono BW2.size))
    obtain ⟨j0, j1, j2, j3⟩ := pcells (pP.later h)
    exact ⟨i00, i01, i10, i11, i20, i21, j0, j1, j2, j3⟩
  have nP : ¬ gP = g + 1 + 1 + 1 := by omega
  have mP : ¬ g + 1 + 1 + 1 = gP := by omega
  clear BW1 szW1
  go_region_held3 (fun w' => w'.cell? ⟨g, 0, none⟩ = some (.int .u64 a0) ∧ w'.cell? ⟨g, 1, none⟩ = some (.int .u64 a1) ∧ w'.cell? ⟨g + 1, 0, none⟩ = some (.int .u64 b0) ∧ w'.cell? ⟨g + 1, 1, none⟩ = some (.int .u64 b1) ∧ w'.cell? ⟨g + 1 + 1, 0, none⟩ = some (.int .u64 c0) ∧ w'.cell? ⟨g + 1 + 1, 1, none⟩ = some (.int .u64 c1) ∧ w'.cell? ⟨gP, 0, none⟩ = some (.bool s1) ∧ w'.cell? ⟨gP, 1, none⟩ = some (.slice e1 n1 c1') ∧ w'.cell? ⟨gP, 2, none⟩ = some (.bool t1) ∧ w'.cell? ⟨gP, 3, none⟩ = some (.slice b1' m1 d1)) (go_keep) (first | (go_at_call_of 34 b0; refine (zAt_at (w0 := W2) ub0 ub1 fb0 fb1 (by first | exact Below.refl _ _ | exact below_drewN (Below.refl _ _) _)).mono ?_; rintro e W3 ⟨s3, q3, n3, c3', t3, z3, m3, d3, rfl, Obx, Oby, szW3, bW3⟩; have BW3 := BW2.trans (bW3.mono BW2.size); have CW3 := bW3; replace rx := rx.later bW3; replace ry := ry.later bW3; have rbx := Obx.zr; have rby := Oby.zr; obtain ⟨i00, i01, i10, i11, i20, i21, j0, j1, j2, j3⟩ := hcl2 W3 CW3) | (go_at_call_of 33 q3; refine (zMinus_at rbx (by omega) rby (by omega) rx (by omega) ry (by omega) (by first | exact Below.refl _ _ | exact below_drewN (Below.refl _ _) _)).mono ?_; rintro e W4 ⟨s4, q4, n4, c4', t4, z4, m4, d4, rfl, Opx, Opy, szW4, bW4⟩; have BW4 := BW3.trans (bW4.mono BW3.size); have CW4 := CW3.trans (bW4.mono CW3.size); replace rx := rx.later bW4; replace ry := ry.later bW4; replace rbx := rbx.later bW4; replace rby := rby.later bW4; have rpx := Opx.zr; have rpy := Opy.zr; obtain ⟨i00, i01, i10, i11, i20, i21, j0, j1, j2, j3⟩ := hcl2 W4 CW4) | (go_at_call_of 34 c0; refine (zAt_at (w0 := W4) uc0 uc1 fc0 fc1 (by first | exact Below.refl _ _ | exact below_drewN (Below.refl _ _) _)).mono ?_; rintro e W5 ⟨s5, q5, n5, c5', t5, z5, m5, d5, rfl, Ocx, Ocy, szW5, bW5⟩; have BW5 := BW4.trans (bW5.mono BW4.size); have CW5 := CW4.trans (bW5.mono CW4.size); replace rx := rx.later bW5; replace ry := ry.later bW5; replace rbx := rbx.later bW5; replace rby := rby.later bW5; replace rpx := rpx.later bW5; replace rpy := rpy.later bW5; have rcx := Ocx.zr; have rcy := Ocy.zr; obtain ⟨i00, i01, i10, i11, i20, i21, j0, j1, j2, j3⟩ := hcl2 W5 CW5) | (go_at_call_of 33 q5; refine (zMinus_at rcx (by omega) rcy (by omega) rx (by omega) ry (by omega) (by first | exact Below.refl _ _ | exact below_drewN (Below.refl _ _) _)).mono ?_; rintro e W6 ⟨s6, q6, n6, c6', t6, z6, m6, d6, rfl, Oqx, Oqy, szW6, bW6⟩; have BW6 := BW5.trans (bW6.mono BW5.size); have CW6 := CW5.trans (bW6.mono CW5.size); replace rx := rx.later bW6; replace ry := ry.later bW6; replace rbx := rbx.later bW6; replace rby := rby.later bW6; replace rpx := rpx.later bW6; replace rpy := rpy.later bW6; replace rcx := rcx.later bW6; replace rcy := rcy.later bW6; have rqx := Oqx.zr; have rqy := Oqy.zr; obtain ⟨i00, i01, i10, i11, i20, i21, j0, j1, j2, j3⟩ := hcl2 W6 CW6) | (go_at_call_of 62 q4; refine (zCross_at rpx (by omega) rpy (by omega) rqx (by omega) rqy (by omega) (by first | exact Below.refl _ _ | exact below_drewN (Below.refl _ _) _)).mono ?_; rintro e W7 ⟨s7, q7, n7, c7', rfl, Od, szW7, bW7⟩; have BW7 := BW6.trans (bW7.mono BW6.size); have CW7 := CW6.trans (bW7.mono CW6.size); replace rx := rx.later bW7; replace ry := ry.later bW7; replace rbx := rbx.later bW7; replace rby := rby.later bW7; replace rpx := rpx.later bW7; replace rpy := rpy.later bW7; replace rcx := rcx.later bW7; replace rcy := rcy.later bW7; replace rqx := rqx.later bW7; replace rqy := rqy.later bW7; have rd := Od.zr; obtain ⟨i00, i01, i10, i11, i20, i21, j0, j1, j2, j3⟩ := hcl2 W7 CW7; have u9 := u3.later BW7; obtain ⟨o0, o1⟩ := zcells u9; obtain ⟨p0, p1⟩ := zfrozen u9))
  go_wp2
  have i9 : In (g + 1 + 1 + 1) (g + 1 + 1 + 1 + 1) W7 ((W7.setCell ⟨g + 1 + 1 + 1, 0, none⟩ (.bool s7)).setCell ⟨g + 1 + 1 + 1, 1, none⟩ (.slice q7 n7 c7')) := (((In.refl (g + 1 + 1 + 1) (g + 1 + 1 + 1 + 1) W7).set1 0 _).set1 1 _)
  have q9 := ((u9.set 0 (.bool s7)).set 1 (.slice q7 n7 c7'))
  have T0 := q9.cell 0 (v := .bool s7) rfl
  have T1 := q9.cell 1 (v := .slice q7 n7 c7') rfl
  refine bodyPost_ret (v := .agg #[.bool s7, .slice q7 n7 c7']) (by simp [results, Tryz.results30, go_sem, T0, T1]) rfl ?_
  exact ⟨_, _, _, _, rfl, ((zo_mono Od (by omega)).inn i9 (by have := BW6.size; omega)).lower (by have := hb0.size; have := BW6.size; omega), below_in (hb0.trans (BW7.mono hb0.size)) i9 hRw (Nat.le_refl _)⟩
end Go.Proofs.YtbonkgmcpjaepabGreat

/- plumbref22: finite, Finite. -/
namespace Go.Proofs.YtbonkgmcpjaepabGreat
open Go.ChangeShapes Go.WideShapes Go.ChangeAt Go.RowKit
open Na Ar
set_option linter.unusedVariables false
theorem rfin_same {b : Int} (h : U b) (w : World) : Calls Tryz.prog 60 #[.int .u64 b] w fun e w' => e = .returned (.bool (ef b != 2047)) ∧ w = w' := by
  have he := field_and h
  generalize ef b = X at *
  go_enter Tryz.func60, Tryz.ntmps60
  go_wp2
  go_ret
  exact ⟨rfl, rfl⟩
set_option maxHeartbeats 3200000 in
set_option maxRecDepth 100000 in
theorem zFinite_any {w : World} {g n c : Nat} {P : Nat → Int × Int} (hP : PtAt w g 0 P n) (hn : n ≤ 1000000) :
    Calls Tryz.prog 27 #[.slice (some ⟨g, 0, none⟩) n c] w fun e w' => FinQ w n P e w' := by
  go_enter Tryz.func27, Tryz.ntmps27
  go_wp2
  go_loopw [3] (fun i wr => ∃ j : Nat, j ≤ n ∧ i = .int .i64 j ∧ Below w.heap.size w wr ∧ wr = w ∧ (∀ k, k < j → fin2 (P k))) (fun i _ => n - (intOf i).toNat)
  case atStart => exact ⟨0, Nat.zero_le _, rfl, Below.refl _ _, rfl, fun k hk => absurd hk (by omega)⟩
  case round =>
    obtain ⟨j, hj, rfl, hB, rfl, hF⟩ := hrel
    by_cases hlt : j < n
    · have i1 : (j : Int) < (n : Int) := by omega
      have hi0 : (0 : Int) ≤ (j : Int) := by omega
      obtain ⟨x0, x1, ux, uy⟩ := hP j hlt
      simp only [Nat.zero_add] at x0 x1
      have fx := fun w => rfin_same ux w
      have fy := fun w => rfin_same uy w
      have HF : Hid (∀ k, k < j → fin2 (P k)) := hF
      have HP : Hid (fin2 (P j) ↔ ef (P j).1 ≠ 2047 ∧ ef (P j).2 ≠ 2047) := Iff.rfl
      clear hF hP ux uy
      generalize (P j).1 = x at *
      generalize (P j).2 = y at *
      generalize ef x = X at *
      generalize ef y = Y at *
      by_cases hx : X = 2047
      · have tx : (X != 2047) = false := by simp [hx]
        rw [tx] at fx
        have HX : Hid (X = 2047) := hx
        clear hx tx
        go_wp2_with fail
        refine (fx _).mono ?_
        rintro e w' ⟨rfl, rfl⟩
        clear fx fy
        go_wp2
        go_ret
        exact ⟨false, rfl, ⟨fun h => (by cases h), fun h => absurd HX.out (HP.out.mp (h j hlt)).1⟩, hB⟩
      · have tx : (X != 2047) = true := by simp [hx]
        rw [tx] at fx
        have HX : Hid (X ≠ 2047) := hx
        clear hx tx
        by_cases hy : Y = 2047
        · have ty : (Y != 2047) = false := by simp [hy]
          rw [ty] at fy
          have HY : Hid (Y = 2047) := hy
          clear hy ty
          go_wp2_with fail
          refine (fx _).mono ?_
          rintro e w' ⟨rfl, rfl⟩
          go_wp2_with fail
          refine (fy _).mono ?_
          rintro e w' ⟨rfl, rfl⟩
          clear fx fy
          go_wp2
          go_ret
          exact ⟨false, rfl, ⟨fun h => (by cases h), fun h => absurd HY.out (HP.out.mp (h j hlt)).2⟩, hB⟩
        · have ty : (Y != 2047) = true := by simp [hy]
          rw [ty] at fy
          have HY : Hid (Y ≠ 2047) := hy
          clear hy ty
          go_wp2_with fail
          refine (fx _).mono ?_
          rintro e w' ⟨rfl, rfl⟩
          go_wp2_with fail
          refine (fy _).mono ?_
          rintro e w' ⟨rfl, rfl⟩
          clear fx fy
          go_wp2
          go_roundw
          case rel => exact ⟨j + 1, hlt, by go_num, hB, trivial, fun k hk => by
            by_cases e : k = j
            · subst e; exact HP.out.mpr ⟨HX.out, HY.out⟩
            · exact HF.out k (by omega)⟩
          case measure => simp [intOf]; omega
    · have i1 : ¬ (j : Int) < (n : Int) := by omega
      have hjn : j = n := by omega
      subst hjn
      have HF : Hid (∀ k, k < j → fin2 (P k)) := hF
      clear hF hP
      go_wp2
      go_ret
      exact ⟨true, rfl, ⟨fun _ => HF.out, fun _ => rfl⟩, hB⟩
end Go.Proofs.YtbonkgmcpjaepabGreat

/- plumbref22: Compare, Order (written by genzg.py). -/
namespace Go.Proofs.YtbonkgmcpjaepabGreat
open Go.ChangeShapes Go.WideShapes Go.ChangeAt Go.RowKit
open Na Ar
set_option linter.unusedVariables false
theorem below_drew_alloc (w : World) (o : Obj) : Below w.heap.size w (w.drew.alloc o) := (below_drewN (Below.refl w.heap.size w) 1).trans (alloc_below (w := w.drew) o)
/-- a place that a call has laid into a block of its own -/
def PnQ (w0 : World) (x y : Int) (k : Nat) (v : Value) (wx : World) : Prop := ∃ gP s a n c t b m d, v = .pointer (some ⟨gP, 0, none⟩) ∧ Pb wx gP 72 #[.bool s, .slice a n c, .bool t, .slice b m d] ∧ Zr wx s a n c x k ∧ Zr wx t b m d y k ∧ Below w0.heap.size w0 wx
theorem pnq_set {w0 W : World} {base gP : Nat} {t0 : Array Value} {s t : Bool} {a b : Option Addr} {n c m d k l : Nat} {x y : Int} (hB : Below w0.heap.size w0 W) (u : Pb W gP 72 t0) (h4 : t0.size = 4) (hx : ZO W base s (.slice a n c) x k) (hy : ZO W base t (.slice b m d) y k) (hg : gP < base) (hw : w0.heap.size ≤ gP) (hl : k ≤ l) :
    PnQ w0 x y l (.pointer (some ⟨gP, 0, none⟩)) ((((W.setCell ⟨gP, 0, none⟩ (.bool s)).setCell ⟨gP, 1, none⟩ (.slice a n c)).setCell ⟨gP, 2, none⟩ (.bool t)).setCell ⟨gP, 3, none⟩ (.slice b m d)) := by
  have i9 : In gP (gP + 1) W ((((W.setCell ⟨gP, 0, none⟩ (.bool s)).setCell ⟨gP, 1, none⟩ (.slice a n c)).setCell ⟨gP, 2, none⟩ (.bool t)).setCell ⟨gP, 3, none⟩ (.slice b m d)) := ((((In.refl gP (gP + 1) W).set1 0 _).set1 1 _).set1 2 _).set1 3 _
  have q9 := (((u.set 0 (.bool s)).set 1 (.slice a n c)).set 2 (.bool t)).set 3 (.slice b m d)
  obtain ⟨y0, y1, y2, y3, rfl⟩ : ∃ y0 y1 y2 y3, t0 = #[y0, y1, y2, y3] := by
    match t0, h4 with
    | ⟨[y0, y1, y2, y3]⟩, _ => exact ⟨y0, y1, y2, y3, rfl⟩
  exact ⟨gP, s, a, n, c, t, b, m, d, rfl, q9, (zo_mono (hx.inn i9 hg) hl).zr, (zo_mono (hy.inn i9 hg) hl).zr, below_in hB i9 hw (Nat.le_refl _)⟩
theorem pnq_new {w0 W : World} {base : Nat} {s t : Bool} {a b : Option Addr} {n c m d k l : Nat} {x y : Int} (hB : Below w0.heap.size w0 W) (hx : ZO W base s (.slice a n c) x k) (hy : ZO W base t (.slice b m d) y k) (hl : k ≤ l) :
    PnQ w0 x y l (.pointer (some ⟨W.heap.size, 0, none⟩)) (W.alloc (.cells #[.bool s, .slice a n c, .bool t, .slice b m d] 72)) := by
  have al := alloc_below (w := W) (.cells #[.bool s, .slice a n c, .bool t, .slice b m d] 72)
  exact ⟨_, s, a, n, c, t, b, m, d, rfl, Pb.new W _ _, ((zo_mono hx hl).later al).zr, ((zo_mono hy hl).later al).zr, hB.trans (al.mono hB.size)⟩
set_option maxHeartbeats 6400000 in
set_option maxRecDepth 100000 in
theorem zCompare_any {w : World} {a0 a1 : Int} {b0 b1 : Int} (ua0 : U a0) (ua1 : U a1) (fa0 : ef a0 ≠ 2047) (fa1 : ef a1 ≠ 2047) (ub0 : U b0) (ub1 : U b1) (fb0 : ef b0 ≠ 2047) (fb1 : ef b1 ≠ 2047) :
    Calls Tryz.prog 28 #[.agg #[.int .u64 a0, .int .u64 a1], .agg #[.int .u64 b0, .int .u64 b1]] w fun e w' => e = .returned (.int .i64 (ordI (wv a0) (wv a1) (wv b0) (wv b1))) ∧ Below w.heap.size w w' := by
  obtain ⟨w0, hw0, u0, u1, hb0, e0⟩ := blocks2 w #[.int .u64 a0, .int .u64 a1] #[.int .u64 b0, .int .u64 b1] 34 34
  obtain ⟨g, hg⟩ : ∃ g, g = w.heap.size := ⟨_, rfl⟩
  have HG : Hid (w.heap.size = g) := hg.symm
  rw [← hg] at u0 u1 e0
  have hR : g + 1 < w0.heap.size := by omega
  have hRw : w.heap.size ≤ g + 1 := by omega
  have hcl : ∀ w', Below w0.heap.size w0 w' → w'.cell? ⟨g, 0, none⟩ = some (.int .u64 a0) ∧ w'.cell? ⟨g, 1, none⟩ = some (.int .u64 a1) ∧ w'.cell? ⟨g + 1, 0, none⟩ = some (.int .u64 b0) ∧ w'.cell? ⟨g + 1, 1, none⟩ = some (.int .u64 b1) := by
    intro w' h
    obtain ⟨i00, i01⟩ := zcells (u0.later h)
    obtain ⟨i10, i11⟩ := zcells (u1.later h)
    exact ⟨i00, i01, i10, i11⟩
  obtain ⟨i00, i01, i10, i11⟩ := hcl w0 (Below.refl _ _)
  have nd1 : ¬ g = g + 1 := by omega
  have md1 : ¬ g + 1 = g := by omega
  clear e0
  have Bw0 := Below.refl w0.heap.size w0
  go_enter Tryz.func28, Tryz.ntmps28
  go_upto_region 1 with fail
  rw [← hw0, ← hg]
  clear hw0 hg
  go_cut [5] (fun v wx => PnQ w0 (wv a0 - wv b0) (wv a1 - wv b1) 200 v wx)
  case first =>
    go_region_held3 (fun w' => w'.cell? ⟨g, 0, none⟩ = some (.int .u64 a0) ∧ w'.cell? ⟨g, 1, none⟩ = some (.int .u64 a1) ∧ w'.cell? ⟨g + 1, 0, none⟩ = some (.int .u64 b0) ∧ w'.cell? ⟨g + 1, 1, none⟩ = some (.int .u64 b1)) (go_keep) (first | (go_at_call_of 34 a0; refine (zAt_at (w0 := w0) ua0 ua1 fa0 fa1 (by first | exact Below.refl _ _ | exact below_drewN (Below.refl _ _) _)).mono ?_; rintro e V1 ⟨s1, q1, n1, c1', t1, z1, m1, d1, rfl, Oax, Oay, szV1, bV1⟩; have BV1 := Bw0.trans (bV1.mono Bw0.size); have CV1 := bV1; have rax := Oax.zr; have ray := Oay.zr; obtain ⟨i00, i01, i10, i11⟩ := hcl V1 CV1; try (replace uN := uN.later bV1; obtain ⟨o0, o1, o2, o3⟩ := pcells uN; obtain ⟨p0, p1, p2, p3⟩ := pfrozen uN)) | (go_at_call_of 34 a0; refine (zAt_any ua0 ua1 fa0 fa1).mono ?_; rintro e V1 ⟨s1, q1, n1, c1', t1, z1, m1, d1, rfl, Oax, Oay, bX⟩; have al := (below_drew_alloc w0 (.cells #[.bool false, .slice none 0 0, .bool false, .slice none 0 0] 72)); have bV1 := al.trans (bX.mono al.size); have BV1 := Bw0.trans (bV1.mono Bw0.size); have CV1 := bV1; have rax := Oax.zr; have ray := Oay.zr; obtain ⟨i00, i01, i10, i11⟩ := hcl V1 CV1; have uN : Pb V1 w0.heap.size 72 #[.bool false, .slice none 0 0, .bool false, .slice none 0 0] := (Pb.new w0.drew 72 #[.bool false, .slice none 0 0, .bool false, .slice none 0 0]).later bX; obtain ⟨o0, o1, o2, o3⟩ := pcells uN; obtain ⟨p0, p1, p2, p3⟩ := pfrozen uN; have gPs : w0.heap.size < V1.heap.size := uN.lt; have nW0 : ¬ g = w0.heap.size := (by have := Bw0.size; omega); have mW0 : ¬ w0.heap.size = g := (by have := Bw0.size; omega); have nW1 : ¬ g + 1 = w0.heap.size := (by have := Bw0.size; omega); have mW1 : ¬ w0.heap.size = g + 1 := (by have := Bw0.size; omega)) | (go_at_call_of 34 b0; refine (zAt_at (w0 := V1) ub0 ub1 fb0 fb1 (by first | exact Below.refl _ _ | exact below_drewN (Below.refl _ _) _)).mono ?_; rintro e V2 ⟨s2, q2, n2, c2', t2, z2, m2, d2, rfl, Obx, Oby, szV2, bV2⟩; have BV2 := BV1.trans (bV2.mono BV1.size); have CV2 := CV1.trans (bV2.mono CV1.size); replace rax := rax.later bV2; replace ray := ray.later bV2; have rbx := Obx.zr; have rby := Oby.zr; obtain ⟨i00, i01, i10, i11⟩ := hcl V2 CV2; try (replace uN := uN.later bV2; obtain ⟨o0, o1, o2, o3⟩ := pcells uN; obtain ⟨p0, p1, p2, p3⟩ := pfrozen uN)) | (go_at_call_of 34 b0; refine (zAt_any ub0 ub1 fb0 fb1).mono ?_; rintro e V2 ⟨s2, q2, n2, c2', t2, z2, m2, d2, rfl, Obx, Oby, bX⟩; have al := (alloc_below (w := V1) (.cells #[.bool false, .slice none 0 0, .bool false, .slice none 0 0] 72)); have bV2 := al.trans (bX.mono al.size); have BV2 := BV1.trans (bV2.mono BV1.size); have CV2 := CV1.trans (bV2.mono CV1.size); replace rax := rax.later bV2; replace ray := ray.later bV2; have rbx := Obx.zr; have rby := Oby.zr; obtain ⟨i00, i01, i10, i11⟩ := hcl V2 CV2; have uN : Pb V2 V1.heap.size 72 #[.bool false, .slice none 0 0, .bool false, .slice none 0 0] := (Pb.new V1 72 #[.bool false, .slice none 0 0, .bool false, .slice none 0 0]).later bX; obtain ⟨o0, o1, o2, o3⟩ := pcells uN; obtain ⟨p0, p1, p2, p3⟩ := pfrozen uN; have gPs : V1.heap.size < V2.heap.size := uN.lt; have nW0 : ¬ g = V1.heap.size := (by have := BV1.size; omega); have mW0 : ¬ V1.heap.size = g := (by have := BV1.size; omega); have nW1 : ¬ g + 1 = V1.heap.size := (by have := BV1.size; omega); have mW1 : ¬ V1.heap.size = g + 1 := (by have := BV1.size; omega)) | (go_at_call_of 33 q1; refine (zMinus_at rax (by omega) ray (by omega) rbx (by omega) rby (by omega) (by first | exact Below.refl _ _ | exact below_drewN (Below.refl _ _) _)).mono ?_; rintro e V3 ⟨s3, q3, n3, c3', t3, z3, m3, d3, rfl, Opx, Opy, szV3, bV3⟩; have BV3 := BV2.trans (bV3.mono BV2.size); have CV3 := CV2.trans (bV3.mono CV2.size); replace rax := rax.later bV3; replace ray := ray.later bV3; replace rbx := rbx.later bV3; replace rby := rby.later bV3; have rpx := Opx.zr; have rpy := Opy.zr; obtain ⟨i00, i01, i10, i11⟩ := hcl V3 CV3; try (replace uN := uN.later bV3; obtain ⟨o0, o1, o2, o3⟩ := pcells uN; obtain ⟨p0, p1, p2, p3⟩ := pfrozen uN)) | (go_at_call_of 33 q1; refine (zMinus_any (rax.later (alloc_below (w := V2) (.cells #[.bool false, .slice none 0 0, .bool false, .slice none 0 0] 72))) (by omega) (ray.later (alloc_below (w := V2) (.cells #[.bool false, .slice none 0 0, .bool false, .slice none 0 0] 72))) (by omega) (rbx.later (alloc_below (w := V2) (.cells #[.bool false, .slice none 0 0, .bool false, .slice none 0 0] 72))) (by omega) (rby.later (alloc_below (w := V2) (.cells #[.bool false, .slice none 0 0, .bool false, .slice none 0 0] 72))) (by omega)).mono ?_; rintro e V3 ⟨s3, q3, n3, c3', t3, z3, m3, d3, rfl, Opx, Opy, bX⟩; have al := (alloc_below (w := V2) (.cells #[.bool false, .slice none 0 0, .bool false, .slice none 0 0] 72)); have bV3 := al.trans (bX.mono al.size); have BV3 := BV2.trans (bV3.mono BV2.size); have CV3 := CV2.trans (bV3.mono CV2.size); replace rax := rax.later bV3; replace ray := ray.later bV3; replace rbx := rbx.later bV3; replace rby := rby.later bV3; have rpx := Opx.zr; have rpy := Opy.zr; obtain ⟨i00, i01, i10, i11⟩ := hcl V3 CV3; have uN : Pb V3 V2.heap.size 72 #[.bool false, .slice none 0 0, .bool false, .slice none 0 0] := (Pb.new V2 72 #[.bool false, .slice none 0 0, .bool false, .slice none 0 0]).later bX; obtain ⟨o0, o1, o2, o3⟩ := pcells uN; obtain ⟨p0, p1, p2, p3⟩ := pfrozen uN; have gPs : V2.heap.size < V3.heap.size := uN.lt; have nW0 : ¬ g = V2.heap.size := (by have := BV2.size; omega); have mW0 : ¬ V2.heap.size = g := (by have := BV2.size; omega); have nW1 : ¬ g + 1 = V2.heap.size := (by have := BV2.size; omega); have mW1 : ¬ V2.heap.size = g + 1 := (by have := BV2.size; omega)))
    have MARK2 := 1
    all_goals (first | (have hrel := pnq_set (l := 200) BV3 uN rfl Opx Opy (by omega) (by omega) (by omega)) | (have hrel := pnq_set (l := 200) BV3 uN rfl Opx Opy (by simp) (by have := BV2.size; omega) (by omega)) | (have hrel := pnq_set (l := 200) BV3 uN rfl Opx Opy (by have := BV1.size; have := BV2.size; have := bV2.size; omega) (by have := BV1.size; have := BV2.size; omega) (by omega)) | (have hrel := pnq_new (l := 200) BV3 Opx Opy (by omega)))
    all_goals ((try clear gPs); (try clear bX); (try clear al); (try clear uN); (try clear o0); (try clear o1); (try clear o2); (try clear o3); (try clear p0); (try clear p1); (try clear p2); (try clear p3); (try clear nW0); (try clear nW1); (try clear nW2); (try clear nW3); (try clear mW0); (try clear mW1); (try clear mW2); (try clear mW3); (try clear rax); (try clear Oax); (try clear ray); (try clear Oay); (try clear rbx); (try clear Obx); (try clear rby); (try clear Oby); (try clear rpx); (try clear Opx); (try clear rpy); (try clear Opy); (try clear szV3); (try clear bV3); (try clear CV3); (try clear BV3); (try clear szV2); (try clear bV2); (try clear CV2); (try clear BV2); (try clear szV1); (try clear bV1); (try clear CV1); (try clear BV1); (try clear i00); (try clear i01); (try clear i02); (try clear i03); (try clear i10); (try clear i11); (try clear i12); (try clear i13); (try clear i20); (try clear i21); (try clear i22); (try clear i23); (try clear i30); (try clear i31); (try clear i32); (try clear i33); (try clear nd1); (try clear nd2); (try clear nd3); (try clear md1); (try clear md2); (try clear md3); (try clear hcl); (try clear u0); (try clear u1); (try clear u2); (try clear hR); (try clear hRw); (try clear HG); (try clear hb0); (try clear Bw0); (try clear ua0); (try clear ua1); (try clear ub0); (try clear ub1); (try clear uc0); (try clear uc1); (try clear ud0); (try clear ud1); (try clear fa0); (try clear fa1); (try clear fb0); (try clear fb1); (try clear fc0); (try clear fc1); (try clear fd0); (try clear fd1))
    have MARK5 := 1
    all_goals go_wp2
    have MARK6 := 1
    all_goals (go_meet; exact hrel)
  have MARK3 := 1
  obtain ⟨gP, s, a, n, c, t, b, m, d, rfl, uP, rX, rY, hbP⟩ := hcut
  obtain ⟨o0, o1, o2, o3⟩ := pcells uP
  have B1 := hb0.trans (hbP.mono hb0.size)
  have cX := zSign_any rX (by omega)
  by_cases h0 : sgI (wv a0 - wv b0) = 0
  · have e1 : Hid (ordI (wv a0) (wv a1) (wv b0) (wv b1) = sgI (wv a1 - wv b1)) := by show _ = _; unfold ordI; rw [if_pos h0]
    rw [h0] at cX
    clear h0
    go_wp2_with fail
    refine cX.mono ?_
    rintro e w2 ⟨rfl, hb2⟩
    obtain ⟨o0, o1, o2, o3⟩ := pcells (uP.later hb2)
    have cY := zSign_any (rY.later hb2) (by omega)
    have B2 := B1.trans (hb2.mono B1.size)
    go_wp2_with fail
    refine cY.mono ?_
    rintro e w3 ⟨rfl, hb3⟩
    have B3 := B2.trans (hb3.mono B2.size)
    go_wp2
    go_ret
    exact ⟨by rw [e1.out]; rfl, B3⟩
  · have e1 : Hid (ordI (wv a0) (wv a1) (wv b0) (wv b1) = sgI (wv a0 - wv b0)) := by show _ = _; unfold ordI; rw [if_neg h0]
    have t1 : (sgI (wv a0 - wv b0) != 0) = true := by simp [h0]
    clear h0
    go_wp2_with fail
    refine cX.mono ?_
    rintro e w2 ⟨rfl, hb2⟩
    obtain ⟨o0, o1, o2, o3⟩ := pcells (uP.later hb2)
    have cY := zSign_any (rX.later hb2) (by omega)
    have B2 := B1.trans (hb2.mono B1.size)
    go_wp2_with fail
    refine cY.mono ?_
    rintro e w3 ⟨rfl, hb3⟩
    have B3 := B2.trans (hb3.mono B2.size)
    go_wp2
    go_ret
    exact ⟨by rw [e1.out]; rfl, B3⟩
set_option maxHeartbeats 6400000 in
set_option maxRecDepth 100000 in
theorem zOrder_inf {w : World} {a0 a1 : Int} {b0 b1 : Int} (ua0 : U a0) (ua1 : U a1) (ub0 : U b0) (ub1 : U b1) (hfin : ¬ ∀ i, i < 2 → fin2 ([(a0, a1), (b0, b1)].getD i (0, 0))) :
    Calls Tryz.prog 23 #[.agg #[.int .u64 a0, .int .u64 a1], .agg #[.int .u64 b0, .int .u64 b1]] w fun e w' => e = .returned (.tuple #[.int .i64 0, .int .i64 220]) ∧ Below w.heap.size w w' := by
  obtain ⟨w0, hw0, u0, u1, hb0, e0⟩ := blocks2 w #[.int .u64 a0, .int .u64 a1] #[.int .u64 b0, .int .u64 b1] 34 34
  have hPt := ptAt2 w0 34 (u2_of ua0 ua1) (u2_of ub0 ub1)
  have al := alloc_below (w := w0) (.cells #[.int .u64 a0, .int .u64 a1, .int .u64 b0, .int .u64 b1] 34)
  have hq := zFinite_any (c := 2) hPt (by omega)
  have hB1 := hb0.trans (al.mono hb0.size)
  replace u0 := u0.later al
  replace u1 := u1.later al
  obtain ⟨g, hg⟩ : ∃ g, g = w.heap.size := ⟨_, rfl⟩
  have hs : w0.heap.size = g + 1 + 1 := by omega
  rw [hs] at hq
  rw [← hg] at u0 u1
  clear hPt e0 al hs
  go_enter Tryz.func23, Tryz.ntmps23
  go_wp2_with fail
  rw [← hw0, ← hg]
  clear hw0 hg
  generalize w0.alloc (.cells #[.int .u64 a0, .int .u64 a1, .int .u64 b0, .int .u64 b1] 34) = w1 at *
  refine hq.mono ?_
  rintro e w2 ⟨FB, rfl, hFB, hb2⟩
  obtain rfl : FB = false := by cases FB; rfl; exact absurd (hFB.mp rfl) hfin
  have B2 := hB1.trans (hb2.mono hB1.size)
  replace u0 := u0.later hb2
  obtain ⟨j00, j01⟩ := zcells u0
  replace u1 := u1.later hb2
  obtain ⟨j10, j11⟩ := zcells u1
  clear hq hFB hfin hB1 hb2 hb0
  go_wp2
  go_ret2
  exact ⟨rfl, B2⟩
set_option maxHeartbeats 6400000 in
set_option maxRecDepth 100000 in
theorem zOrient_inf {w : World} {a0 a1 : Int} {b0 b1 : Int} {c0 c1 : Int} (ua0 : U a0) (ua1 : U a1) (ub0 : U b0) (ub1 : U b1) (uc0 : U c0) (uc1 : U c1) (hfin : ¬ ∀ i, i < 3 → fin2 ([(a0, a1), (b0, b1), (c0, c1)].getD i (0, 0))) :
    Calls Tryz.prog 12 #[.agg #[.int .u64 a0, .int .u64 a1], .agg #[.int .u64 b0, .int .u64 b1], .agg #[.int .u64 c0, .int .u64 c1]] w fun e w' => e = .returned (.tuple #[.int .i64 0, .int .i64 220]) ∧ Below w.heap.size w w' := by
  obtain ⟨w0, hw0, u0, u1, u2, hb0, e0⟩ := blocks3 w #[.int .u64 a0, .int .u64 a1] #[.int .u64 b0, .int .u64 b1] #[.int .u64 c0, .int .u64 c1] 34 34 34
  have hPt := ptAt3 w0 34 (u2_of ua0 ua1) (u2_of ub0 ub1) (u2_of uc0 uc1)
  have al := alloc_below (w := w0) (.cells #[.int .u64 a0, .int .u64 a1, .int .u64 b0, .int .u64 b1, .int .u64 c0, .int .u64 c1] 34)
  have hq := zFinite_any (c := 3) hPt (by omega)
  have hB1 := hb0.trans (al.mono hb0.size)
  replace u0 := u0.later al
  replace u1 := u1.later al
  replace u2 := u2.later al
  obtain ⟨g, hg⟩ : ∃ g, g = w.heap.size := ⟨_, rfl⟩
  have hs : w0.heap.size = g + 1 + 1 + 1 := by omega
  rw [hs] at hq
  rw [← hg] at u0 u1 u2
  clear hPt e0 al hs
  go_enter Tryz.func12, Tryz.ntmps12
  go_wp2_with fail
  rw [← hw0, ← hg]
  clear hw0 hg
  generalize w0.alloc (.cells #[.int .u64 a0, .int .u64 a1, .int .u64 b0, .int .u64 b1, .int .u64 c0, .int .u64 c1] 34) = w1 at *
  refine hq.mono ?_
  rintro e w2 ⟨FB, rfl, hFB, hb2⟩
  obtain rfl : FB = false := by cases FB; rfl; exact absurd (hFB.mp rfl) hfin
  have B2 := hB1.trans (hb2.mono hB1.size)
  replace u0 := u0.later hb2
  obtain ⟨j00, j01⟩ := zcells u0
  replace u1 := u1.later hb2
  obtain ⟨j10, j11⟩ := zcells u1
  replace u2 := u2.later hb2
  obtain ⟨j20, j21⟩ := zcells u2
  clear hq hFB hfin hB1 hb2 hb0
  go_wp2
  go_ret2
  exact ⟨rfl, B2⟩
set_option maxHeartbeats 6400000 in
set_option maxRecDepth 100000 in
theorem zNearer_inf {w : World} {a0 a1 : Int} {b0 b1 : Int} {c0 c1 : Int} {d0 d1 : Int} (ua0 : U a0) (ua1 : U a1) (ub0 : U b0) (ub1 : U b1) (uc0 : U c0) (uc1 : U c1) (ud0 : U d0) (ud1 : U d1) (hfin : ¬ ∀ i, i < 4 → fin2 ([(a0, a1), (b0, b1), (c0, c1), (d0, d1)].getD i (0, 0))) :
    Calls Tryz.prog 21 #[.agg #[.int .u64 a0, .int .u64 a1], .agg #[.int .u64 b0, .int .u64 b1], .agg #[.int .u64 c0, .int .u64 c1], .agg #[.int .u64 d0, .int .u64 d1]] w fun e w' => e = .returned (.tuple #[.int .i64 0, .int .i64 220]) ∧ Below w.heap.size w w' := by
  obtain ⟨w0, hw0, u0, u1, u2, u3, hb0, e0⟩ := blocks4 w #[.int .u64 a0, .int .u64 a1] #[.int .u64 b0, .int .u64 b1] #[.int .u64 c0, .int .u64 c1] #[.int .u64 d0, .int .u64 d1] 34 34 34 34
  have hPt := ptAt4 w0 34 (u2_of ua0 ua1) (u2_of ub0 ub1) (u2_of uc0 uc1) (u2_of ud0 ud1)
  have al := alloc_below (w := w0) (.cells #[.int .u64 a0, .int .u64 a1, .int .u64 b0, .int .u64 b1, .int .u64 c0, .int .u64 c1, .int .u64 d0, .int .u64 d1] 34)
  have hq := zFinite_any (c := 4) hPt (by omega)
  have hB1 := hb0.trans (al.mono hb0.size)
  replace u0 := u0.later al
  replace u1 := u1.later al
  replace u2 := u2.later al
  replace u3 := u3.later al
  obtain ⟨g, hg⟩ : ∃ g, g = w.heap.size := ⟨_, rfl⟩
  have hs : w0.heap.size = g + 1 + 1 + 1 + 1 := by omega
  rw [hs] at hq
  rw [← hg] at u0 u1 u2 u3
  clear hPt e0 al hs
  go_enter Tryz.func21, Tryz.ntmps21
  go_wp2_with fail
  rw [← hw0, ← hg]
  clear hw0 hg
  generalize w0.alloc (.cells #[.int .u64 a0, .int .u64 a1, .int .u64 b0, .int .u64 b1, .int .u64 c0, .int .u64 c1, .int .u64 d0, .int .u64 d1] 34) = w1 at *
  refine hq.mono ?_
  rintro e w2 ⟨FB, rfl, hFB, hb2⟩
  obtain rfl : FB = false := by cases FB; rfl; exact absurd (hFB.mp rfl) hfin
  have B2 := hB1.trans (hb2.mono hB1.size)
  replace u0 := u0.later hb2
  obtain ⟨j00, j01⟩ := zcells u0
  replace u1 := u1.later hb2
  obtain ⟨j10, j11⟩ := zcells u1
  replace u2 := u2.later hb2
  obtain ⟨j20, j21⟩ := zcells u2
  replace u3 := u3.later hb2
  obtain ⟨j30, j31⟩ := zcells u3
  clear hq hFB hfin hB1 hb2 hb0
  go_wp2
  go_ret2
  exact ⟨rfl, B2⟩
set_option maxHeartbeats 6400000 in
set_option maxRecDepth 100000 in
theorem zInCircle_inf {w : World} {a0 a1 : Int} {b0 b1 : Int} {c0 c1 : Int} {d0 d1 : Int} (ua0 : U a0) (ua1 : U a1) (ub0 : U b0) (ub1 : U b1) (uc0 : U c0) (uc1 : U c1) (ud0 : U d0) (ud1 : U d1) (hfin : ¬ ∀ i, i < 4 → fin2 ([(a0, a1), (b0, b1), (c0, c1), (d0, d1)].getD i (0, 0))) :
    Calls Tryz.prog 17 #[.agg #[.int .u64 a0, .int .u64 a1], .agg #[.int .u64 b0, .int .u64 b1], .agg #[.int .u64 c0, .int .u64 c1], .agg #[.int .u64 d0, .int .u64 d1]] w fun e w' => e = .returned (.tuple #[.int .i64 0, .int .i64 220]) ∧ Below w.heap.size w w' := by
  obtain ⟨w0, hw0, u0, u1, u2, u3, hb0, e0⟩ := blocks4 w #[.int .u64 a0, .int .u64 a1] #[.int .u64 b0, .int .u64 b1] #[.int .u64 c0, .int .u64 c1] #[.int .u64 d0, .int .u64 d1] 34 34 34 34
  have hPt := ptAt4 w0 34 (u2_of ua0 ua1) (u2_of ub0 ub1) (u2_of uc0 uc1) (u2_of ud0 ud1)
  have al := alloc_below (w := w0) (.cells #[.int .u64 a0, .int .u64 a1, .int .u64 b0, .int .u64 b1, .int .u64 c0, .int .u64 c1, .int .u64 d0, .int .u64 d1] 34)
  have hq := zFinite_any (c := 4) hPt (by omega)
  have hB1 := hb0.trans (al.mono hb0.size)
  replace u0 := u0.later al
  replace u1 := u1.later al
  replace u2 := u2.later al
  replace u3 := u3.later al
  obtain ⟨g, hg⟩ : ∃ g, g = w.heap.size := ⟨_, rfl⟩
  have hs : w0.heap.size = g + 1 + 1 + 1 + 1 := by omega
  rw [hs] at hq
  rw [← hg] at u0 u1 u2 u3
  clear hPt e0 al hs
  go_enter Tryz.func17, Tryz.ntmps17
  go_wp2_with fail
  rw [← hw0, ← hg]
  clear hw0 hg
  generalize w0.alloc (.cells #[.int .u64 a0, .int .u64 a1, .int .u64 b0, .int .u64 b1, .int .u64 c0, .int .u64 c1, .int .u64 d0, .int .u64 d1] 34) = w1 at *
  refine hq.mono ?_
  rintro e w2 ⟨FB, rfl, hFB, hb2⟩
  obtain rfl : FB = false := by cases FB; rfl; exact absurd (hFB.mp rfl) hfin
  have B2 := hB1.trans (hb2.mono hB1.size)
  replace u0 := u0.later hb2
  obtain ⟨j00, j01⟩ := zcells u0
  replace u1 := u1.later hb2
  obtain ⟨j10, j11⟩ := zcells u1
  replace u2 := u2.later hb2
  obtain ⟨j20, j21⟩ := zcells u2
  replace u3 := u3.later hb2
  obtain ⟨j30, j31⟩ := zcells u3
  clear hq hFB hfin hB1 hb2 hb0
  go_wp2
  go_ret2
  exact ⟨rfl, B2⟩
set_option maxHeartbeats 6400000 in
set_option maxRecDepth 100000 in
theorem zBetween_inf {w : World} {a0 a1 : Int} {b0 b1 : Int} {c0 c1 : Int} (ua0 : U a0) (ua1 : U a1) (ub0 : U b0) (ub1 : U b1) (uc0 : U c0) (uc1 : U c1) (hfin : ¬ ∀ i, i < 3 → fin2 ([(a0, a1), (b0, b1), (c0, c1)].getD i (0, 0))) :
    Calls Tryz.prog 19 #[.agg #[.int .u64 a0, .int .u64 a1], .agg #[.int .u64 b0, .int .u64 b1], .agg #[.int .u64 c0, .int .u64 c1]] w fun e w' => e = .returned (.tuple #[.bool false, .int .i64 220]) ∧ Below w.heap.size w w' := by
  obtain ⟨w0, hw0, u0, u1, u2, hb0, e0⟩ := blocks3 w #[.int .u64 a0, .int .u64 a1] #[.int .u64 b0, .int .u64 b1] #[.int .u64 c0, .int .u64 c1] 34 34 34
  have hPt := ptAt3 w0 34 (u2_of ua0 ua1) (u2_of ub0 ub1) (u2_of uc0 uc1)
  have al := alloc_below (w := w0) (.cells #[.int .u64 a0, .int .u64 a1, .int .u64 b0, .int .u64 b1, .int .u64 c0, .int .u64 c1] 34)
  have hq := zFinite_any (c := 3) hPt (by omega)
  have hB1 := hb0.trans (al.mono hb0.size)
  replace u0 := u0.later al
  replace u1 := u1.later al
  replace u2 := u2.later al
  obtain ⟨g, hg⟩ : ∃ g, g = w.heap.size := ⟨_, rfl⟩
  have hs : w0.heap.size = g + 1 + 1 + 1 := by omega
  rw [hs] at hq
  rw [← hg] at u0 u1 u2
  clear hPt e0 al hs
  go_enter Tryz.func19, Tryz.ntmps19
  go_wp2_with fail
  rw [← hw0, ← hg]
  clear hw0 hg
  generalize w0.alloc (.cells #[.int .u64 a0, .int .u64 a1, .int .u64 b0, .int .u64 b1, .int .u64 c0, .int .u64 c1] 34) = w1 at *
  refine hq.mono ?_
  rintro e w2 ⟨FB, rfl, hFB, hb2⟩
  obtain rfl : FB = false := by cases FB; rfl; exact absurd (hFB.mp rfl) hfin
  have B2 := hB1.trans (hb2.mono hB1.size)
  replace u0 := u0.later hb2
  obtain ⟨j00, j01⟩ := zcells u0
  replace u1 := u1.later hb2
  obtain ⟨j10, j11⟩ := zcells u1
  replace u2 := u2.later hb2
  obtain ⟨j20, j21⟩ := zcells u2
  clear hq hFB hfin hB1 hb2 hb0
  go_wp2
  go_ret2
  exact ⟨rfl, B2⟩
set_option maxHeartbeats 6400000 in
set_option maxRecDepth 100000 in
theorem zOrder_fin {w : World} {a0 a1 : Int} {b0 b1 : Int} (ua0 : U a0) (ua1 : U a1) (ub0 : U b0) (ub1 : U b1) (fa0 : ef a0 ≠ 2047) (fa1 : ef a1 ≠ 2047) (fb0 : ef b0 ≠ 2047) (fb1 : ef b1 ≠ 2047) (hfin : ∀ i, i < 2 → fin2 ([(a0, a1), (b0, b1)].getD i (0, 0))) :
    Calls Tryz.prog 23 #[.agg #[.int .u64 a0, .int .u64 a1], .agg #[.int .u64 b0, .int .u64 b1]] w fun e w' => e = .returned (.tuple #[.int .i64 (ordI (wv a0) (wv a1) (wv b0) (wv b1)), .int .i64 0]) ∧ Below w.heap.size w w' := by
  obtain ⟨w0, hw0, u0, u1, hb0, e0⟩ := blocks2 w #[.int .u64 a0, .int .u64 a1] #[.int .u64 b0, .int .u64 b1] 34 34
  have hPt := ptAt2 w0 34 (u2_of ua0 ua1) (u2_of ub0 ub1)
  have al := alloc_below (w := w0) (.cells #[.int .u64 a0, .int .u64 a1, .int .u64 b0, .int .u64 b1] 34)
  have hq := zFinite_any (c := 2) hPt (by omega)
  have hB1 := hb0.trans (al.mono hb0.size)
  replace u0 := u0.later al
  replace u1 := u1.later al
  obtain ⟨g, hg⟩ : ∃ g, g = w.heap.size := ⟨_, rfl⟩
  have hs : w0.heap.size = g + 1 + 1 := by omega
  rw [hs] at hq
  rw [← hg] at u0 u1
  clear hPt e0 al hs
  go_enter Tryz.func23, Tryz.ntmps23
  go_wp2_with fail
  rw [← hw0, ← hg]
  clear hw0 hg
  generalize w0.alloc (.cells #[.int .u64 a0, .int .u64 a1, .int .u64 b0, .int .u64 b1] 34) = w1 at *
  refine hq.mono ?_
  rintro e w2 ⟨FB, rfl, hFB, hb2⟩
  obtain rfl : FB = true := hFB.mpr hfin
  have B2 := hB1.trans (hb2.mono hB1.size)
  replace u0 := u0.later hb2
  obtain ⟨j00, j01⟩ := zcells u0
  replace u1 := u1.later hb2
  obtain ⟨j10, j11⟩ := zcells u1
  clear hq hFB hfin hB1 hb2 hb0
  go_wp2_with fail
  refine (zCompare_any ua0 ua1 fa0 fa1 ub0 ub1 fb0 fb1).mono ?_
  rintro e w3 ⟨rfl, hb3⟩
  have B3 := B2.trans (hb3.mono B2.size)
  go_wp2
  go_ret2
  exact ⟨rfl, B3⟩
set_option maxHeartbeats 6400000 in
set_option maxRecDepth 100000 in
theorem zOrient_fin {w : World} {a0 a1 : Int} {b0 b1 : Int} {c0 c1 : Int} (ua0 : U a0) (ua1 : U a1) (ub0 : U b0) (ub1 : U b1) (uc0 : U c0) (uc1 : U c1) (fa0 : ef a0 ≠ 2047) (fa1 : ef a1 ≠ 2047) (fb0 : ef b0 ≠ 2047) (fb1 : ef b1 ≠ 2047) (fc0 : ef c0 ≠ 2047) (fc1 : ef c1 ≠ 2047) (hfin : ∀ i, i < 3 → fin2 ([(a0, a1), (b0, b1), (c0, c1)].getD i (0, 0))) :
    Calls Tryz.prog 12 #[.agg #[.int .u64 a0, .int .u64 a1], .agg #[.int .u64 b0, .int .u64 b1], .agg #[.int .u64 c0, .int .u64 c1]] w fun e w' => e = .returned (.tuple #[.int .i64 (sgI (crI (wv a0) (wv a1) (wv b0) (wv b1) (wv c0) (wv c1))), .int .i64 0]) ∧ Below w.heap.size w w' := by
  obtain ⟨w0, hw0, u0, u1, u2, hb0, e0⟩ := blocks3 w #[.int .u64 a0, .int .u64 a1] #[.int .u64 b0, .int .u64 b1] #[.int .u64 c0, .int .u64 c1] 34 34 34
  have hPt := ptAt3 w0 34 (u2_of ua0 ua1) (u2_of ub0 ub1) (u2_of uc0 uc1)
  have al := alloc_below (w := w0) (.cells #[.int .u64 a0, .int .u64 a1, .int .u64 b0, .int .u64 b1, .int .u64 c0, .int .u64 c1] 34)
  have hq := zFinite_any (c := 3) hPt (by omega)
  have hB1 := hb0.trans (al.mono hb0.size)
  replace u0 := u0.later al
  replace u1 := u1.later al
  replace u2 := u2.later al
  obtain ⟨g, hg⟩ : ∃ g, g = w.heap.size := ⟨_, rfl⟩
  have hs : w0.heap.size = g + 1 + 1 + 1 := by omega
  rw [hs] at hq
  rw [← hg] at u0 u1 u2
  clear hPt e0 al hs
  go_enter Tryz.func12, Tryz.ntmps12
  go_wp2_with fail
  rw [← hw0, ← hg]
  clear hw0 hg
  generalize w0.alloc (.cells #[.int .u64 a0, .int .u64 a1, .int .u64 b0, .int .u64 b1, .int .u64 c0, .int .u64 c1] 34) = w1 at *
  refine hq.mono ?_
  rintro e w2 ⟨FB, rfl, hFB, hb2⟩
  obtain rfl : FB = true := hFB.mpr hfin
  have B2 := hB1.trans (hb2.mono hB1.size)
  replace u0 := u0.later hb2
  obtain ⟨j00, j01⟩ := zcells u0
  replace u1 := u1.later hb2
  obtain ⟨j10, j11⟩ := zcells u1
  replace u2 := u2.later hb2
  obtain ⟨j20, j21⟩ := zcells u2
  clear hq hFB hfin hB1 hb2 hb0
  go_wp2_with fail
  refine (zTurn_any ua0 ua1 fa0 fa1 ub0 ub1 fb0 fb1 uc0 uc1 fc0 fc1).mono ?_
  rintro e w3 ⟨s, a, n, c, rfl, O, hb3⟩
  have B3 := B2.trans (hb3.mono B2.size)
  have cS := zSign_any O.zr (by omega)
  go_wp2_with fail
  refine cS.mono ?_
  rintro e w4 ⟨rfl, hb4⟩
  have B4 := B3.trans (hb4.mono B3.size)
  go_wp2
  go_ret2
  exact ⟨rfl, B4⟩
end Go.Proofs.YtbonkgmcpjaepabGreat

/- plumbref22: Nearer, inside, Between (written by genzh.py). -/
namespace Go.Proofs.YtbonkgmcpjaepabGreat
open Go.ChangeShapes Go.WideShapes Go.ChangeAt Go.RowKit
open Na Ar
set_option linter.unusedVariables false
theorem zSign_at {w w0 : World} {s : Bool} {a : Option Addr} {n c : Nat} {z : Int} {k : Nat} (h1 : Zr w0 s a n c z k) (hk : k ≤ 100000) (h : Below w0.heap.size w0 w) :
    Calls Tryz.prog 29 #[.agg #[.bool s, .slice a n c]] w fun e w' => e = .returned (.int .i64 (sgI z)) ∧ Below w0.heap.size w0 w' := by
  refine (zSign_any (h1.later h) hk).mono ?_
  rintro e w' ⟨rfl, hb⟩
  exact ⟨rfl, h.trans (hb.mono h.size)⟩
set_option maxHeartbeats 6400000 in
set_option maxRecDepth 100000 in
theorem zNearer_fin {w : World} {a0 a1 : Int} {b0 b1 : Int} {c0 c1 : Int} {d0 d1 : Int} (ua0 : U a0) (ua1 : U a1) (ub0 : U b0) (ub1 : U b1) (uc0 : U c0) (uc1 : U c1) (ud0 : U d0) (ud1 : U d1) (fa0 : ef a0 ≠ 2047) (fa1 : ef a1 ≠ 2047) (fb0 : ef b0 ≠ 2047) (fb1 : ef b1 ≠ 2047) (fc0 : ef c0 ≠ 2047) (fc1 : ef c1 ≠ 2047) (fd0 : ef d0 ≠ 2047) (fd1 : ef d1 ≠ 2047) (hfin : ∀ i, i < 4 → fin2 ([(a0, a1), (b0, b1), (c0, c1), (d0, d1)].getD i (0, 0))) :
    Calls Tryz.prog 21 #[.agg #[.int .u64 a0, .int .u64 a1], .agg #[.int .u64 b0, .int .u64 b1], .agg #[.int .u64 c0, .int .u64 c1], .agg #[.int .u64 d0, .int .u64 d1]] w fun e w' => e = .returned (.tuple #[.int .i64 (sgI (sqI (wv a0) (wv a1) (wv b0) (wv b1) - sqI (wv c0) (wv c1) (wv d0) (wv d1))), .int .i64 0]) ∧ Below w.heap.size w w' := by
  obtain ⟨w0, hw0, u0, u1, u2, u3, hb0, e0⟩ := blocks4 w #[.int .u64 a0, .int .u64 a1] #[.int .u64 b0, .int .u64 b1] #[.int .u64 c0, .int .u64 c1] #[.int .u64 d0, .int .u64 d1] 34 34 34 34
  have hPt := ptAt4 w0 34 (u2_of ua0 ua1) (u2_of ub0 ub1) (u2_of uc0 uc1) (u2_of ud0 ud1)
  have al := alloc_below (w := w0) (.cells #[.int .u64 a0, .int .u64 a1, .int .u64 b0, .int .u64 b1, .int .u64 c0, .int .u64 c1, .int .u64 d0, .int .u64 d1] 34)
  have hq := zFinite_any (c := 4) hPt (by omega)
  have hB1 := hb0.trans (al.mono hb0.size)
  replace u0 := u0.later al
  replace u1 := u1.later al
  replace u2 := u2.later al
  replace u3 := u3.later al
  obtain ⟨g, hg⟩ : ∃ g, g = w.heap.size := ⟨_, rfl⟩
  have hs : w0.heap.size = g + 1 + 1 + 1 + 1 := by omega
  rw [hs] at hq
  rw [← hg] at u0 u1 u2 u3
  clear hPt e0 al hs
  go_enter Tryz.func21, Tryz.ntmps21
  go_wp2_with fail
  rw [← hw0, ← hg]
  clear hw0 hg
  generalize w0.alloc (.cells #[.int .u64 a0, .int .u64 a1, .int .u64 b0, .int .u64 b1, .int .u64 c0, .int .u64 c1, .int .u64 d0, .int .u64 d1] 34) = w1 at *
  refine hq.mono ?_
  rintro e w2 ⟨FB, rfl, hFB, hb2⟩
  obtain rfl : FB = true := hFB.mpr hfin
  have B2 := hB1.trans (hb2.mono hB1.size)
  replace u0 := u0.later hb2
  obtain ⟨j00, j01⟩ := zcells u0
  replace u1 := u1.later hb2
  obtain ⟨j10, j11⟩ := zcells u1
  replace u2 := u2.later hb2
  obtain ⟨j20, j21⟩ := zcells u2
  replace u3 := u3.later hb2
  obtain ⟨j30, j31⟩ := zcells u3
  clear hq hFB hfin hB1 hb2 hb0
  have hcl : ∀ w', Below w2.heap.size w2 w' → w'.cell? ⟨g, 0, none⟩ = some (.int .u64 a0) ∧ w'.cell? ⟨g, 1, none⟩ = some (.int .u64 a1) ∧ w'.cell? ⟨g + 1, 0, none⟩ = some (.int .u64 b0) ∧ w'.cell? ⟨g + 1, 1, none⟩ = some (.int .u64 b1) ∧ w'.cell? ⟨g + 1 + 1, 0, none⟩ = some (.int .u64 c0) ∧ w'.cell? ⟨g + 1 + 1, 1, none⟩ = some (.int .u64 c1) ∧ w'.cell? ⟨g + 1 + 1 + 1, 0, none⟩ = some (.int .u64 d0) ∧ w'.cell? ⟨g + 1 + 1 + 1, 1, none⟩ = some (.int .u64 d1) := by
    intro w' h
    obtain ⟨j00, j01⟩ := zcells (u0.later h)
    obtain ⟨j10, j11⟩ := zcells (u1.later h)
    obtain ⟨j20, j21⟩ := zcells (u2.later h)
    obtain ⟨j30, j31⟩ := zcells (u3.later h)
    exact ⟨j00, j01, j10, j11, j20, j21, j30, j31⟩
  have Bw2 := B2
  go_upto_region 3 with fail
  go_region_held3 (fun w' => w'.cell? ⟨g, 0, none⟩ = some (.int .u64 a0) ∧ w'.cell? ⟨g, 1, none⟩ = some (.int .u64 a1) ∧ w'.cell? ⟨g + 1, 0, none⟩ = some (.int .u64 b0) ∧ w'.cell? ⟨g + 1, 1, none⟩ = some (.int .u64 b1) ∧ w'.cell? ⟨g + 1 + 1, 0, none⟩ = some (.int .u64 c0) ∧ w'.cell? ⟨g + 1 + 1, 1, none⟩ = some (.int .u64 c1) ∧ w'.cell? ⟨g + 1 + 1 + 1, 0, none⟩ = some (.int .u64 d0) ∧ w'.cell? ⟨g + 1 + 1 + 1, 1, none⟩ = some (.int .u64 d1)) (go_keep) (first | (go_at_call_of 34 a0; refine (zAt_at (w0 := w2) ua0 ua1 fa0 fa1 (by first | exact Below.refl _ _ | exact below_drewN (Below.refl _ _) _)).mono ?_; rintro e W1 ⟨s1, q1, n1, c1', t1, z1, m1, d1, rfl, Oax, Oay, szW1, bW1⟩; have BW1 := Bw2.trans (bW1.mono Bw2.size); have CW1 := bW1; have rax := Oax.zr; have ray := Oay.zr; obtain ⟨j00, j01, j10, j11, j20, j21, j30, j31⟩ := hcl W1 CW1) | (go_at_call_of 34 b0; refine (zAt_at (w0 := W1) ub0 ub1 fb0 fb1 (by first | exact Below.refl _ _ | exact below_drewN (Below.refl _ _) _)).mono ?_; rintro e W2 ⟨s2, q2, n2, c2', t2, z2, m2, d2, rfl, Obx, Oby, szW2, bW2⟩; have BW2 := BW1.trans (bW2.mono BW1.size); have CW2 := CW1.trans (bW2.mono CW1.size); replace rax := rax.later bW2; replace ray := ray.later bW2; have rbx := Obx.zr; have rby := Oby.zr; obtain ⟨j00, j01, j10, j11, j20, j21, j30, j31⟩ := hcl W2 CW2) | (go_at_call_of 33 q1; refine (zMinus_at rax (by omega) ray (by omega) rbx (by omega) rby (by omega) (by first | exact Below.refl _ _ | exact below_drewN (Below.refl _ _) _)).mono ?_; rintro e W3 ⟨s3, q3, n3, c3', t3, z3, m3, d3, rfl, Opx, Opy, szW3, bW3⟩; have BW3 := BW2.trans (bW3.mono BW2.size); have CW3 := CW2.trans (bW3.mono CW2.size); replace rax := rax.later bW3; replace ray := ray.later bW3; replace rbx := rbx.later bW3; replace rby := rby.later bW3; have rpx := Opx.zr; have rpy := Opy.zr; obtain ⟨j00, j01, j10, j11, j20, j21, j30, j31⟩ := hcl W3 CW3) | (go_at_call_of 32 q3; refine (zSquare_at rpx (by omega) rpy (by omega) (by first | exact Below.refl _ _ | exact below_drewN (Below.refl _ _) _)).mono ?_; rintro e W4 ⟨s4, q4, n4, c4', rfl, Osq, szW4, bW4⟩; have BW4 := BW3.trans (bW4.mono BW3.size); have CW4 := CW3.trans (bW4.mono CW3.size); replace rax := rax.later bW4; replace ray := ray.later bW4; replace rbx := rbx.later bW4; replace rby := rby.later bW4; replace rpx := rpx.later bW4; replace rpy := rpy.later bW4; have rsq := Osq.zr; obtain ⟨j00, j01, j10, j11, j20, j21, j30, j31⟩ := hcl W4 CW4) | (go_at_call_of 34 c0; refine (zAt_at (w0 := W4) uc0 uc1 fc0 fc1 (by first | exact Below.refl _ _ | exact below_drewN (Below.refl _ _) _)).mono ?_; rintro e W5 ⟨s5, q5, n5, c5', t5, z5, m5, d5, rfl, Ocx, Ocy, szW5, bW5⟩; have BW5 := BW4.trans (bW5.mono BW4.size); have CW5 := CW4.trans (bW5.mono CW4.size); replace rax := rax.later bW5; replace ray := ray.later bW5; replace rbx := rbx.later bW5; replace rby := rby.later bW5; replace rpx := rpx.later bW5; replace rpy := rpy.later bW5; replace rsq := rsq.later bW5; have rcx := Ocx.zr; have rcy := Ocy.zr; obtain ⟨j00, j01, j10, j11, j20, j21, j30, j31⟩ := hcl W5 CW5) | (go_at_call_of 34 d0; refine (zAt_at (w0 := W5) ud0 ud1 fd0 fd1 (by first | exact Below.refl _ _ | exact below_drewN (Below.refl _ _) _)).mono ?_; rintro e W6 ⟨s6, q6, n6, c6', t6, z6, m6, d6, rfl, Odx, Ody, szW6, bW6⟩; have BW6 := BW5.trans (bW6.mono BW5.size); have CW6 := CW5.trans (bW6.mono CW5.size); replace rax := rax.later bW6; replace ray := ray.later bW6; replace rbx := rbx.later bW6; replace rby := rby.later bW6; replace rpx := rpx.later bW6; replace rpy := rpy.later bW6; replace rsq := rsq.later bW6; replace rcx := rcx.later bW6; replace rcy := rcy.later bW6; have rdx := Odx.zr; have rdy := Ody.zr; obtain ⟨j00, j01, j10, j11, j20, j21, j30, j31⟩ := hcl W6 CW6) | (go_at_call_of 33 q5; refine (zMinus_at rcx (by omega) rcy (by omega) rdx (by omega) rdy (by omega) (by first | exact Below.refl _ _ | exact below_drewN (Below.refl _ _) _)).mono ?_; rintro e W7 ⟨s7, q7, n7, c7', t7, z7, m7, d7, rfl, Oqx, Oqy, szW7, bW7⟩; have BW7 := BW6.trans (bW7.mono BW6.size); have CW7 := CW6.trans (bW7.mono CW6.size); replace rax := rax.later bW7; replace ray := ray.later bW7; replace rbx := rbx.later bW7; replace rby := rby.later bW7; replace rpx := rpx.later bW7; replace rpy := rpy.later bW7; replace rsq := rsq.later bW7; replace rcx := rcx.later bW7; replace rcy := rcy.later bW7; replace rdx := rdx.later bW7; replace rdy := rdy.later bW7; have rqx := Oqx.zr; have rqy := Oqy.zr; obtain ⟨j00, j01, j10, j11, j20, j21, j30, j31⟩ := hcl W7 CW7) | (go_at_call_of 32 q7; refine (zSquare_at rqx (by omega) rqy (by omega) (by first | exact Below.refl _ _ | exact below_drewN (Below.refl _ _) _)).mono ?_; rintro e W8 ⟨s8, q8, n8, c8', rfl, Otq, szW8, bW8⟩; have BW8 := BW7.trans (bW8.mono BW7.size); have CW8 := CW7.trans (bW8.mono CW7.size); replace rax := rax.later bW8; replace ray := ray.later bW8; replace rbx := rbx.later bW8; replace rby := rby.later bW8; replace rpx := rpx.later bW8; replace rpy := rpy.later bW8; replace rsq := rsq.later bW8; replace rcx := rcx.later bW8; replace rcy := rcy.later bW8; replace rdx := rdx.later bW8; replace rdy := rdy.later bW8; replace rqx := rqx.later bW8; replace rqy := rqy.later bW8; have rtq := Otq.zr; obtain ⟨j00, j01, j10, j11, j20, j21, j30, j31⟩ := hcl W8 CW8) | (go_at_call_of 31 q4; refine (zSub_at rsq (by omega) rtq (by omega) (by first | exact Below.refl _ _ | exact below_drewN (Below.refl _ _) _)).mono ?_; rintro e W9 ⟨s9, q9, n9, c9', rfl, Odf, szW9, bW9⟩; have BW9 := BW8.trans (bW9.mono BW8.size); have CW9 := CW8.trans (bW9.mono CW8.size); replace rax := rax.later bW9; replace ray := ray.later bW9; replace rbx := rbx.later bW9; replace rby := rby.later bW9; replace rpx := rpx.later bW9; replace rpy := rpy.later bW9; replace rsq := rsq.later bW9; replace rcx := rcx.later bW9; replace rcy := rcy.later bW9; replace rdx := rdx.later bW9; replace rdy := rdy.later bW9; replace rqx := rqx.later bW9; replace rqy := rqy.later bW9; replace rtq := rtq.later bW9; have rdf := Odf.zr; obtain ⟨j00, j01, j10, j11, j20, j21, j30, j31⟩ := hcl W9 CW9) | (go_at_call_of 29 q9; refine (zSign_at rdf (by omega) (by first | exact Below.refl _ _ | exact below_drewN (Below.refl _ _) _)).mono ?_; rintro e W10 ⟨rfl, bW10⟩; have BW10 := BW9.trans (bW10.mono BW9.size); have CW10 := CW9.trans (bW10.mono CW9.size); replace rax := rax.later bW10; replace ray := ray.later bW10; replace rbx := rbx.later bW10; replace rby := rby.later bW10; replace rpx := rpx.later bW10; replace rpy := rpy.later bW10; replace rsq := rsq.later bW10; replace rcx := rcx.later bW10; replace rcy := rcy.later bW10; replace rdx := rdx.later bW10; replace rdy := rdy.later bW10; replace rqx := rqx.later bW10; replace rqy := rqy.later bW10; replace rtq := rtq.later bW10; replace rdf := rdf.later bW10; obtain ⟨j00, j01, j10, j11, j20, j21, j30, j31⟩ := hcl W10 CW10))
  go_wp2
  go_ret2
  exact ⟨rfl, BW10⟩
set_option maxHeartbeats 6400000 in
set_option maxRecDepth 100000 in
theorem zInside_any {w : World} {sx : Bool} {ax : Option Addr} {nx cx kx : Nat} {zx : Int} {sy : Bool} {ay : Option Addr} {ny cy ky : Nat} {zy : Int} {sv : Bool} {av : Option Addr} {nv cv kv : Nat} {zv : Int} (hx : Zr w sx ax nx cx zx kx) (Hx : kx ≤ 10000) (hy : Zr w sy ay ny cy zy ky) (Hy : ky ≤ 10000) (hv : Zr w sv av nv cv zv kv) (Hv : kv ≤ 10000) :
    Calls Tryz.prog 48 #[.agg #[.bool sx, .slice ax nx cx], .agg #[.bool sy, .slice ay ny cy], .agg #[.bool sv, .slice av nv cv]] w fun e w' => e = .returned (.bool (decide (sgI (zv - zx) * sgI (zv - zy) ≤ 0))) ∧ Below w.heap.size w w' := by
  obtain ⟨w0, hw0, u0, u1, u2, hb0, e0⟩ := blocks3 w #[.bool sx, .slice ax nx cx] #[.bool sy, .slice ay ny cy] #[.bool sv, .slice av nv cv] 67 67 67
  obtain ⟨g, hg⟩ : ∃ g, g = w.heap.size := ⟨_, rfl⟩
  have HG : Hid (w.heap.size = g) := hg.symm
  rw [← hg] at u0 u1 u2 e0
  have hR : g + 2 < w0.heap.size := by omega
  have hRw : w.heap.size ≤ g + 2 := by omega
  have rx := hx.later hb0
  have ry := hy.later hb0
  have rv := hv.later hb0
  have hcl : ∀ w', Below w0.heap.size w0 w' → w'.cell? ⟨g, 0, none⟩ = some (.bool sx) ∧ w'.cell? ⟨g, 1, none⟩ = some (.slice ax nx cx) ∧ w'.cell? ⟨g + 1, 0, none⟩ = some (.bool sy) ∧ w'.cell? ⟨g + 1, 1, none⟩ = some (.slice ay ny cy) ∧ w'.cell? ⟨g + 1 + 1, 0, none⟩ = some (.bool sv) ∧ w'.cell? ⟨g + 1 + 1, 1, none⟩ = some (.slice av nv cv) := by
    intro w' h
    obtain ⟨i00, i01⟩ := zcells (u0.later h)
    obtain ⟨i10, i11⟩ := zcells (u1.later h)
    obtain ⟨i20, i21⟩ := zcells (u2.later h)
    exact ⟨i00, i01, i10, i11, i20, i21⟩
  obtain ⟨i00, i01, i10, i11, i20, i21⟩ := hcl w0 (Below.refl _ _)
  have nd1 : ¬ g = g + 1 := by omega
  have md1 : ¬ g + 1 = g := by omega
  have nd2 : ¬ g = g + 1 + 1 := by omega
  have md2 : ¬ g + 1 + 1 = g := by omega
  clear e0 hx hy hv
  have Bw0 := hb0
  have p1 := sgI_in (zv - zx)
  have p2 := sgI_in (zv - zy)
  obtain ⟨A, hA⟩ : ∃ A, sgI (zv - zx) = A := ⟨_, rfl⟩
  obtain ⟨B, hB⟩ : ∃ B, sgI (zv - zy) = B := ⟨_, rfl⟩
  have hAB : IntKind.i64.wrap (A * B) = A * B := by
    rw [IntKind.wrap_i64]
    have := mul_in (hA ▸ p1) (hB ▸ p2)
    omega
  rw [hA, hB]
  have HA := HL.mk hA
  have HB := HL.mk hB
  clear p1 p2 hA hB
  go_enter Tryz.func48, Tryz.ntmps48
  go_wp2
  rw [← hw0, ← hg]
  clear hw0 hg
  go_region_held3 (fun w' => w'.cell? ⟨g, 0, none⟩ = some (.bool sx) ∧ w'.cell? ⟨g, 1, none⟩ = some (.slice ax nx cx) ∧ w'.cell? ⟨g + 1, 0, none⟩ = some (.bool sy) ∧ w'.cell? ⟨g + 1, 1, none⟩ = some (.slice ay ny cy) ∧ w'.cell? ⟨g + 1 + 1, 0, none⟩ = some (.bool sv) ∧ w'.cell? ⟨g + 1 + 1, 1, none⟩ = some (.slice av nv cv)) (go_keep) (first | (go_at_call_of 31 ax; refine (zSub_at rv (by omega) rx (by omega) (by first | exact Below.refl _ _ | exact below_drewN (Below.refl _ _) _)).mono ?_; rintro e W1 ⟨s1, q1, n1, c1', rfl, Od, szW1, bW1⟩; have BW1 := Bw0.trans (bW1.mono Bw0.size); have CW1 := bW1; replace rx := rx.later bW1; replace ry := ry.later bW1; replace rv := rv.later bW1; have rd := Od.zr; obtain ⟨i00, i01, i10, i11, i20, i21⟩ := hcl W1 CW1) | (go_at_call_of 29 q1; refine (zSign_at rd (by omega) (by first | exact Below.refl _ _ | exact below_drewN (Below.refl _ _) _)).mono ?_; rintro e W2 ⟨rfl, bW2⟩; rw [HA.out]; have BW2 := BW1.trans (bW2.mono BW1.size); have CW2 := CW1.trans (bW2.mono CW1.size); replace rx := rx.later bW2; replace ry := ry.later bW2; replace rv := rv.later bW2; replace rd := rd.later bW2; obtain ⟨i00, i01, i10, i11, i20, i21⟩ := hcl W2 CW2) | (go_at_call_of 31 ay; refine (zSub_at rv (by omega) ry (by omega) (by first | exact Below.refl _ _ | exact below_drewN (Below.refl _ _) _)).mono ?_; rintro e W3 ⟨s3, q3, n3, c3', rfl, Oe, szW3, bW3⟩; have BW3 := BW2.trans (bW3.mono BW2.size); have CW3 := CW2.trans (bW3.mono CW2.size); replace rx := rx.later bW3; replace ry := ry.later bW3; replace rv := rv.later bW3; replace rd := rd.later bW3; have re := Oe.zr; obtain ⟨i00, i01, i10, i11, i20, i21⟩ := hcl W3 CW3) | (go_at_call_of 29 q3; refine (zSign_at re (by omega) (by first | exact Below.refl _ _ | exact below_drewN (Below.refl _ _) _)).mono ?_; rintro e W4 ⟨rfl, bW4⟩; rw [HB.out]; have BW4 := BW3.trans (bW4.mono BW3.size); have CW4 := CW3.trans (bW4.mono CW3.size); replace rx := rx.later bW4; replace ry := ry.later bW4; replace rv := rv.later bW4; replace rd := rd.later bW4; replace re := re.later bW4; obtain ⟨i00, i01, i10, i11, i20, i21⟩ := hcl W4 CW4))
  go_wp2
  go_ret
  exact ⟨rfl, BW4⟩
end Go.Proofs.YtbonkgmcpjaepabGreat

/- plumbref22: Area2. -/
namespace Go.Proofs.YtbonkgmcpjaepabGreat
open Go.ChangeShapes Go.WideShapes Go.ChangeAt Go.RowKit
open Na Ar
set_option linter.unusedVariables false
/-- the unit: two to the -1074 -/
def unit22 : Rat := mkR false 1 (e2 1074)
theorem unit_pos : 0 < unit22 := by
  have h := mk_lt22 (x := 0) (y := 1) (E := e2 1074) (by omega) (by omega) (e2_pos _)
  have z : mkR false 0 (e2 1074) = 0 := by
    unfold mkR
    have : sg false 0 = 0 := rfl
    rw [this, Rat.mkRat_eq_div, Rat.div_def]
    exact Rat.zero_mul _
  rw [z] at h
  exact h
theorem valR_wv {b : Int} (h : U b) (hf : ef b ≠ 2047) : valR b = ((wv b : Int) : Rat) * unit22 := by
  rw [valR_num h hf]
  unfold wv unit22 mkR
  have e : sg false 1 = 1 := rfl
  rw [e, Rat.mkRat_eq_div, Rat.mkRat_eq_div, Rat.div_def, Rat.div_def, Rat.intCast_one, Rat.one_mul]
theorem area_rat {z : Int} : ((z : Int) : Rat) * (unit22 * unit22) = mkRat z (e2 1074 * e2 1074).toNat := by
  unfold unit22 mkR
  have e : sg false 1 = 1 := rfl
  have p := e2_pos 1074
  generalize e2 1074 = E at *
  obtain ⟨n, rfl⟩ : ∃ n : Nat, E = (n : Int) := ⟨E.toNat, by omega⟩
  have t1 : ((n : Int) * (n : Int)).toNat = n * n := by rw [← Int.natCast_mul]; rfl
  have hn : (n : Rat) ≠ 0 := by
    have : n ≠ 0 := by omega
    exact_mod_cast this
  rw [t1, e, Int.toNat_natCast, Rat.mkRat_eq_div, Rat.mkRat_eq_div, Rat.natCast_mul, Rat.intCast_one]
  grind
theorem crR_wv {a0 a1 b0 b1 c0 c1 : Int} (ua0 : U a0) (ua1 : U a1) (ub0 : U b0) (ub1 : U b1) (uc0 : U c0) (uc1 : U c1) (fa0 : ef a0 ≠ 2047) (fa1 : ef a1 ≠ 2047) (fb0 : ef b0 ≠ 2047) (fb1 : ef b1 ≠ 2047) (fc0 : ef c0 ≠ 2047) (fc1 : ef c1 ≠ 2047) :
    crR (valR a0) (valR a1) (valR b0) (valR b1) (valR c0) (valR c1) = mkRat (crI (wv a0) (wv a1) (wv b0) (wv b1) (wv c0) (wv c1)) (e2 1074 * e2 1074).toNat := by
  rw [valR_wv ua0 fa0, valR_wv ua1 fa1, valR_wv ub0 fb0, valR_wv ub1 fb1, valR_wv uc0 fc0, valR_wv uc1 fc1, ← area_rat]
  unfold crR crI
  simp only [Rat.intCast_sub, Rat.intCast_mul]
  grind
end Go.Proofs.YtbonkgmcpjaepabGreat

/- plumbref22: Area2 (written by genzl.py). -/
namespace Go.Proofs.YtbonkgmcpjaepabGreat
open Go.ChangeShapes Go.WideShapes Go.ChangeAt Go.RowKit
open Na Ar
set_option linter.unusedVariables false
theorem shlOne_any (wx : World) : Calls Tryz.prog 38 #[.slice (some ⟨wx.heap.size, 0, none⟩) 1 1, .int .i64 2148] (wx.alloc (.cells #[.int .u64 1] 32)) fun e w' => ∃ a n c, e = .returned (.slice a n c) ∧ RowC w' a n c (words (e2 1074 * e2 1074)) ∧ Below wx.heap.size wx w' := by
  obtain ⟨r1, r2, r3⟩ := one_row wx (m := 1) (by unfold U; omega)
  have h := ref3Shl_any (c1 := 1) r1.1 r2 (by omega) 2148 (by omega)
  rw [r3] at h
  have e : (1 : Int) * 2 ^ 2148 = e2 1074 * e2 1074 := by
    rw [Int.one_mul, ← e2_add (by omega) (by omega)]; rfl
  rw [e] at h
  refine h.mono ?_
  rintro e w' ⟨v, rfl, ho, hb⟩
  obtain ⟨a, c, rfl, hr⟩ := ho.readsC
  have al := alloc_below (w := wx) (.cells #[.int .u64 1] 32)
  exact ⟨a, _, c, rfl, hr, al.trans (hb.mono al.size)⟩
theorem unit_len : (words (e2 1074 * e2 1074)).length ≤ 40 := by
  have e : e2 1074 * e2 1074 = 1 * 2 ^ 2148 := by
    rw [Int.one_mul, ← e2_add (by omega) (by omega)]; rfl
  rw [e]
  exact Nat.le_trans ((Lt.word (x := 1) ⟨by omega, by omega⟩).pow2 (t := 2148)).len (by omega)
theorem rLow_at {w0 w : World} {s : Bool} {a b : Option Addr} {n c m d k : Nat} {z T : Int} (h1 : Zr w0 s a n c z k) (h2 : RowC w0 b m d (words T)) (hT : 0 < T) (hTl : (words T).length ≤ 1000) (hk : k ≤ 100000) (h : Below w0.heap.size w0 w) :
    Calls Tryz.prog 37 #[.slice a n c, .slice b m d] w fun e w' => ∃ a1 n1 d1 a2 n2 d2 N, e = .returned (.tuple #[.slice a1 n1 d1, .slice a2 n2 d2]) ∧ sg s N = z ∧ 0 ≤ N ∧ RowC w' a1 n1 d1 (words (N / (Int.gcd N T : Int))) ∧ RowC w' a2 n2 d2 (words (T / (Int.gcd N T : Int))) ∧ Below w0.heap.size w0 w' := by
  obtain ⟨N, r1, d1, e1, v1, l1, z1⟩ := (h1.later h).parts
  have r2 := h2.later h
  have e2' := r2.1.1
  refine (ref3Lowest_any (c1 := c) (c2 := d) r1 r2.1 d1 (Dg_words T) (by omega) (by omega)).mono ?_
  rintro e w' ⟨a1, n1, d1', a2, n2, d2, rfl, q1, q2, hb⟩
  rw [v1, num_words (Int.le_of_lt hT)] at q1 q2
  have hg : ¬ ((Int.gcd N T : Nat) : Int) = 0 := by
    have := Int.gcd_pos_of_ne_zero_right N (show T ≠ 0 by omega)
    omega
  unfold quoL at q1 q2
  rw [if_neg hg] at q1 q2
  exact ⟨a1, n1, d1', a2, n2, d2, N, rfl, z1, l1.1, q1, q2, h.trans (hb.mono h.size)⟩
set_option maxHeartbeats 6400000 in
set_option maxRecDepth 100000 in
theorem zArea2_inf {w : World} {a0 a1 : Int} {b0 b1 : Int} {c0 c1 : Int} (ua0 : U a0) (ua1 : U a1) (ub0 : U b0) (ub1 : U b1) (uc0 : U c0) (uc1 : U c1) (hfin : ¬ ∀ i, i < 3 → fin2 ([(a0, a1), (b0, b1), (c0, c1)].getD i (0, 0))) :
    Calls Tryz.prog 14 #[.agg #[.int .u64 a0, .int .u64 a1], .agg #[.int .u64 b0, .int .u64 b1], .agg #[.int .u64 c0, .int .u64 c1]] w fun e w' => e = .returned (.tuple #[.agg #[.bool false, .slice none 0 0, .slice none 0 0], .int .i64 220]) ∧ Below w.heap.size w w' := by
  obtain ⟨w0, hw0, u0, u1, u2, u3, hb0, e0⟩ := blocks4 w #[.int .u64 a0, .int .u64 a1] #[.int .u64 b0, .int .u64 b1] #[.int .u64 c0, .int .u64 c1] #[.bool false, .slice none 0 0, .slice none 0 0] 34 34 34 43
  have hPt := ptAt3 w0 34 (u2_of ua0 ua1) (u2_of ub0 ub1) (u2_of uc0 uc1)
  have al := alloc_below (w := w0) (.cells #[.int .u64 a0, .int .u64 a1, .int .u64 b0, .int .u64 b1, .int .u64 c0, .int .u64 c1] 34)
  have hq := zFinite_any (c := 3) hPt (by omega)
  have hB1 := hb0.trans (al.mono hb0.size)
  replace u0 := u0.later al
  replace u1 := u1.later al
  replace u2 := u2.later al
  replace u3 := u3.later al
  obtain ⟨g, hg⟩ : ∃ g, g = w.heap.size := ⟨_, rfl⟩
  have hs : w0.heap.size = g + 1 + 1 + 1 + 1 := by omega
  rw [hs] at hq
  rw [← hg] at u0 u1 u2 u3
  have hwg : w.heap.size ≤ g + 1 + 1 + 1 := by omega
  clear hPt e0 al hs
  go_enter Tryz.func14, Tryz.ntmps14
  go_wp2_with fail
  rw [← hw0, ← hg]
  clear hw0 hg
  generalize w0.alloc (.cells #[.int .u64 a0, .int .u64 a1, .int .u64 b0, .int .u64 b1, .int .u64 c0, .int .u64 c1] 34) = w1 at *
  refine hq.mono ?_
  rintro e w2 ⟨FB, rfl, hFB, hb2⟩
  obtain rfl : FB = false := by cases FB; rfl; exact absurd (hFB.mp rfl) hfin
  have D := hB1.trans (hb2.mono hB1.size)
  replace u0 := u0.later hb2
  replace u1 := u1.later hb2
  replace u2 := u2.later hb2
  replace u3 := u3.later hb2
  obtain ⟨j00, j01⟩ := zcells u0
  obtain ⟨j10, j11⟩ := zcells u1
  obtain ⟨j20, j21⟩ := zcells u2
  clear hq hFB hfin hB1 hb2 hb0
  have uR := u3
  have f0 := uR.frozen 0
  have f1 := uR.frozen 1
  have f2 := uR.frozen 2
  have k0 := uR.cell 0 (v := .bool false) rfl
  have k1 := uR.cell 1 (v := .slice none 0 0) rfl
  have k2 := uR.cell 2 (v := .slice none 0 0) rfl
  go_wp2
  have i9 : In (g + 1 + 1 + 1) (g + 1 + 1 + 1 + 1) w2 (((w2.setCell ⟨g + 1 + 1 + 1, 0, none⟩ (.bool false)).setCell ⟨g + 1 + 1 + 1, 1, none⟩ (.slice none 0 0)).setCell ⟨g + 1 + 1 + 1, 2, none⟩ (.slice none 0 0)) := ((((In.refl (g + 1 + 1 + 1) (g + 1 + 1 + 1 + 1) w2).set1 0 _).set1 1 _).set1 2 _)
  have q9 := (((uR.set 0 (.bool false)).set 1 (.slice none 0 0)).set 2 (.slice none 0 0))
  have T0 := q9.cell 0 (v := .bool false) rfl
  have T1 := q9.cell 1 (v := .slice none 0 0) rfl
  have T2 := q9.cell 2 (v := .slice none 0 0) rfl
  refine bodyPost_ret (v := .tuple #[.agg #[.bool false, .slice none 0 0, .slice none 0 0], .int .i64 220]) (by simp [results, Tryz.results14, go_sem, T0, T1, T2]) rfl ?_
  exact ⟨rfl, below_in D i9 hwg (Nat.le_refl _)⟩
/-- the Rat that the document's Area2 answers -/
def ArZ (w : World) (q : Rat) (e : Ending) (w' : World) : Prop := ∃ s a n c b m d, e = .returned (.tuple #[.agg #[.bool s, .slice a n c, .slice b m d], .int .i64 0]) ∧ Rt w' s a n c b m d q ∧ Below w.heap.size w w'
set_option maxHeartbeats 6400000 in
set_option maxRecDepth 100000 in
theorem zArea2_fin {w : World} {a0 a1 : Int} {b0 b1 : Int} {c0 c1 : Int} (ua0 : U a0) (ua1 : U a1) (ub0 : U b0) (ub1 : U b1) (uc0 : U c0) (uc1 : U c1) (fa0 : ef a0 ≠ 2047) (fa1 : ef a1 ≠ 2047) (fb0 : ef b0 ≠ 2047) (fb1 : ef b1 ≠ 2047) (fc0 : ef c0 ≠ 2047) (fc1 : ef c1 ≠ 2047) (hfin : ∀ i, i < 3 → fin2 ([(a0, a1), (b0, b1), (c0, c1)].getD i (0, 0))) :
    Calls Tryz.prog 14 #[.agg #[.int .u64 a0, .int .u64 a1], .agg #[.int .u64 b0, .int .u64 b1], .agg #[.int .u64 c0, .int .u64 c1]] w fun e w' => ArZ w (mkRat (crI (wv a0) (wv a1) (wv b0) (wv b1) (wv c0) (wv c1)) (e2 1074 * e2 1074).toNat) e w' := by
  obtain ⟨w0, hw0, u0, u1, u2, u3, hb0, e0⟩ := blocks4 w #[.int .u64 a0, .int .u64 a1] #[.int .u64 b0, .int .u64 b1] #[.int .u64 c0, .int .u64 c1] #[.bool false, .slice none 0 0, .slice none 0 0] 34 34 34 43
  have hPt := ptAt3 w0 34 (u2_of ua0 ua1) (u2_of ub0 ub1) (u2_of uc0 uc1)
  have al := alloc_below (w := w0) (.cells #[.int .u64 a0, .int .u64 a1, .int .u64 b0, .int .u64 b1, .int .u64 c0, .int .u64 c1] 34)
  have hq := zFinite_any (c := 3) hPt (by omega)
  have hB1 := hb0.trans (al.mono hb0.size)
  replace u0 := u0.later al
  replace u1 := u1.later al
  replace u2 := u2.later al
  replace u3 := u3.later al
  obtain ⟨g, hg⟩ : ∃ g, g = w.heap.size := ⟨_, rfl⟩
  have hs : w0.heap.size = g + 1 + 1 + 1 + 1 := by omega
  rw [hs] at hq
  rw [← hg] at u0 u1 u2 u3
  have hwg : w.heap.size ≤ g + 1 + 1 + 1 := by omega
  clear hPt e0 al hs
  go_enter Tryz.func14, Tryz.ntmps14
  go_wp2_with fail
  rw [← hw0, ← hg]
  clear hw0 hg
  generalize w0.alloc (.cells #[.int .u64 a0, .int .u64 a1, .int .u64 b0, .int .u64 b1, .int .u64 c0, .int .u64 c1] 34) = w1 at *
  refine hq.mono ?_
  rintro e w2 ⟨FB, rfl, hFB, hb2⟩
  obtain rfl : FB = true := hFB.mpr hfin
  have D := hB1.trans (hb2.mono hB1.size)
  replace u0 := u0.later hb2
  replace u1 := u1.later hb2
  replace u2 := u2.later hb2
  replace u3 := u3.later hb2
  obtain ⟨j00, j01⟩ := zcells u0
  obtain ⟨j10, j11⟩ := zcells u1
  obtain ⟨j20, j21⟩ := zcells u2
  clear hq hFB hfin hB1 hb2 hb0
  have ua := u0
  have ub := u1
  have uc := u2
  have uR := u3
  clear u0 u1 u2 u3 ua ub uc
  go_wp2_with fail
  refine (zTurn_any ua0 ua1 fa0 fa1 ub0 ub1 fb0 fb1 uc0 uc1 fc0 fc1).mono ?_
  rintro e vT ⟨sT, qT, nT, cT', rfl, OT, hbA⟩
  have al := alloc_below (w := vT) (.cells #[.bool sT, .slice qT nT cT'] 67)
  have uT := Pb.new vT 67 #[.bool sT, .slice qT nT cT']
  replace uR := uR.later (hbA.trans (al.mono hbA.size))
  have rT := OT.zr.later al
  replace D := D.trans ((hbA.trans (al.mono hbA.size)).mono D.size)
  clear al hbA OT
  obtain ⟨jT0, jT1⟩ := zcells uT
  go_upto_region 4 with fail
  generalize vT.alloc (.cells #[.bool sT, .slice qT nT cT'] 67) = wT at *
  generalize vT.heap.size = gT at *
  have HT : Hid (((wv b0 - wv a0) * (wv c1 - wv a1) - (wv b1 - wv a1) * (wv c0 - wv a0)) = crI (wv a0) (wv a1) (wv b0) (wv b1) (wv c0) (wv c1)) := rfl
  rw [HT.out] at rT
  have hcl : ∀ w', Below wT.heap.size wT w' → w'.cell? ⟨gT, 0, none⟩ = some (.bool sT) ∧ w'.cell? ⟨gT, 1, none⟩ = some (.slice qT nT cT') := fun w' h => zcells (uT.later h)
  go_region_held3 (fun w' => w'.cell? ⟨gT, 0, none⟩ = some (.bool sT) ∧ w'.cell? ⟨gT, 1, none⟩ = some (.slice qT nT cT')) (go_keep) (first | (go_at_call 38; refine (shlOne_any wT.drew).mono ?_; rintro e W1 ⟨qa, na, ca, rfl, O1, bX⟩; have bb1 := (below_drewN (Below.refl wT.heap.size wT) 1).trans bX; obtain ⟨jT0, jT1⟩ := hcl W1 bb1; have rT1 := rT.later bb1) | (go_at_call 37; refine (rLow_at rT1 O1 (Int.mul_pos (e2_pos _) (e2_pos _)) (Nat.le_trans unit_len (by omega)) (by omega) (by first | exact Below.refl _ _ | exact below_drewN (Below.refl _ _) _)).mono ?_; rintro e W2 ⟨x1, y1, v1, x2, y2, v2, N, rfl, hN, hN0, O2, O3, bb2⟩; have bb3 := bb1.trans (bb2.mono bb1.size); obtain ⟨jT0, jT1⟩ := hcl W2 bb3))
  have MARK1 := 1
  replace uR := uR.later bb3
  have D2 := D.trans (bb3.mono D.size)
  have f0 := uR.frozen 0
  have f1 := uR.frozen 1
  have f2 := uR.frozen 2
  have k0 := uR.cell 0 (v := .bool false) rfl
  have k1 := uR.cell 1 (v := .slice none 0 0) rfl
  have k2 := uR.cell 2 (v := .slice none 0 0) rfl
  have hq : mkR sT N (e2 1074 * e2 1074) = (mkRat (crI (wv a0) (wv a1) (wv b0) (wv b1) (wv c0) (wv c1)) (e2 1074 * e2 1074).toNat) := by unfold mkR; rw [hN]
  have pT : 0 < e2 1074 * e2 1074 := Int.mul_pos (e2_pos _) (e2_pos _)
  have ha := rat_abs (s := sT) hN0 pT
  have hd := rat_den (s := sT) hN0 pT
  have hn := rat_neg (s := sT) hN0 pT
  rw [hq] at ha hd hn
  have hy : y1 = 0 ↔ N / (Int.gcd N (e2 1074 * e2 1074) : Int) = 0 := by
    have l := O2.1.1
    have p := Int.ediv_nonneg hN0 (show (0 : Int) ≤ (Int.gcd N (e2 1074 * e2 1074) : Int) by omega)
    rw [← l]
    exact words_nil p
  rw [← ha] at O2 hy hn
  rw [← hd] at O3
  have HN := HL.mk hn
  have HY := HL.mk hy
  clear rT rT1 O1 hcl bb1 bb2 bb3 D hq pT ha hd uT HT hn hy
  have MARK2 := 1
  cases sT
  · go_wp2
    have i9 : In (g + 1 + 1 + 1) (g + 1 + 1 + 1 + 1) W2 (((W2.setCell ⟨g + 1 + 1 + 1, 0, none⟩ (.bool false)).setCell ⟨g + 1 + 1 + 1, 1, none⟩ (.slice x1 y1 v1)).setCell ⟨g + 1 + 1 + 1, 2, none⟩ (.slice x2 y2 v2)) := ((((In.refl (g + 1 + 1 + 1) (g + 1 + 1 + 1 + 1) W2).set1 0 _).set1 1 _).set1 2 _)
    have q9 := (((uR.set 0 (.bool false)).set 1 (.slice x1 y1 v1)).set 2 (.slice x2 y2 v2))
    have T0 := q9.cell 0 (v := .bool false) rfl
    have T1 := q9.cell 1 (v := .slice x1 y1 v1) rfl
    have T2 := q9.cell 2 (v := .slice x2 y2 v2) rfl
    refine bodyPost_ret (v := .tuple #[.agg #[.bool false, .slice x1 y1 v1, .slice x2 y2 v2], .int .i64 0]) (by simp [results, Tryz.results14, go_sem, T0, T1, T2]) rfl ?_
    exact ⟨_, _, _, _, _, _, _, rfl, ⟨by rw [HN.out]; rfl, O2.noInt uR noInt3 i9, O3.noInt uR noInt3 i9⟩, below_in D2 i9 hwg (Nat.le_refl _)⟩
  · by_cases h0 : y1 = 0
    · subst h0
      go_wp2
      have i9 : In (g + 1 + 1 + 1) (g + 1 + 1 + 1 + 1) W2 (((W2.setCell ⟨g + 1 + 1 + 1, 0, none⟩ (.bool false)).setCell ⟨g + 1 + 1 + 1, 1, none⟩ (.slice x1 0 v1)).setCell ⟨g + 1 + 1 + 1, 2, none⟩ (.slice x2 y2 v2)) := ((((In.refl (g + 1 + 1 + 1) (g + 1 + 1 + 1 + 1) W2).set1 0 _).set1 1 _).set1 2 _)
      have q9 := (((uR.set 0 (.bool false)).set 1 (.slice x1 0 v1)).set 2 (.slice x2 y2 v2))
      have T0 := q9.cell 0 (v := .bool false) rfl
      have T1 := q9.cell 1 (v := .slice x1 0 v1) rfl
      have T2 := q9.cell 2 (v := .slice x2 y2 v2) rfl
      refine bodyPost_ret (v := .tuple #[.agg #[.bool false, .slice x1 0 v1, .slice x2 y2 v2], .int .i64 0]) (by simp [results, Tryz.results14, go_sem, T0, T1, T2]) rfl ?_
      exact ⟨_, _, _, _, _, _, _, rfl, ⟨by rw [HN.out, decide_eq_false (fun h => h (HY.out.mp (by simp)))]; rfl, O2.noInt uR noInt3 i9, O3.noInt uR noInt3 i9⟩, below_in D2 i9 hwg (Nat.le_refl _)⟩
    · have h1 : 0 < y1 := by omega
      go_wp2
      have i9 : In (g + 1 + 1 + 1) (g + 1 + 1 + 1 + 1) W2 (((W2.setCell ⟨g + 1 + 1 + 1, 0, none⟩ (.bool true)).setCell ⟨g + 1 + 1 + 1, 1, none⟩ (.slice x1 y1 v1)).setCell ⟨g + 1 + 1 + 1, 2, none⟩ (.slice x2 y2 v2)) := ((((In.refl (g + 1 + 1 + 1) (g + 1 + 1 + 1 + 1) W2).set1 0 _).set1 1 _).set1 2 _)
      have q9 := (((uR.set 0 (.bool true)).set 1 (.slice x1 y1 v1)).set 2 (.slice x2 y2 v2))
      have T0 := q9.cell 0 (v := .bool true) rfl
      have T1 := q9.cell 1 (v := .slice x1 y1 v1) rfl
      have T2 := q9.cell 2 (v := .slice x2 y2 v2) rfl
      refine bodyPost_ret (v := .tuple #[.agg #[.bool true, .slice x1 y1 v1, .slice x2 y2 v2], .int .i64 0]) (by simp [results, Tryz.results14, go_sem, T0, T1, T2]) rfl ?_
      exact ⟨_, _, _, _, _, _, _, rfl, ⟨by rw [HN.out, Bool.true_and]; symm; refine decide_eq_true ?_; exact fun h => h0 (HY.out.mpr h), O2.noInt uR noInt3 i9, O3.noInt uR noInt3 i9⟩, below_in D2 i9 hwg (Nat.le_refl _)⟩
end Go.Proofs.YtbonkgmcpjaepabGreat

/- plumblaw22: the program's answers at whole numbers; Area2 of what is not finite. -/
namespace Go.Proofs.YtbonkgmcpjaepabGreat
open Go.ChangeShapes Go.WideShapes Go.ChangeAt Go.RowKit
open Na Ar
set_option linter.unusedVariables false
theorem sgI_le {v : Int} : sgI v ≤ 0 ↔ v ≤ 0 := by unfold sgI; (repeat' split) <;> omega
theorem btw_box {ax ay bx by' cx cy : Int} : ((crI ax ay bx by' cx cy == 0) && decide ((cx - ax) * (cx - bx) + (cy - ay) * (cy - by') ≤ 0)) = ((sgI (crI ax ay bx by' cx cy) == 0) && (decide (sgI (cx - ax) * sgI (cx - bx) ≤ 0) && decide (sgI (cy - ay) * sgI (cy - by') ≤ 0))) := by
  rw [← sgI_mul, ← sgI_mul]
  by_cases h : crI ax ay bx by' cx cy = 0
  · have e1 : (crI ax ay bx by' cx cy == 0) = true := by rw [h]; rfl
    have e2' : (sgI (crI ax ay bx by' cx cy) == 0) = true := by rw [h]; rfl
    rw [e1, e2', Bool.true_and, Bool.true_and]
    have hx : (cx - ax) * (cy - by') = (cy - ay) * (cx - bx) := by
      unfold crI at h
      grind
    generalize cx - ax = p at *
    generalize cx - bx = q at *
    generalize cy - ay = r at *
    generalize cy - by' = s at *
    have hpq : (p * q) * (r * s) = (p * s) * (p * s) := by
      have : (p * q) * (r * s) = (p * s) * (r * q) := by grind
      rw [this, hx]
    have nn : 0 ≤ (p * q) * (r * s) := by
      rw [hpq]
      rcases Int.le_total 0 (p * s) with h | h
      · exact Int.mul_nonneg h h
      · exact Int.mul_nonneg_of_nonpos_of_nonpos h h
    generalize p * q = P at *
    generalize r * s = R at *
    have key : P + R ≤ 0 ↔ P ≤ 0 ∧ R ≤ 0 := by
      refine ⟨fun h => ?_, fun h => by omega⟩
      refine ⟨?_, ?_⟩
      · by_cases hp : P ≤ 0
        · exact hp
        · have := Int.mul_neg_of_pos_of_neg (a := P) (b := R) (by omega) (by omega)
          omega
      · by_cases hp : R ≤ 0
        · exact hp
        · have := Int.mul_neg_of_neg_of_pos (a := P) (b := R) (by omega) (by omega)
          omega
    rw [Bool.eq_iff_iff]
    simp only [Bool.and_eq_true, decide_eq_true_eq, sgI_le]
    exact key
  · have e1 : (crI ax ay bx by' cx cy == 0) = false := by simp [h]
    have e2' : (sgI (crI ax ay bx by' cx cy) == 0) = false := by
      have : ¬ sgI (crI ax ay bx by' cx cy) = 0 := fun e => h (sgI_eq.mp e)
      simp [this]
    rw [e1, e2', Bool.false_and, Bool.false_and]
section
variable {w : World} {a0 a1 b0 b1 c0 c1 d0 d1 : Int}
theorem pOrder_fin (ua : U2 (a0, a1)) (ub : U2 (b0, b1)) (fa : fin2 (a0, a1)) (fb : fin2 (b0, b1)) :
    Calls Tryz.prog 22 #[.agg #[.int .u64 a0, .int .u64 a1], .agg #[.int .u64 b0, .int .u64 b1]] w fun e w' => e = .returned (.tuple #[.int .i64 (ordI (wv a0) (wv a1) (wv b0) (wv b1)), .int .i64 0]) ∧ Below w.heap.size w w' := by
  have h := Order22_fin (w := w) (a := (a0, a1)) (b := (b0, b1)) ua ub fa fb
  have e : ordS (valR a0) (valR a1) (valR b0) (valR b1) = ordI (wv a0) (wv a1) (wv b0) (wv b1) := by
    rw [valR_wv ua.1 fa.1, valR_wv ua.2 fa.2, valR_wv ub.1 fb.1, valR_wv ub.2 fb.2]
    exact ordS_scale unit_pos
  rw [← e]
  exact h
theorem pOrient_fin (ua : U2 (a0, a1)) (ub : U2 (b0, b1)) (uc : U2 (c0, c1)) (fa : fin2 (a0, a1)) (fb : fin2 (b0, b1)) (fc : fin2 (c0, c1)) :
    Calls Tryz.prog 11 #[.agg #[.int .u64 a0, .int .u64 a1], .agg #[.int .u64 b0, .int .u64 b1], .agg #[.int .u64 c0, .int .u64 c1]] w fun e w' => e = .returned (.tuple #[.int .i64 (sgI (crI (wv a0) (wv a1) (wv b0) (wv b1) (wv c0) (wv c1))), .int .i64 0]) ∧ Below w.heap.size w w' := by
  have h := Orient22_fin (w := w) (a := (a0, a1)) (b := (b0, b1)) (c := (c0, c1)) ua ub uc fa fb fc
  have e : sgnR (crR (valR a0) (valR a1) (valR b0) (valR b1) (valR c0) (valR c1)) = sgI (crI (wv a0) (wv a1) (wv b0) (wv b1) (wv c0) (wv c1)) := by
    rw [valR_wv ua.1 fa.1, valR_wv ua.2 fa.2, valR_wv ub.1 fb.1, valR_wv ub.2 fb.2, valR_wv uc.1 fc.1, valR_wv uc.2 fc.2]
    exact cr_scale unit_pos
  rw [← e]
  exact h
theorem pNearer_fin (ua : U2 (a0, a1)) (ub : U2 (b0, b1)) (uc : U2 (c0, c1)) (ud : U2 (d0, d1)) (fa : fin2 (a0, a1)) (fb : fin2 (b0, b1)) (fc : fin2 (c0, c1)) (fd : fin2 (d0, d1)) :
    Calls Tryz.prog 20 #[.agg #[.int .u64 a0, .int .u64 a1], .agg #[.int .u64 b0, .int .u64 b1], .agg #[.int .u64 c0, .int .u64 c1], .agg #[.int .u64 d0, .int .u64 d1]] w fun e w' => e = .returned (.tuple #[.int .i64 (sgI (sqI (wv a0) (wv a1) (wv b0) (wv b1) - sqI (wv c0) (wv c1) (wv d0) (wv d1))), .int .i64 0]) ∧ Below w.heap.size w w' := by
  have h := Nearer22_fin (w := w) (a := (a0, a1)) (b := (b0, b1)) (c := (c0, c1)) (d := (d0, d1)) ua ub uc ud fa fb fc fd
  have e : ordR (sqR (valR a0) (valR a1) (valR b0) (valR b1)) (sqR (valR c0) (valR c1) (valR d0) (valR d1)) = sgI (sqI (wv a0) (wv a1) (wv b0) (wv b1) - sqI (wv c0) (wv c1) (wv d0) (wv d1)) := by
    rw [valR_wv ua.1 fa.1, valR_wv ua.2 fa.2, valR_wv ub.1 fb.1, valR_wv ub.2 fb.2, valR_wv uc.1 fc.1, valR_wv uc.2 fc.2, valR_wv ud.1 fd.1, valR_wv ud.2 fd.2]
    exact sq_scale unit_pos
  rw [← e]
  exact h
theorem pInCircle_fin (ua : U2 (a0, a1)) (ub : U2 (b0, b1)) (uc : U2 (c0, c1)) (ud : U2 (d0, d1)) (fa : fin2 (a0, a1)) (fb : fin2 (b0, b1)) (fc : fin2 (c0, c1)) (fd : fin2 (d0, d1)) :
    Calls Tryz.prog 16 #[.agg #[.int .u64 a0, .int .u64 a1], .agg #[.int .u64 b0, .int .u64 b1], .agg #[.int .u64 c0, .int .u64 c1], .agg #[.int .u64 d0, .int .u64 d1]] w fun e w' => e = .returned (.tuple #[.int .i64 (sgI (inI (wv a0 - wv d0) (wv a1 - wv d1) (wv b0 - wv d0) (wv b1 - wv d1) (wv c0 - wv d0) (wv c1 - wv d1))), .int .i64 0]) ∧ Below w.heap.size w w' := by
  have h := InCircle22_fin (w := w) (a := (a0, a1)) (b := (b0, b1)) (c := (c0, c1)) (d := (d0, d1)) ua ub uc ud fa fb fc fd
  have e : sgnR (inR (valR a0) (valR a1) (valR b0) (valR b1) (valR c0) (valR c1) (valR d0) (valR d1)) = sgI (inI (wv a0 - wv d0) (wv a1 - wv d1) (wv b0 - wv d0) (wv b1 - wv d1) (wv c0 - wv d0) (wv c1 - wv d1)) := by
    rw [valR_wv ua.1 fa.1, valR_wv ua.2 fa.2, valR_wv ub.1 fb.1, valR_wv ub.2 fb.2, valR_wv uc.1 fc.1, valR_wv uc.2 fc.2, valR_wv ud.1 fd.1, valR_wv ud.2 fd.2]
    exact in_scale unit_pos
  rw [← e]
  exact h
theorem pBetween_fin (ua : U2 (a0, a1)) (ub : U2 (b0, b1)) (uc : U2 (c0, c1)) (fa : fin2 (a0, a1)) (fb : fin2 (b0, b1)) (fc : fin2 (c0, c1)) :
    Calls Tryz.prog 18 #[.agg #[.int .u64 a0, .int .u64 a1], .agg #[.int .u64 b0, .int .u64 b1], .agg #[.int .u64 c0, .int .u64 c1]] w fun e w' => e = .returned (.tuple #[.bool ((sgI (crI (wv a0) (wv a1) (wv b0) (wv b1) (wv c0) (wv c1)) == 0) && (decide (sgI (wv c0 - wv a0) * sgI (wv c0 - wv b0) ≤ 0) && decide (sgI (wv c1 - wv a1) * sgI (wv c1 - wv b1) ≤ 0))), .int .i64 0]) ∧ Below w.heap.size w w' := by
  have h := Between22_fin (w := w) (a := (a0, a1)) (b := (b0, b1)) (c := (c0, c1)) ua ub uc fa fb fc
  have e : (decide (0 ≤ ordS (valR a0) (valR a1) (valR c0) (valR c1) * ordS (valR c0) (valR c1) (valR b0) (valR b1)) && decide (sgnR (crR (valR a0) (valR a1) (valR b0) (valR b1) (valR c0) (valR c1)) = 0)) = ((sgI (crI (wv a0) (wv a1) (wv b0) (wv b1) (wv c0) (wv c1)) == 0) && (decide (sgI (wv c0 - wv a0) * sgI (wv c0 - wv b0) ≤ 0) && decide (sgI (wv c1 - wv a1) * sgI (wv c1 - wv b1) ≤ 0))) := by
    rw [valR_wv ua.1 fa.1, valR_wv ua.2 fa.2, valR_wv ub.1 fb.1, valR_wv ub.2 fb.2, valR_wv uc.1 fc.1, valR_wv uc.2 fc.2]
    rw [ordS_scale unit_pos, ordS_scale unit_pos, cr_scale unit_pos, ← btw_box]
    exact btw_int
  rw [← e]
  exact h
end
/-- a number's sign and its two rows, as words -/
structure Rx2 (w : World) (s : Bool) (a : Option Addr) (n c : Nat) (b : Option Addr) (m d : Nat) (sg : Bool) (xs ys : List Int) : Prop where
  sgn : s = sg
  nu : RowC w a n c xs
  de : RowC w b m d ys
theorem Rx2.later {w w' : World} {s sg : Bool} {a b : Option Addr} {n c m d : Nat} {xs ys : List Int} (h : Rx2 w s a n c b m d sg xs ys) (hb : Below w.heap.size w w') : Rx2 w' s a n c b m d sg xs ys := ⟨h.sgn, h.nu.later hb, h.de.later hb⟩
/-- Area2's answer -/
def ArX (w : World) (S : Bool) (xs ys : List Int) (E : Int) (e : Ending) (w' : World) : Prop := ∃ s a n c b m d, e = .returned (.tuple #[.agg #[.bool s, .slice a n c, .slice b m d], .int .i64 E]) ∧ Rx2 w' s a n c b m d S xs ys ∧ Below w.heap.size w w'
def ArS (w : World) (S : Bool) (xs ys : List Int) (E : Int) (e : Ending) (w' : World) : Prop := ArX w S xs ys E e w' ∧ xs.length ≤ 4000000 ∧ ys.length ≤ 4000000
theorem ArX.nil {w w' : World} {E : Int} (hb : Below w.heap.size w w') : ArX w false [] [] E (.returned (.tuple #[.agg #[.bool false, .slice none 0 0, .slice none 0 0], .int .i64 E])) w' :=
  ⟨_, _, _, _, _, _, _, rfl, ⟨rfl, rowC_nil _, rowC_nil _⟩, hb⟩
theorem ArX.of {w w' : World} {q : Rat} {e : Ending} (h : ArZ w q e w') : ArX w (decide (q.num < 0)) (words (q.num.natAbs : Int)) (words (q.den : Int)) 0 e w' := by
  obtain ⟨s, a, n, c, b, m, d, rfl, hR, hb⟩ := h
  exact ⟨_, _, _, _, _, _, _, rfl, ⟨hR.sgn, hR.nu, hR.de⟩, hb⟩
theorem unit_lt : Lt (e2 1074 * e2 1074) 36 := by
  have e : e2 1074 * e2 1074 = 1 * 2 ^ 2148 := by
    rw [Int.one_mul, ← e2_add (by omega) (by omega)]; rfl
  rw [e]
  exact (Lt.word (x := 1) ⟨by omega, by omega⟩).pow2.mono (by omega)
theorem area_den {z : Int} : (words ((mkRat z (e2 1074 * e2 1074).toNat).den : Int)).length ≤ 4000000 := by
  have p : 0 < e2 1074 * e2 1074 := Int.mul_pos (e2_pos _) (e2_pos _)
  have e : mkRat z (e2 1074 * e2 1074).toNat = mkR (decide (z < 0)) (z.natAbs : Int) (e2 1074 * e2 1074) := by
    unfold mkR
    congr 1
    by_cases h : z < 0
    · rw [decide_eq_true h]
      show z = -(z.natAbs : Int)
      omega
    · rw [decide_eq_false h]
      show z = (z.natAbs : Int)
      omega
  rw [e]
  have h := rat_den_le (s := decide (z < 0)) (A := (z.natAbs : Int)) (by omega) p
  have l : Lt ((mkR (decide (z < 0)) (z.natAbs : Int) (e2 1074 * e2 1074)).den : Int) 36 := ⟨by omega, Int.lt_of_le_of_lt h unit_lt.2⟩
  exact Nat.le_trans l.len (by omega)
theorem ArS.of {w w' : World} {z : Int} {q : Rat} {e : Ending} (h : ArQ w q e w') (hq : q = mkRat z (e2 1074 * e2 1074).toNat) : ArS w (decide (q.num < 0)) (words (q.num.natAbs : Int)) (words (q.den : Int)) 0 e w' := by
  obtain ⟨s, a, n, c, b, m, d, rfl, hR, hn, hb⟩ := h
  refine ⟨⟨_, _, _, _, _, _, _, rfl, ⟨hR.sgn, hR.nu, hR.de⟩, hb⟩, ?_, ?_⟩
  · have := hR.len
    omega
  · rw [hq]
    exact area_den
set_option maxHeartbeats 6400000 in
set_option maxRecDepth 100000 in
theorem Area222_inf {w : World} {a b c : Int × Int} (ua : U2 a) (ub : U2 b) (uc : U2 c) (hf : ¬ (fin2 a ∧ fin2 b ∧ fin2 c)) :
    Calls Tryz.prog 13 #[.agg #[.int .u64 a.1, .int .u64 a.2], .agg #[.int .u64 b.1, .int .u64 b.2], .agg #[.int .u64 c.1, .int .u64 c.2]] w fun e w' => ArS w false [] [] 220 e w' := by
  obtain ⟨w0, hw0, u0, u1, u2, u3, hb0, e0⟩ := blocks4 w #[.int .u64 a.1, .int .u64 a.2] #[.int .u64 b.1, .int .u64 b.2] #[.int .u64 c.1, .int .u64 c.2] #[.bool false, .slice none 0 0, .slice none 0 0] 34 34 34 43
  have al := alloc_below (w := w0) (.cells #[.int .u64 a.1, .int .u64 a.2, .int .u64 b.1, .int .u64 b.2, .int .u64 c.1, .int .u64 c.2] 34)
  have hPt := ptAt3 w0 34 ua ub uc
  have hsp := spots22_any (c := 3) hPt (by simp) (by omega)
  have hB1 := hb0.trans (al.mono hb0.size)
  replace u3 := u3.later al
  obtain ⟨g, hg⟩ : ∃ g, g = w.heap.size := ⟨_, rfl⟩
  have hs : w0.heap.size = g + 1 + 1 + 1 + 1 := by omega
  rw [hs] at hsp
  rw [← hg] at u3
  have hwg : w.heap.size ≤ g + 1 + 1 + 1 := by omega
  replace hsp := hsp.mono (fun e w' h => open3_inf hf h)
  clear hPt hb0 e0 u0 u1 u2 ua ub uc hf al hs
  go_enter Tryz.func13, Tryz.ntmps13
  go_wp2_with fail
  rw [← hw0, ← hg]
  clear hw0 hg
  generalize w0.alloc (.cells #[.int .u64 a.1, .int .u64 a.2, .int .u64 b.1, .int .u64 b.2, .int .u64 c.1, .int .u64 c.2] 34) = w1 at *
  refine hsp.mono ?_
  rintro e w2 ⟨rfl, hbA⟩
  have D := hB1.trans (hbA.mono hB1.size)
  have uR := u3.later hbA
  clear hsp hbA u3 hB1
  have f0 := uR.frozen 0
  have f1 := uR.frozen 1
  have f2 := uR.frozen 2
  have k0 := uR.cell 0 (v := .bool false) rfl
  have k1 := uR.cell 1 (v := .slice none 0 0) rfl
  have k2 := uR.cell 2 (v := .slice none 0 0) rfl
  go_wp2
  have i9 : In (g + 1 + 1 + 1) (g + 1 + 1 + 1 + 1) w2 (((w2.setCell ⟨g + 1 + 1 + 1, 0, none⟩ (.bool false)).setCell ⟨g + 1 + 1 + 1, 1, none⟩ (.slice none 0 0)).setCell ⟨g + 1 + 1 + 1, 2, none⟩ (.slice none 0 0)) := ((((In.refl (g + 1 + 1 + 1) (g + 1 + 1 + 1 + 1) w2).set1 0 _).set1 1 _).set1 2 _)
  have q9 := (((uR.set 0 (.bool false)).set 1 (.slice none 0 0)).set 2 (.slice none 0 0))
  have T0 := q9.cell 0 (v := .bool false) rfl
  have T1 := q9.cell 1 (v := .slice none 0 0) rfl
  have T2 := q9.cell 2 (v := .slice none 0 0) rfl
  refine bodyPost_ret (v := .tuple #[.agg #[.bool false, .slice none 0 0, .slice none 0 0], .int .i64 220]) (by simp [results, Tryz.results13, go_sem, T0, T1, T2]) rfl ?_
  exact ⟨ArX.nil (below_in D i9 hwg (Nat.le_refl _)), by simp, by simp⟩
end Go.Proofs.YtbonkgmcpjaepabGreat

/- plumblaw22: same, sameRat. -/
namespace Go.Proofs.YtbonkgmcpjaepabGreat
open Go.ChangeShapes Go.WideShapes Go.ChangeAt Go.RowKit
open Na Ar
set_option linter.unusedVariables false
theorem ret_bool22 {p q : Bool} (h : p = q) : Ending.returned (.bool p) = .returned (.bool q) := by rw [h]
theorem same_take22 {xs ys : List Int} {k : Nat} (h : xs.take k = ys.take k) (hx : k < xs.length) (hy : k < ys.length) (he : xs.getD k 0 = ys.getD k 0) : xs.take (k + 1) = ys.take (k + 1) := by
  rw [take_next hx, take_next hy, h, he]
theorem same22_any {a b : Option Addr} {n m c1 c2 : Nat} {xs ys : List Int} {w : World} (hr1 : RowAt .u64 w a n xs) (hr2 : RowAt .u64 w b m ys) (hn : n * 8 ≤ 140737488351232) (hm : m * 8 ≤ 140737488351232) :
    Calls Tryz.prog 39 #[.slice a n c1, .slice b m c2] w fun e w' => e = .returned (.bool (decide (xs = ys))) ∧ Below w.heap.size w w' := by
  have hl1 := hr1.1
  have hl2 := hr2.1
  by_cases hnm : n = m
  · have t : ((n : Int) != (m : Int)) = false := by simp [hnm]
    have hnm' : n ≤ m := by omega
    have hmn' : m ≤ n := by omega
    have HL : Hid (xs.length = ys.length) := by show _ = _; omega
    clear hnm
    go_enter Tryz.func39, Tryz.ntmps39
    go_wp2
    go_loopw [5] (fun i wr => ∃ k : Nat, k ≤ n ∧ i = .int .i64 k ∧ Hid (xs.take k = ys.take k) ∧ Below w.heap.size w wr) (fun i _ => n - (intOf i).toNat)
    case atStart => exact ⟨0, Nat.zero_le _, rfl, (by simp : xs.take 0 = ys.take 0), Below.refl _ _⟩
    case round =>
      obtain ⟨k, hk, rfl, hs, hnx⟩ := hrel
      by_cases hlt : k < n
      · obtain ⟨b1, o1, rfl, hb1, hc1⟩ := hr1.at (by omega)
        obtain ⟨b2, o2, rfl, hb2, hc2⟩ := hr2.at (by omega)
        have hx1 := (hnx.cell (p := ⟨b1, o1 + k, none⟩) hb1).trans (hc1 k hlt)
        have hx2 := (hnx.cell (p := ⟨b2, o2 + k, none⟩) hb2).trans (hc2 k (by omega))
        have hst := same_take22 hs.out (by omega) (by omega)
        have hne : xs.getD k 0 ≠ ys.getD k 0 → ¬ xs = ys := fun h e => h (by rw [e])
        generalize xs.getD k 0 = x at *
        generalize ys.getD k 0 = y at *
        have hlt2 : k < m := by omega
        clear hc1 hc2 hr1 hr2
        by_cases e : x = y
        · have t2 : (x != y) = false := by simp [e]
          have HS : Hid (xs.take (k + 1) = ys.take (k + 1)) := hst e
          clear hst hne e hs
          go_wp2
          go_quiet (fail)
          go_wp2
          go_roundw
          case rel => exact ⟨k + 1, by omega, by go_num, HS, below_drewN hnx _⟩
          case measure => simp [intOf]; omega
        · have t2 : (x != y) = true := by simp [e]
          have HN : Hid (decide (xs = ys) = false) := decide_eq_false (hne e)
          clear hst hne e hs
          go_wp2
          go_quiet (fail)
          go_wp2
          go_ret
          exact ⟨ret_bool22 HN.out.symm, below_drewN hnx _⟩
      · have HE : Hid (decide (xs = ys) = true) := decide_eq_true (by
          have h := hs.out
          rw [List.take_of_length_le (by omega), List.take_of_length_le (by omega)] at h
          exact h)
        go_wp2
        go_ret
        exact ⟨ret_bool22 HE.out.symm, hnx⟩
  · have t : ((n : Int) != (m : Int)) = true := by simp; omega
    have HN : Hid (decide (xs = ys) = false) := decide_eq_false (fun e => hnm (by rw [← hl1, ← hl2, e]))
    clear hnm
    go_enter Tryz.func39, Tryz.ntmps39
    go_wp2
    go_ret
    exact ⟨ret_bool22 HN.out.symm, Below.refl _ _⟩
set_option maxHeartbeats 3200000 in
set_option maxRecDepth 100000 in
theorem sameRat22_any {w : World} {sg s1 s2 : Bool} {a1 b1 a2 b2 : Option Addr} {n1 c1 m1 d1 n2 c2 m2 d2 : Nat} {xs ys : List Int} (h1 : Rx2 w s1 a1 n1 c1 b1 m1 d1 sg xs ys) (h2 : Rx2 w s2 a2 n2 c2 b2 m2 d2 sg xs ys) (hx : xs.length ≤ 4000000) (hy : ys.length ≤ 4000000) :
    Calls Tryz.prog 15 #[.agg #[.bool s1, .slice a1 n1 c1, .slice b1 m1 d1], .agg #[.bool s2, .slice a2 n2 c2, .slice b2 m2 d2]] w fun r w' => r = .returned (.bool true) ∧ Below w.heap.size w w' := by
  obtain ⟨t1, t2, hb0⟩ := st_two w (.bool s1) (.slice a1 n1 c1) (.slice b1 m1 d1) (.bool s2) (.slice a2 n2 c2) (.slice b2 m2 d2) 43 43
  have e1 : s1 = s2 := h1.sgn.trans h2.sgn.symm
  subst e1
  have l1 : n1 ≤ 4000000 := by have := h1.nu.1.1; omega
  have l2 : n2 ≤ 4000000 := by have := h2.nu.1.1; omega
  have l3 : m1 ≤ 4000000 := by have := h1.de.1.1; omega
  have l4 : m2 ≤ 4000000 := by have := h2.de.1.1; omega
  have f1 : ∀ {w1 : World}, Below w.heap.size w w1 → Calls Tryz.prog 39 #[.slice a1 n1 c1, .slice a2 n2 c2] w1 fun e w' => e = .returned (.bool true) ∧ Below w1.heap.size w1 w' := fun {w1} h => by
    have := same22_any (c1 := c1) (c2 := c2) (h1.later h).nu.1 (h2.later h).nu.1 (by omega) (by omega)
    rw [decide_eq_true rfl] at this
    exact this
  have f2 : ∀ {w1 : World}, Below w.heap.size w w1 → Calls Tryz.prog 39 #[.slice b1 m1 d1, .slice b2 m2 d2] w1 fun e w' => e = .returned (.bool true) ∧ Below w1.heap.size w1 w' := fun {w1} h => by
    have := same22_any (c1 := d1) (c2 := d2) (h1.later h).de.1 (h2.later h).de.1 (by omega) (by omega)
    rw [decide_eq_true rfl] at this
    exact this
  obtain ⟨w0, hw0⟩ : ∃ w0, w0 = (w.alloc (.cells #[.bool s1, .slice a1 n1 c1, .slice b1 m1 d1] 43)).alloc (.cells #[.bool s1, .slice a2 n2 c2, .slice b2 m2 d2] 43) := ⟨_, rfl⟩
  rw [← hw0] at t1 t2 hb0
  obtain ⟨g, hg⟩ : ∃ g, g = w.heap.size := ⟨_, rfl⟩
  rw [← hg] at t1 t2
  clear h1 h2
  go_enter Tryz.func15, Tryz.ntmps15
  go_wp2_with fail
  rw [← hw0]
  refine (f1 hb0).mono ?_
  rintro r w1 ⟨rfl, hb1⟩
  have H1 := hb0.trans (hb1.mono hb0.size)
  obtain ⟨x0, x1, x2⟩ := (t1.later hb1).cells
  obtain ⟨y0, y1, y2⟩ := (t2.later hb1).cells
  rw [← hg]
  clear f1 hw0 hg hb1
  go_wp2_with fail
  refine (f2 H1).mono ?_
  rintro r w2 ⟨rfl, hb2⟩
  have H2 := H1.trans (hb2.mono H1.size)
  clear f2 hb2
  go_wp2
  go_ret
  exact ⟨rfl, H2⟩
end Go.Proofs.YtbonkgmcpjaepabGreat

/- plumblaw22: PredAsks' walk (written by genzp.py). -/
namespace Go.Proofs.YtbonkgmcpjaepabGreat
open Go.ChangeShapes Go.WideShapes Go.ChangeAt Go.RowKit
open Na Ar
set_option linter.unusedVariables false
theorem three_cells {w : World} {g : Nat} {t : TypeId} {y0 y1 y2 : Value} (h : Pb w g t #[y0, y1, y2]) : w.cell? ⟨g, 0, none⟩ = some y0 ∧ w.cell? ⟨g, 1, none⟩ = some y1 ∧ w.cell? ⟨g, 2, none⟩ = some y2 := ⟨h.cell 0 rfl, h.cell 1 rfl, h.cell 2 rfl⟩
set_option maxHeartbeats 12800000 in
set_option maxRecDepth 100000 in
theorem asks_go {x0 x1 x2 x3 x4 x5 x6 x7 N1 N2 N4 N5 E1 E2 E3 E4 E5 E6 : Int} {B S : Bool} {xs ys : List Int}
    (p0 : ∀ w, Calls Tryz.prog 11 #[.agg #[.int .u64 x0, .int .u64 x1], .agg #[.int .u64 x2, .int .u64 x3], .agg #[.int .u64 x4, .int .u64 x5]] w fun e w' => e = .returned (.tuple #[.int .i64 N1, .int .i64 E1]) ∧ Below w.heap.size w w')
    (z0 : ∀ w, Calls Tryz.prog 12 #[.agg #[.int .u64 x0, .int .u64 x1], .agg #[.int .u64 x2, .int .u64 x3], .agg #[.int .u64 x4, .int .u64 x5]] w fun e w' => e = .returned (.tuple #[.int .i64 N1, .int .i64 E1]) ∧ Below w.heap.size w w')
    (p1 : ∀ w, Calls Tryz.prog 16 #[.agg #[.int .u64 x0, .int .u64 x1], .agg #[.int .u64 x2, .int .u64 x3], .agg #[.int .u64 x4, .int .u64 x5], .agg #[.int .u64 x6, .int .u64 x7]] w fun e w' => e = .returned (.tuple #[.int .i64 N2, .int .i64 E2]) ∧ Below w.heap.size w w')
    (z1 : ∀ w, Calls Tryz.prog 17 #[.agg #[.int .u64 x0, .int .u64 x1], .agg #[.int .u64 x2, .int .u64 x3], .agg #[.int .u64 x4, .int .u64 x5], .agg #[.int .u64 x6, .int .u64 x7]] w fun e w' => e = .returned (.tuple #[.int .i64 N2, .int .i64 E2]) ∧ Below w.heap.size w w')
    (p2 : ∀ w, Calls Tryz.prog 18 #[.agg #[.int .u64 x0, .int .u64 x1], .agg #[.int .u64 x2, .int .u64 x3], .agg #[.int .u64 x4, .int .u64 x5]] w fun e w' => e = .returned (.tuple #[.bool B, .int .i64 E3]) ∧ Below w.heap.size w w')
    (z2 : ∀ w, Calls Tryz.prog 19 #[.agg #[.int .u64 x0, .int .u64 x1], .agg #[.int .u64 x2, .int .u64 x3], .agg #[.int .u64 x4, .int .u64 x5]] w fun e w' => e = .returned (.tuple #[.bool B, .int .i64 E3]) ∧ Below w.heap.size w w')
    (p3 : ∀ w, Calls Tryz.prog 20 #[.agg #[.int .u64 x0, .int .u64 x1], .agg #[.int .u64 x2, .int .u64 x3], .agg #[.int .u64 x4, .int .u64 x5], .agg #[.int .u64 x6, .int .u64 x7]] w fun e w' => e = .returned (.tuple #[.int .i64 N4, .int .i64 E4]) ∧ Below w.heap.size w w')
    (z3 : ∀ w, Calls Tryz.prog 21 #[.agg #[.int .u64 x0, .int .u64 x1], .agg #[.int .u64 x2, .int .u64 x3], .agg #[.int .u64 x4, .int .u64 x5], .agg #[.int .u64 x6, .int .u64 x7]] w fun e w' => e = .returned (.tuple #[.int .i64 N4, .int .i64 E4]) ∧ Below w.heap.size w w')
    (p4 : ∀ w, Calls Tryz.prog 22 #[.agg #[.int .u64 x0, .int .u64 x1], .agg #[.int .u64 x2, .int .u64 x3]] w fun e w' => e = .returned (.tuple #[.int .i64 N5, .int .i64 E5]) ∧ Below w.heap.size w w')
    (z4 : ∀ w, Calls Tryz.prog 23 #[.agg #[.int .u64 x0, .int .u64 x1], .agg #[.int .u64 x2, .int .u64 x3]] w fun e w' => e = .returned (.tuple #[.int .i64 N5, .int .i64 E5]) ∧ Below w.heap.size w w')
    (pA : ∀ w, Calls Tryz.prog 13 #[.agg #[.int .u64 x0, .int .u64 x1], .agg #[.int .u64 x2, .int .u64 x3], .agg #[.int .u64 x4, .int .u64 x5]] w fun e w' => ArS w S xs ys E6 e w')
    (zA : ∀ w, Calls Tryz.prog 14 #[.agg #[.int .u64 x0, .int .u64 x1], .agg #[.int .u64 x2, .int .u64 x3], .agg #[.int .u64 x4, .int .u64 x5]] w fun e w' => ArX w S xs ys E6 e w') (w : World) :
    Calls Tryz.prog 4 #[.agg #[.int .u64 x0, .int .u64 x1, .int .u64 x2, .int .u64 x3, .int .u64 x4, .int .u64 x5, .int .u64 x6, .int .u64 x7]] w fun e w' => e = .returned (.bool true) ∧ Below w.heap.size w w' := by
  have hp0 := HL.mk p0
  have hz0 := HL.mk z0
  have hp1 := HL.mk p1
  have hz1 := HL.mk z1
  have hp2 := HL.mk p2
  have hz2 := HL.mk z2
  have hp3 := HL.mk p3
  have hz3 := HL.mk z3
  have hp4 := HL.mk p4
  have hz4 := HL.mk z4
  have hpA := HL.mk pA
  have hzA := HL.mk zA
  clear p0 z0 p1 z1 p2 z2 p3 z3 p4 z4 pA zA
  have qN1 : (N1 != N1) = false := bne_of rfl
  have qN2 : (N2 != N2) = false := bne_of rfl
  have qN4 : (N4 != N4) = false := bne_of rfl
  have qN5 : (N5 != N5) = false := bne_of rfl
  have qE1 : (E1 != E1) = false := bne_of rfl
  have qE2 : (E2 != E2) = false := bne_of rfl
  have qE3 : (E3 != E3) = false := bne_of rfl
  have qE4 : (E4 != E4) = false := bne_of rfl
  have qE5 : (E5 != E5) = false := bne_of rfl
  have qE6 : (E6 != E6) = false := bne_of rfl
  have rN5 : (N5 == N5) = true := beq_of rfl
  have rE5 : (E5 == E5) = true := beq_of rfl
  have hb0 := alloc_below (w := w) (.cells #[.int .u64 x0, .int .u64 x1, .int .u64 x2, .int .u64 x3, .int .u64 x4, .int .u64 x5, .int .u64 x6, .int .u64 x7] 36)
  have u0 := Pb.new w 36 #[.int .u64 x0, .int .u64 x1, .int .u64 x2, .int .u64 x3, .int .u64 x4, .int .u64 x5, .int .u64 x6, .int .u64 x7]
  obtain ⟨g, hg⟩ : ∃ g, g = w.heap.size := ⟨_, rfl⟩
  have HG : Hid (w.heap.size = g) := hg.symm
  rw [← hg] at u0
  clear hg
  obtain ⟨w0, hw0⟩ : ∃ w0, w0 = w.alloc (.cells #[.int .u64 x0, .int .u64 x1, .int .u64 x2, .int .u64 x3, .int .u64 x4, .int .u64 x5, .int .u64 x6, .int .u64 x7] 36) := ⟨_, rfl⟩
  rw [← hw0] at hb0 u0
  have B0 := hb0
  clear hb0
  obtain ⟨y0, y1, y2, y3, y4, y5, y6, y7⟩ := four_cells u0
  go_enter Tryz.func4, Tryz.ntmps4
  go_wp2_with fail
  rw [← hw0, HG.out]
  clear hw0
  refine (hp0.out w0).mono ?_
  rintro e w1 ⟨rfl, hb⟩
  have B1 := B0.trans (hb.mono B0.size)
  have u1 := u0.later hb
  obtain ⟨y0, y1, y2, y3, y4, y5, y6, y7⟩ := four_cells u1
  clear hp0 u0 hb B0
  go_wp2_with (go_at_call 9; refine (num22_same _ _).mono ?_; rintro e w' ⟨rfl, rfl⟩)
  refine (hz0.out w1).mono ?_
  rintro e w2 ⟨rfl, hb⟩
  have B2 := B1.trans (hb.mono B1.size)
  have u2 := u1.later hb
  obtain ⟨y0, y1, y2, y3, y4, y5, y6, y7⟩ := four_cells u2
  clear hz0 u1 hb B1
  go_wp2_with (go_at_call 9; refine (num22_same _ _).mono ?_; rintro e w' ⟨rfl, rfl⟩)
  refine (hpA.out w2).mono ?_
  rintro e v3 ⟨⟨s1, a1, n1, c1, b1, m1, d1, rfl, R1, hb⟩, lx, ly⟩
  have al := alloc_below (w := v3) (.cells #[.bool s1, .slice a1 n1 c1, .slice b1 m1 d1] 43)
  have Bv := B2.trans (hb.mono B2.size)
  have B3 := Bv.trans (al.mono Bv.size)
  have u3 := (u2.later hb).later al
  have t1 := Pb.new v3 43 #[.bool s1, .slice a1 n1 c1, .slice b1 m1 d1]
  replace R1 := R1.later al
  obtain ⟨y0, y1, y2, y3, y4, y5, y6, y7⟩ := four_cells u3
  obtain ⟨tc10, tc11, tc12⟩ := three_cells t1
  clear hpA u2 hb B2 al Bv
  go_wp2_with (go_at_call 9; refine (num22_same _ _).mono ?_; rintro e w' ⟨rfl, rfl⟩)
  generalize v3.alloc (.cells #[.bool s1, .slice a1 n1 c1, .slice b1 m1 d1] 43) = w3 at *
  generalize v3.heap.size = gr1 at *
  refine (hzA.out w3).mono ?_
  rintro e v4 ⟨s2, a2, n2, c2, b2, m2, d2, rfl, R2, hb⟩
  have al := alloc_below (w := v4) (.cells #[.bool s2, .slice a2 n2 c2, .slice b2 m2 d2] 43)
  have Bv := B3.trans (hb.mono B3.size)
  have B4 := Bv.trans (al.mono Bv.size)
  have u4 := (u3.later hb).later al
  have t2 := Pb.new v4 43 #[.bool s2, .slice a2 n2 c2, .slice b2 m2 d2]
  replace R2 := R2.later al
  replace R1 := (R1.later hb).later al
  replace t1 := (t1.later hb).later al
  obtain ⟨y0, y1, y2, y3, y4, y5, y6, y7⟩ := four_cells u4
  obtain ⟨tc20, tc21, tc22⟩ := three_cells t2
  clear hzA u3 hb B3 al Bv
  obtain ⟨tc10, tc11, tc12⟩ := three_cells t1
  have SR := HL.mk (sameRat22_any R1 R2 lx ly)
  clear R1 R2 lx ly
  go_wp2_with (go_at_call 9; refine (num22_same _ _).mono ?_; rintro e w' ⟨rfl, rfl⟩)
  generalize v4.alloc (.cells #[.bool s2, .slice a2 n2 c2, .slice b2 m2 d2] 43) = w4 at *
  generalize v4.heap.size = gr2 at *
  refine SR.out.mono ?_
  rintro e w5 ⟨rfl, hb⟩
  have B5 := B4.trans (hb.mono B4.size)
  have u5 := u4.later hb
  obtain ⟨y0, y1, y2, y3, y4, y5, y6, y7⟩ := four_cells u5
  clear SR u4 hb B4
  go_wp2_with (go_at_call 9; refine (num22_same _ _).mono ?_; rintro e w' ⟨rfl, rfl⟩)
  refine (hp1.out w5).mono ?_
  rintro e w6 ⟨rfl, hb⟩
  have B6 := B5.trans (hb.mono B5.size)
  have u6 := u5.later hb
  obtain ⟨y0, y1, y2, y3, y4, y5, y6, y7⟩ := four_cells u6
  clear hp1 u5 hb B5
  go_wp2_with (go_at_call 9; refine (num22_same _ _).mono ?_; rintro e w' ⟨rfl, rfl⟩)
  refine (hz1.out w6).mono ?_
  rintro e w7 ⟨rfl, hb⟩
  have B7 := B6.trans (hb.mono B6.size)
  have u7 := u6.later hb
  obtain ⟨y0, y1, y2, y3, y4, y5, y6, y7⟩ := four_cells u7
  clear hz1 u6 hb B6
  go_wp2_with (go_at_call 9; refine (num22_same _ _).mono ?_; rintro e w' ⟨rfl, rfl⟩)
  refine (hp2.out w7).mono ?_
  rintro e w8 ⟨rfl, hb⟩
  have B8 := B7.trans (hb.mono B7.size)
  have u8 := u7.later hb
  obtain ⟨y0, y1, y2, y3, y4, y5, y6, y7⟩ := four_cells u8
  clear hp2 u7 hb B7
  go_wp2_with (go_at_call 9; refine (num22_same _ _).mono ?_; rintro e w' ⟨rfl, rfl⟩)
  refine (hz2.out w8).mono ?_
  rintro e w9 ⟨rfl, hb⟩
  have B9 := B8.trans (hb.mono B8.size)
  have u9 := u8.later hb
  obtain ⟨y0, y1, y2, y3, y4, y5, y6, y7⟩ := four_cells u9
  clear hz2 u8 hb B8
  go_wp2_with (go_at_call 9; refine (num22_same _ _).mono ?_; rintro e w' ⟨rfl, rfl⟩)
  refine (hp3.out w9).mono ?_
  rintro e w10 ⟨rfl, hb⟩
  have B10 := B9.trans (hb.mono B9.size)
  have u10 := u9.later hb
  obtain ⟨y0, y1, y2, y3, y4, y5, y6, y7⟩ := four_cells u10
  clear hp3 u9 hb B9
  go_wp2_with (go_at_call 9; refine (num22_same _ _).mono ?_; rintro e w' ⟨rfl, rfl⟩)
  refine (hz3.out w10).mono ?_
  rintro e w11 ⟨rfl, hb⟩
  have B11 := B10.trans (hb.mono B10.size)
  have u11 := u10.later hb
  obtain ⟨y0, y1, y2, y3, y4, y5, y6, y7⟩ := four_cells u11
  clear hz3 u10 hb B10
  go_wp2_with (go_at_call 9; refine (num22_same _ _).mono ?_; rintro e w' ⟨rfl, rfl⟩)
  refine (hp4.out w11).mono ?_
  rintro e w12 ⟨rfl, hb⟩
  have B12 := B11.trans (hb.mono B11.size)
  have u12 := u11.later hb
  obtain ⟨y0, y1, y2, y3, y4, y5, y6, y7⟩ := four_cells u12
  clear hp4 u11 hb B11
  go_wp2_with (go_at_call 9; refine (num22_same _ _).mono ?_; rintro e w' ⟨rfl, rfl⟩)
  refine (hz4.out w12).mono ?_
  rintro e w13 ⟨rfl, hb⟩
  have B13 := B12.trans (hb.mono B12.size)
  have u13 := u12.later hb
  obtain ⟨y0, y1, y2, y3, y4, y5, y6, y7⟩ := four_cells u13
  clear hz4 u12 hb B12
  go_wp2_with (go_at_call 9; refine (num22_same _ _).mono ?_; rintro e w' ⟨rfl, rfl⟩)
  go_ret
  exact ⟨rfl, B13⟩
end Go.Proofs.YtbonkgmcpjaepabGreat


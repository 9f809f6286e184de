import Derived.Deep.RegionHeld3
import Derived.Below
import Derived.BigQuiet
import Derived.ChangeOld
import Derived.Deep.DeepCutAuto
import Derived.Deep.DeepFit
import Derived.Deep.LoopGhost
import Derived.Deep.QuietTactic
import Derived.Deep.RegionWith
import Derived.Defers
import Derived.KernelRfl
import Derived.Laws.BitsAllLaws
import Derived.Laws.CopyRow
import Derived.Laws.EntriesVeiled
import Derived.Laws.IdiomCopy
import Derived.Laws.IdiomRangeMap
import Derived.OpenShut
import Derived.Orders
import Derived.OwnWalk
import Derived.ProofKit
import Derived.Recover
import Derived.Scope
import Derived.ShutString
import Derived.WalkKit
import Derived.WalkLawsBesides
import Derived.WalkMore
import Derived.WalkSpells
import Derived.Test.YtienpliknhkbjaaGreatDoorRp1
import Derived.Test.YtienpliknhkbjaaGreatDoorRp7
import Derived.Test.YtienpliknhkbjaaGreatDoorRp8
import Derived.Test.YtienpliknhkbjaaGreatDoorRp11
/- plumblaw07: exact. -/
namespace Go.Proofs.YtienpliknhkbjaaGreatDoor
open Go.ChangeShapes Go.WideShapes Go.ChangeAt Go.RowKit
open Na Ar
set_option linter.unusedVariables false
theorem GrVar.inn {w w' : World} {g : Nat} (h : GrVar w) (hi : In g (g + 1) w w') (hne : ¬ 0 = g) : GrVar w' := by
  have hl := h.lt
  have hbk := hi.block 0 hl (by omega)
  have hc : ∀ i, w'.cell? ⟨0, i, none⟩ = w.cell? ⟨0, i, none⟩ := fun i => by unfold World.cell?; simp only [hbk]
  unfold GrVar at *
  simp only [hc]
  exact h
end Go.Proofs.YtienpliknhkbjaaGreatDoor

/- plumblaw07: size, value, above. -/
namespace Go.Proofs.YtienpliknhkbjaaGreatDoor
open Go.ChangeShapes Go.WideShapes Go.ChangeAt Go.RowKit
open Na Ar
set_option linter.unusedVariables false
section
variable {w : World} {s1 : Bool} {a1 b1 : Option Addr} {n1 c1 m1 d1 : Nat} {k : Nat}
/-- a pattern's number -/
def valR (b : Int) : Rat := mkR (spS b) (spM b * e2 (spX b)) (e2 (-(spX b)))
theorem valR_num {b : Int} (h : U b) (hf : ef b ≠ 2047) : valR b = mkR (spS b) (numW b) (e2 1074) := by
  obtain ⟨p, e1, e2', e3, e4, e5, e6, e7⟩ := num_parts h hf
  unfold valR
  have hx : -1074 ≤ spX b := by omega
  rw [mk_eq (Int.mul_nonneg e3 (Int.le_of_lt (e2_pos _))) (e2_pos _) (by rw [e7]; exact Int.mul_nonneg e3 (Int.le_of_lt (p2pos _))) (e2_pos _)]
  have key : spM b * e2 (spX b) * e2 1074 = numW b * e2 (-(spX b)) := by
    rw [e7, ← e2_nat p, ← e1]
    by_cases hx0 : 0 ≤ spX b
    · rw [e2_zero (k := -(spX b)) (by omega), Int.mul_one, Int.mul_assoc, ← e2_add hx0 (by omega)]
    · rw [e2_zero (k := spX b) (by omega), Int.mul_one, Int.mul_assoc, ← e2_add (by omega) (by omega)]
      congr 2; omega
  have sgm : ∀ s x y, sg s x * y = sg s (x * y) := fun s x y => by unfold sg; split <;> simp [Int.neg_mul]
  rw [sgm, sgm, key]
theorem value_size {b : Int} (h : U b) (hf : ef b ≠ 2047) : Sz (valR b) 20 := by
  obtain ⟨p, e1, e2', e3, e4, e5, e6, e7⟩ := num_parts h hf
  unfold valR
  have l1 : Lt (spM b * e2 (spX b)) 20 := ((Lt.word (x := spM b) ⟨e3, by omega⟩).pow2 (t := (spX b).toNat)).mono (by omega)
  have l2 : Lt (e2 (-(spX b))) 20 := by
    have := (Lt.word (x := 1) (by omega)).pow2 (t := (-(spX b)).toNat)
    rw [Int.one_mul] at this
    exact this.mono (by omega)
  exact Sz.mkR l1 l2 (e2_pos _)
theorem spS_low {b : Int} (h0 : 0 ≤ b) (h1 : b ≤ mostP) : spS b = false := by
  unfold mostP at h1
  unfold spS
  split
  · rfl
  · exact decide_eq_false (by omega)
/-- the number of a pattern without a sign -/
theorem valR_low {b : Int} (h0 : 0 ≤ b) (h1 : b ≤ mostP) : valR b = mkR false (numW b) (e2 1074) := by
  obtain ⟨u, f, _⟩ := size_fin h0 h1
  rw [valR_num u f, spS_low h0 h1]
end
end Go.Proofs.YtienpliknhkbjaaGreatDoor

/- package near: withoutTwos, binary, Value. -/
namespace Go.Proofs.YtienpliknhkbjaaGreatDoor
open Go.ChangeShapes Go.WideShapes Go.ChangeAt Go.RowKit
open Na Ar
set_option linter.unusedVariables false
namespace Na
theorem two_form {M : Int} (h : 0 < M) : ∃ (k : Nat) (o : Int), M = o * 2 ^ k ∧ o % 2 = 1 ∧ 0 < o ∧ zerosN M = k ∧ M / 2 ^ k = o := by
  obtain ⟨k, m, hk⟩ := odd_part M.toNat (by omega)
  have e : M = (2 * (m : Int) + 1) * 2 ^ k := by
    have a : M = ((2 ^ (k + 1) * m + 2 ^ k : Nat) : Int) := by omega
    rw [a, Int.natCast_add, Int.natCast_mul, p2cast, p2cast, Int.pow_succ]
    generalize (2 : Int) ^ k = P
    grind
  have p := p2pos k
  refine ⟨k, 2 * (m : Int) + 1, e, by omega, by omega, ?_, ?_⟩
  · unfold zerosN
    rw [hk, show 2 ^ (k + 1) * m + 2 ^ k = 2 ^ k * (2 * m + 1) by rw [Nat.pow_succ]; grind, ctz_pow]
  · rw [e]; exact Int.mul_ediv_cancel _ (by omega)
theorem odd_gcd {o : Int} (h : o % 2 = 1) (h0 : 0 < o) (x : Int) : Int.gcd (o * e2 x) (e2 (-x)) = 1 := by
  by_cases hx : 0 ≤ x
  · rw [e2_zero (show -x ≤ 0 by omega)]
    exact Int.gcd_one_right _
  · rw [e2_zero (show x ≤ 0 by omega), Int.mul_one]
    unfold e2
    obtain ⟨n, rfl⟩ : ∃ n : Nat, o = (n : Int) := ⟨o.toNat, by omega⟩
    have c : Nat.Coprime n (2 ^ (-x).toNat) := Nat.Coprime.pow_right _ (by
      rw [Nat.Coprime, Nat.gcd_comm, Nat.gcd_rec, show n % 2 = 1 by omega]; rfl)
    rw [← p2cast]
    exact c
/-- m times two to the x -/
def binQ (s : Bool) (m x : Int) : Rat := mkR s (m * e2 x) (e2 (-x))
theorem binQ_odd {o : Int} (h : o % 2 = 1) (h0 : 0 < o) (s : Bool) (x : Int) : ((binQ s o x).num.natAbs : Int) = o * e2 x ∧ ((binQ s o x).den : Int) = e2 (-x) ∧ decide ((binQ s o x).num < 0) = s := by
  have p1 := e2_pos x
  have p2 := e2_pos (-x)
  have pA : 0 < o * e2 x := Int.mul_pos h0 p1
  have g := odd_gcd h h0 x
  unfold binQ
  refine ⟨?_, ?_, ?_⟩
  · rw [rat_abs (by omega) p2, g]; simp
  · rw [rat_den (by omega) p2, g]; simp
  · rw [rat_neg (by omega) p2, g]
    simp
    intro _
    omega
theorem e2_step (X : Int) (k : Nat) : 2 ^ k * e2 X * e2 (-(X + k)) = e2 (X + k) * e2 (-X) := by
  rw [← e2_nat]
  by_cases h0 : 0 ≤ X
  · rw [e2_zero (show -(X + k) ≤ 0 by omega), e2_zero (show -X ≤ 0 by omega), e2_add h0 (by omega)]
    generalize e2 X = a
    generalize e2 (k : Int) = b
    grind
  · by_cases h1 : 0 ≤ X + k
    · rw [e2_zero (show X ≤ 0 by omega), e2_zero (show -(X + k) ≤ 0 by omega), show (k : Int) = (X + k) + (-X) by omega, e2_add (by omega) (by omega)]
      rw [show X + (X + ↑k + -X) = X + k by omega]
      generalize e2 (X + k) = a
      generalize e2 (-X) = b
      grind
    · rw [e2_zero (show X ≤ 0 by omega), e2_zero (show X + k ≤ 0 by omega), show -X = (k : Int) + -(X + k) by omega, e2_add (by omega) (by omega)]
      generalize e2 (k : Int) = a
      generalize e2 (-(X + k)) = b
      grind
theorem binQ_move (s : Bool) {o : Int} (h0 : 0 ≤ o) (k : Nat) (x : Int) : binQ s (o * 2 ^ k) x = binQ s o (x + k) := by
  unfold binQ
  have p1 := e2_pos x
  have p2 := e2_pos (-x)
  have p3 := e2_pos (x + k)
  have p4 := e2_pos (-(x + k))
  have p := p2pos k
  rw [mk_eq (Int.mul_nonneg (Int.mul_nonneg h0 (by omega)) (by omega)) p2 (Int.mul_nonneg h0 (by omega)) p4]
  have e := e2_step x k
  have q : o * 2 ^ k * e2 x * e2 (-(x + k)) = o * e2 (x + k) * e2 (-x) := by
    rw [Int.mul_assoc, Int.mul_assoc, ← Int.mul_assoc (2 ^ k), e, Int.mul_assoc]
  unfold sg
  cases s
  · exact q
  · simp only [if_true]
    rw [Int.neg_mul, Int.neg_mul, q]
theorem binQ_zero (s : Bool) (x : Int) : binQ s 0 x = ((0 : Int) : Rat) := by
  unfold binQ mkR sg
  rw [Int.zero_mul]
  cases s <;> simp
theorem binQ_val (b : Int) : valR b = binQ (spS b) (spM b) (spX b) := rfl
end Na
section
variable {w : World} {a b : Option Addr} {n m c1 c2 : Nat} {xs ys : List Int} {A : Int} {k : Nat}
theorem shlO (hr1 : RowC w a n c1 xs) (h1 : Nm xs A) {t : Nat} {T : Int} (hT : T = t) (ht : t ≤ 400000000) (hL : Lt (A * 2 ^ t) k) (hk : k ≤ 4096) :
    Calls Tryz.prog 88 #[.slice a n c1, .int .i64 T] w fun e w' => ∃ v, e = .returned (.tuple #[v, .int .i64 0]) ∧ Own .u64 w' w.heap.size 22 v (words (A * 2 ^ t)) ∧ Below w.heap.size w w' := by
  subst hT
  have l1 := hr1.1.1
  have h := natShl_any hr1 h1.ws (by have := h1.len; omega) (t : Int) (by omega)
  have e1 : shlE A (t : Int) = 0 := by unfold shlE; rw [if_neg (by omega)]; simp; exact (hL.fits hk).2
  have e2 : shlL A (t : Int) = words (A * 2 ^ t) := by unfold shlL; rw [if_neg (by omega)]; simp; exact (hL.fits hk).1
  rw [h1.num, e1, e2] at h
  exact h
theorem twos_any {K : Nat} {o : Int} (hr1 : RowC w a n c1 xs) (h1 : Nm xs A) (hL : Lt A k) (hk : k ≤ 4096) (hz : zerosN A = K) (hK : K ≤ 400000000) (ho : A / 2 ^ K = o) :
    Calls Tryz.prog 86 #[.slice a n c1] w fun e w' => ∃ a' n' c' l', e = .returned (.tuple #[.slice a' n' c', .int .i64 (K : Int)]) ∧ RowC w' a' n' c' l' ∧ Nm l' o ∧ Below w.heap.size w w' := by
  have hZ := natZeros_any hr1 h1.ws (by have := h1.len; have := hr1.1.1; omega)
  rw [h1.num, hz] at hZ
  have hS := fun w' (hb : Below w.heap.size w w') => shrQ (S := decide (A % 2 ^ K ≠ 0)) (hr1.later hb) h1 K hK hL hk rfl
  rw [ho] at hS
  generalize decide (A % 2 ^ K ≠ 0) = S at hS
  clear hz ho
  go_enter Tryz.func86, Tryz.ntmps86
  go_wp2_with fail
  refine hZ.mono ?_
  rintro e w1 ⟨rfl, hb1⟩
  go_wp2_with fail
  refine (hS _ hb1).mono ?_
  rintro e w2 ⟨a', n', c', l', rfl, r, nm, _, hb⟩
  have hB := hb1.trans (hb.mono hb1.size)
  clear hZ hS
  go_wp2
  go_ret2
  exact ⟨a', n', c', l', rfl, r, nm, hB⟩
end
theorem bin_rto {w : World} {base : Nat} {v1 v2 : Value} {neg : Bool} {o x : Int} {t1 t2 : Nat} (h : o % 2 = 1) (h0 : 0 < o) (e1 : e2 x = 2 ^ t1) (e3 : e2 (-x) = 2 ^ t2) (o1 : Own .u64 w base 22 v1 (words (o * 2 ^ t1))) (o2 : Own .u64 w base 22 v2 (words (1 * 2 ^ t2))) (ap : Apart v1 v2) :
    RtO w base neg v1 v2 (binQ neg o x) := by
  obtain ⟨a1, a2, a3⟩ := binQ_odd h h0 neg x
  refine ⟨a3.symm, ?_, ?_, ap⟩
  · rw [a1, e1]; exact o1
  · rw [a2, e3, ← Int.one_mul (2 ^ t2)]; exact o2
set_option maxHeartbeats 3200000 in
set_option maxRecDepth 100000 in
theorem binary_any {neg : Bool} {m x : Int} (hm : U m) (hx0 : -1100 ≤ x) (hx1 : x ≤ 1100) (w : World) :
    Calls Tryz.prog 48 #[.bool neg, .int .u64 m, .int .i64 x] w fun e w' => ∃ s v1 v2, e = .returned (.agg #[.bool s, v1, v2]) ∧ RtO w' w.heap.size s v1 v2 (binQ neg m x) ∧ Below w.heap.size w w' := by
  have t0 := st_new w (.bool false) (.slice none 0 0) (.slice none 0 0) 45
  have HB0 := alloc_below (w := w) (.cells #[.bool false, .slice none 0 0, .slice none 0 0] 45)
  have e0 : w.heap.size + 1 ≤ (w.alloc (.cells #[.bool false, .slice none 0 0, .slice none 0 0] 45)).heap.size := by simp
  obtain ⟨g, hg⟩ : ∃ g, g = w.heap.size := ⟨_, rfl⟩
  have HG : Hid (w.heap.size = g) := hg.symm
  rw [← hg] at t0 e0
  by_cases hz : m = 0
  · have d1 : (m == 0) = true := beq_of hz
    have HQ : Hid (binQ neg m x = ((0 : Int) : Rat)) := by show _ = _; rw [hz, binQ_zero]
    have hI := fun w => rInt_any (v := 0) (by omega) (by omega) w
    clear hz
    go_enter Tryz.func48, Tryz.ntmps48
    go_wp2_with fail
    rw [← hg]
    generalize w.alloc (.cells #[.bool false, .slice none 0 0, .slice none 0 0] 45) = w0 at *
    clear hg
    refine (hI _).mono ?_
    rintro e w1 ⟨s9, v1, v2, rfl, hR, hb1⟩
    obtain ⟨a9, n9, c9, b9, m9, d9, rfl, rfl, _⟩ := hR.opens
    have t1 := t0.later hb1
    have HB1 := HB0.trans (hb1.mono HB0.size)
    obtain ⟨x0, x1, x2⟩ := t1.cells
    obtain ⟨z0, z1, z2⟩ := t1.frozen
    clear hI t0 HB0
    go_wp2
    have i9 := in3 w1 g (.bool s9) (.slice a9 n9 c9) (.slice b9 m9 d9)
    have T9 := t1.set (.bool s9) (.slice a9 n9 c9) (.slice b9 m9 d9)
    have R9 := ((hR.lower (base' := g + 1) (by omega)).inn i9 (by omega)).lower (base' := w.heap.size) (by rw [HG.out]; omega)
    have B9 := below_in HB1 i9 (by rw [HG.out]; omega) (Nat.le_refl _)
    obtain ⟨j0, j1, j2⟩ := T9.cells
    refine bodyPost_ret (v := .agg #[.bool s9, .slice a9 n9 c9, .slice b9 m9 d9]) (by simp [results, Tryz.results48, go_sem, j0, j1, j2]) rfl ?_
    exact ⟨_, _, _, rfl, by rw [HQ.out]; exact R9, B9⟩
  · have d1 : (m == 0) = false := beq_no hz
    obtain ⟨K, o, hmo, ho2, ho0, hzn, hdv⟩ := two_form (M := m) (by have := hm.1; omega)
    have hK : K ≤ 63 := by
      apply Decidable.byContradiction
      intro q
      have a : (2 : Int) ^ 64 ≤ 2 ^ K := p2mono (by omega)
      have b : 1 * 2 ^ K ≤ o * 2 ^ K := Int.mul_le_mul_of_nonneg_right (by omega) (Int.le_of_lt (p2pos K))
      have c := hm.2
      rw [show (2 : Int) ^ 64 = 18446744073709551616 by decide] at a
      omega
    have hol : o ≤ m := by
      have b : o * 1 ≤ o * 2 ^ K := Int.mul_le_mul_of_nonneg_left (by have := p2pos K; omega) (by omega)
      omega
    have HQ : Hid (binQ neg m x = binQ neg o (x + K)) := by show _ = _; rw [hmo]; exact binQ_move neg (by omega) K x
    obtain ⟨t1, T1, mx1, H1, E1, l1⟩ : ∃ (t1 : Nat) (T1 : Int), (if x + (K : Int) < 0 then 0 else x + (K : Int)) = T1 ∧ Hid (T1 = (t1 : Int)) ∧ e2 (x + K) = 2 ^ t1 ∧ t1 ≤ 1200 :=
      ⟨(x + K).toNat, _, rfl, (by show _ = _; split <;> omega), rfl, by omega⟩
    obtain ⟨t2, T2, mx2, H2, E2, l2⟩ : ∃ (t2 : Nat) (T2 : Int), (if -(x + (K : Int)) < 0 then 0 else -(x + (K : Int))) = T2 ∧ Hid (T2 = (t2 : Int)) ∧ e2 (-(x + K)) = 2 ^ t2 ∧ t2 ≤ 1200 :=
      ⟨(-(x + K)).toNat, _, rfl, (by show _ = _; split <;> omega), rfl, by omega⟩
    have mx3 : (if 0 < x + (K : Int) then 0 else -(x + (K : Int))) = T2 := by rw [← mx2]; split <;> split <;> omega
    have HE1 : Hid (e2 (x + K) = 2 ^ t1) := E1
    have HE2 : Hid (e2 (-(x + K)) = 2 ^ t2) := E2
    have lm := Lt.word hm
    have lo : Lt o 1 := lm.le (by omega) hol
    have l3 : Lt (o * 2 ^ t1) 30 := (lo.pow2 (t := t1)).mono (by omega)
    have l4 : Lt (1 * 2 ^ t2) 30 := (lt_one.pow2 (t := t2)).mono (by omega)
    have HZ : Hid (zerosN m = (K : Int)) := hzn
    have HD : Hid (m / 2 ^ K = o) := hdv
    have f1 := fun w => natFrom_any (v := m) hm w
    have f2 := fun w => natFrom_any (v := 1) (by omega) w
    clear hmo hzn hdv E1 E2 hz hol
    go_enter Tryz.func48, Tryz.ntmps48
    go_wp2_with fail
    rw [← hg]
    generalize w.alloc (.cells #[.bool false, .slice none 0 0, .slice none 0 0] 45) = w0 at *
    clear hg
    refine (f1 _).mono ?_
    rintro e w1 ⟨v, rfl, ov, hb⟩
    have s1 := t0.later hb
    have HB := HB0.trans (hb.mono HB0.size)
    obtain ⟨va, vn, vc, vl, rfl, rv, nv, _⟩ := ov.opens lm (by omega)
    clear ov hb t0 HB0 f1
    go_wp2_with fail
    refine (twos_any rv nv lm (by omega) HZ.out (by omega) HD.out).mono ?_
    rintro e w2 ⟨ua, un, uc, us, rfl, ru, nu, hb⟩
    have s1 := s1.later hb
    have HB := HB.trans (hb.mono HB.size)
    clear hb rv nv
    go_wp2_with fail
    refine (shlO ru nu H1.out (by omega) l3 (by omega)).mono ?_
    rintro e w3 ⟨v1, rfl, o1, hb⟩
    have sz := s1.lt
    have s1 := s1.later hb
    have HB := HB.trans (hb.mono HB.size)
    have sz2 := hb.size
    obtain ⟨pa, pc, rfl, rp⟩ := o1.readsC
    have o1 := o1.wider (base' := g + 1) (by omega)
    clear hb ru nu
    go_wp2_with fail
    refine (f2 _).mono ?_
    rintro e w4 ⟨v, rfl, ov, hb⟩
    have s1 := s1.later hb
    have HB := HB.trans (hb.mono HB.size)
    have o1' := o1
    have o1 := o1.later hb
    obtain ⟨va, vn, vc, vl, rfl, rv, nv, _⟩ := ov.opens lt_one (by omega)
    have sz3 := hb.size
    clear ov hb f2
    go_wp2_with fail
    refine (shlO rv nv H2.out (by omega) l4 (by omega)).mono ?_
    rintro e w5 ⟨v2, rfl, o2, hb⟩
    have s1 := s1.later hb
    have HB := HB.trans (hb.mono HB.size)
    have o1 := o1.later hb
    have ap := apart_later o1' o2 sz3
    obtain ⟨qa, qc, rfl, rq⟩ := o2.readsC
    have o2 := o2.wider (base' := g + 1) (by omega)
    have R := bin_rto (neg := neg) ho2 ho0 HE1.out HE2.out o1 o2 ap
    obtain ⟨x0, x1, x2⟩ := s1.cells
    obtain ⟨z0, z1, z2⟩ := s1.frozen
    clear hb rv nv o1 o2 o1' ap rp rq
    generalize (words (o * 2 ^ t1)).length = n9 at *
    generalize (words (1 * 2 ^ t2)).length = m9 at *
    go_wp2
    have i9 := in3 w5 g (.bool neg) (.slice pa n9 pc) (.slice qa m9 qc)
    have T9 := s1.set (.bool neg) (.slice pa n9 pc) (.slice qa m9 qc)
    have R9 := (R.inn i9 (by omega)).lower (base' := w.heap.size) (by rw [HG.out]; omega)
    have B9 := below_in HB i9 (by rw [HG.out]; omega) (Nat.le_refl _)
    obtain ⟨j0, j1, j2⟩ := T9.cells
    refine bodyPost_ret (v := .agg #[.bool neg, .slice pa n9 pc, .slice qa m9 qc]) (by simp [results, Tryz.results48, go_sem, j0, j1, j2]) rfl ?_
    exact ⟨_, _, _, rfl, by rw [HQ.out]; exact R9, B9⟩
end Go.Proofs.YtienpliknhkbjaaGreatDoor

/- package near: Value; what no number is; the statements' value of such a pattern; a pattern's own number, rounded. -/
namespace Go.Proofs.YtienpliknhkbjaaGreatDoor
open Go.ChangeShapes Go.WideShapes Go.ChangeAt Go.RowKit
open Na Ar
set_option linter.unusedVariables false
set_option maxHeartbeats 3200000 in
set_option maxRecDepth 100000 in
theorem nearValue_fin {b : Int} (hu : U b) (hf : ef b ≠ 2047) (w : World) :
    Calls Tryz.prog 18 #[.int .u64 b] w fun e w' => ∃ s v1 v2, e = .returned (.tuple #[.agg #[.bool s, v1, v2], .int .i64 0]) ∧ RtO w' w.heap.size s v1 v2 (valR b) ∧ Below w.heap.size w w' := by
  obtain ⟨p, e1, e2', e3, e4, e5, e6, e7⟩ := num_parts hu hf
  have hE : fiE b = 0 := by unfold fiE; rw [if_neg hf]
  have hSp := fun w => f6Split_any hu w
  rw [hE] at hSp
  have hBn := fun w => binary_any (neg := spS b) (m := spM b) (x := spX b) ⟨e3, by omega⟩ (by omega) (by omega) w
  rw [← binQ_val] at hBn
  have t0 := st_new w (.bool false) (.slice none 0 0) (.slice none 0 0) 45
  have HB0 := alloc_below (w := w) (.cells #[.bool false, .slice none 0 0, .slice none 0 0] 45)
  have e0 : w.heap.size + 1 ≤ (w.alloc (.cells #[.bool false, .slice none 0 0, .slice none 0 0] 45)).heap.size := by simp
  obtain ⟨g, hg⟩ : ∃ g, g = w.heap.size := ⟨_, rfl⟩
  have HG : Hid (w.heap.size = g) := hg.symm
  rw [← hg] at t0 e0
  generalize valR b = V at *
  generalize spS b = sS at *
  generalize spM b = sM at *
  generalize spX b = sX at *
  clear hE e1 e2' e3 e4 e5 e6 e7 hf
  go_enter Tryz.func18, Tryz.ntmps18
  go_wp2_with fail
  rw [← hg]
  generalize w.alloc (.cells #[.bool false, .slice none 0 0, .slice none 0 0] 45) = w0 at *
  clear hg
  refine (hSp _).mono ?_
  rintro e w1 ⟨rfl, rfl⟩
  go_wp2_with fail
  refine (hBn _).mono ?_
  rintro e w1 ⟨s9, v1, v2, rfl, hR, hb1⟩
  obtain ⟨a9, n9, c9, b9, m9, d9, rfl, rfl, _⟩ := hR.opens
  have t1 := t0.later hb1
  have HB1 := HB0.trans (hb1.mono HB0.size)
  obtain ⟨x0, x1, x2⟩ := t1.cells
  obtain ⟨z0, z1, z2⟩ := t1.frozen
  clear hSp hBn t0 HB0
  go_wp2
  have i9 := in3 w1 g (.bool s9) (.slice a9 n9 c9) (.slice b9 m9 d9)
  have T9 := t1.set (.bool s9) (.slice a9 n9 c9) (.slice b9 m9 d9)
  have R9 := ((hR.lower (base' := g + 1) (by omega)).inn i9 (by omega)).lower (base' := w.heap.size) (by rw [HG.out]; omega)
  have B9 := below_in HB1 i9 (by rw [HG.out]; omega) (Nat.le_refl _)
  obtain ⟨j0, j1, j2⟩ := T9.cells
  refine bodyPost_ret (v := .tuple #[.agg #[.bool s9, .slice a9 n9 c9, .slice b9 m9 d9], .int .i64 0]) (by simp [results, Tryz.results18, go_sem, j0, j1, j2]) rfl ?_
  exact ⟨_, _, _, rfl, R9, B9⟩
set_option maxHeartbeats 3200000 in
set_option maxRecDepth 100000 in
theorem nearValue_inf {b : Int} (hu : U b) (hf : ef b = 2047) (w : World) :
    Calls Tryz.prog 18 #[.int .u64 b] w fun e w' => e = .returned (.tuple #[.agg #[.bool false, .slice none 0 0, .slice none 0 0], .int .i64 60]) ∧ Below w.heap.size w w' := by
  have hE : fiE b = 60 := by unfold fiE; rw [if_pos hf]
  have hSp := fun w => f6Split_any hu w
  rw [hE] at hSp
  have HB0 := alloc_below (w := w) (.cells #[.bool false, .slice none 0 0, .slice none 0 0] 45)
  generalize spS b = sS at *
  generalize spM b = sM at *
  generalize spX b = sX at *
  clear hE hf
  go_enter Tryz.func18, Tryz.ntmps18
  go_wp2_with fail
  refine (hSp _).mono ?_
  rintro e w1 ⟨rfl, rfl⟩
  go_wp2
  refine bodyPost_ret (v := .tuple #[.agg #[.bool false, .slice none 0 0, .slice none 0 0], .int .i64 60]) (by simp [results, Tryz.results18, go_sem]) rfl ?_
  exact ⟨rfl, HB0⟩
namespace Na
/-- a pattern's own number is rounded to it, in every mode -/
theorem round_self {A B d mode : Int} {neg : Bool} (hB : 0 < B) (h0 : 0 ≤ d) (h1 : d ≤ mostP) (h : A = numW d * B) : RoundIs A B false neg mode (d + sgB neg) 0 := by
  refine ⟨d, ⟨h0, h1, by omega, ?_⟩, Or.inl ⟨Or.inl ?_, rfl, rfl⟩⟩
  · by_cases q : d = mostP
    · exact Or.inl q
    · right
      rw [h, num_succ h0 (by omega)]
      exact Int.mul_lt_mul_of_pos_right (nxt_gt _) hB
  · unfold agn
    rw [h, if_neg (by omega), if_pos rfl, if_neg (by simp)]
/-- the pattern that a pattern's number is rounded to: of -0 that is 0 -/
def wantB (b : Int) : Int := if b = 9223372036854775808 then 0 else b
theorem pat_parts {b : Int} (h : U b) (hf : ef b ≠ 2047) : b = sgB (spS b) + mg b := by
  unfold U at h
  unfold sgB spS mg
  rw [if_neg hf]
  by_cases q : 9223372036854775808 ≤ b
  · rw [if_pos (by simpa using q)]; omega
  · rw [if_neg (by simpa using q)]; omega
end Na
section
variable {w : World} {s : Bool} {a b' : Option Addr} {n c m d : Nat}
end
end Go.Proofs.YtienpliknhkbjaaGreatDoor

/- package pred: a Rat's value in memory of its own; opposite, from. -/
namespace Go.Proofs.YtienpliknhkbjaaGreatDoor
open Go.ChangeShapes Go.WideShapes Go.ChangeAt Go.RowKit
open Na Ar
set_option linter.unusedVariables false
/-- a block of cells -/
def Pb (w : World) (g : Nat) (t : TypeId) (vs : Array Value) : Prop := w.heap[g]? = some (.cells vs t (0, 0))
theorem Pb.lt {w : World} {g : Nat} {t : TypeId} {vs : Array Value} (h : Pb w g t vs) : g < w.heap.size := by
  by_cases hlt : g < w.heap.size
  · exact hlt
  · unfold Pb at h; simp [Array.getElem?_eq_none (Nat.le_of_not_lt hlt)] at h
theorem Pb.later {w w' : World} {g : Nat} {t : TypeId} {vs : Array Value} (h : Pb w g t vs) (hb : Below w.heap.size w w') : Pb w' g t vs := by
  have := h.lt
  unfold Pb
  rw [hb.block g this]; exact h
theorem Pb.new (w : World) (t : TypeId) (vs : Array Value) : Pb (w.alloc (.cells vs t)) w.heap.size t vs := heap_alloc_new _ _
theorem Pb.cell {w : World} {g : Nat} {t : TypeId} {vs : Array Value} (h : Pb w g t vs) (i : Nat) {v : Value} (hv : vs[i]? = some v) : w.cell? ⟨g, i, none⟩ = some v := by
  unfold Pb at h
  simp [World.cell?, h, hv]
theorem Pb.frozen {w : World} {g : Nat} {t : TypeId} {vs : Array Value} (h : Pb w g t vs) (i : Nat) : w.frozen? ⟨g, i, none⟩ = false := by
  unfold Pb at h
  simp [World.frozen?, h]
theorem Pb.set {w : World} {g : Nat} {t : TypeId} {vs : Array Value} (h : Pb w g t vs) (i : Nat) (v : Value) : Pb (w.setCell ⟨g, i, none⟩ v) g t (vs.setIfInBounds i v) := set_block h
theorem Pb.inn {w w' : World} {g g' : Nat} {t : TypeId} {vs : Array Value} (h : Pb w g t vs) (hi : In g' (g' + 1) w w') (hne : g ≠ g') : Pb w' g t vs := by
  have := h.lt
  unfold Pb
  rw [hi.block g this (by omega)]; exact h
theorem Pb.six {w : World} {g : Nat} {t : TypeId} {x0 x1 x2 x3 x4 x5 : Value} (h : Pb w g t #[x0, x1, x2, x3, x4, x5]) :
    (w.cell? ⟨g, 0, none⟩ = some x0 ∧ w.cell? ⟨g, 1, none⟩ = some x1 ∧ w.cell? ⟨g, 2, none⟩ = some x2 ∧ w.cell? ⟨g, 3, none⟩ = some x3 ∧ w.cell? ⟨g, 4, none⟩ = some x4 ∧ w.cell? ⟨g, 5, none⟩ = some x5) ∧
    (w.frozen? ⟨g, 0, none⟩ = false ∧ w.frozen? ⟨g, 1, none⟩ = false ∧ w.frozen? ⟨g, 2, none⟩ = false ∧ w.frozen? ⟨g, 3, none⟩ = false ∧ w.frozen? ⟨g, 4, none⟩ = false ∧ w.frozen? ⟨g, 5, none⟩ = false) :=
  ⟨⟨h.cell 0 rfl, h.cell 1 rfl, h.cell 2 rfl, h.cell 3 rfl, h.cell 4 rfl, h.cell 5 rfl⟩, h.frozen 0, h.frozen 1, h.frozen 2, h.frozen 3, h.frozen 4, h.frozen 5⟩
theorem pb_tri {w : World} {g : Nat} {t : TypeId} {x0 x1 x2 : Value} (h : Pb w g t #[x0, x1, x2]) : w.cell? ⟨g, 0, none⟩ = some x0 ∧ w.cell? ⟨g, 1, none⟩ = some x1 ∧ w.cell? ⟨g, 2, none⟩ = some x2 :=
  ⟨h.cell 0 rfl, h.cell 1 rfl, h.cell 2 rfl⟩
theorem Pb.set6 {w : World} {g : Nat} {t : TypeId} {x0 x1 x2 x3 x4 x5 : Value} (h : Pb w g t #[x0, x1, x2, x3, x4, x5]) (a b c d e f : Value) :
    Pb ((((((w.setCell ⟨g, 0, none⟩ a).setCell ⟨g, 1, none⟩ b).setCell ⟨g, 2, none⟩ c).setCell ⟨g, 3, none⟩ d).setCell ⟨g, 4, none⟩ e).setCell ⟨g, 5, none⟩ f) g t #[a, b, c, d, e, f] :=
  (((((h.set 0 a).set 1 b).set 2 c).set 3 d).set 4 e).set 5 f
theorem in6p (w : World) (g : Nat) (a b c d e f : Value) : In g (g + 1) w ((((((w.setCell ⟨g, 0, none⟩ a).setCell ⟨g, 1, none⟩ b).setCell ⟨g, 2, none⟩ c).setCell ⟨g, 3, none⟩ d).setCell ⟨g, 4, none⟩ e).setCell ⟨g, 5, none⟩ f) :=
  ((((((In.refl g (g + 1) w).set1 0 _).set1 1 _).set1 2 _).set1 3 _).set1 4 _).set1 5 _
theorem RtO.rt22 {w : World} {base : Nat} {s : Bool} {a b : Option Addr} {n c m d : Nat} {q : Rat} (h : RtO w base s (.slice a n c) (.slice b m d) q) : Rt w s a n c b m d q := by
  obtain ⟨a', n', c', b', m', d', e1, e2, r⟩ := h.opens
  simp only [Value.slice.injEq] at e1 e2
  obtain ⟨rfl, rfl, rfl⟩ := e1
  obtain ⟨rfl, rfl, rfl⟩ := e2
  exact r
theorem neg_sgn {q : Rat} {s : Bool} (h : s = decide (q.num < 0)) : (!s && decide (q.num ≠ 0)) = decide ((-q).num < 0) := by
  subst h
  rw [Rat.neg_num]
  by_cases h : q.num < 0
  · rw [decide_eq_true h, decide_eq_false (show ¬ -q.num < 0 by omega)]; rfl
  · by_cases h0 : q.num = 0
    · rw [h0]; rfl
    · rw [decide_eq_false h, decide_eq_true (show -q.num < 0 by omega), decide_eq_true h0]; rfl
theorem Sz.neg {q : Rat} {k : Nat} (h : Sz q k) : Sz (-q) k := by
  obtain ⟨a, b⟩ := h
  exact ⟨by rw [Rat.neg_num, Int.natAbs_neg]; exact a, by rw [Rat.neg_den]; exact b⟩
theorem Rt.neg {w : World} {s : Bool} {a b : Option Addr} {n c m d : Nat} {q : Rat} (h : Rt w s a n c b m d q) : Rt w (!s && decide (q.num ≠ 0)) a n c b m d (-q) :=
  ⟨neg_sgn h.sgn, by rw [Rat.neg_num, Int.natAbs_neg]; exact h.nu, by rw [Rat.neg_den]; exact h.de⟩
theorem pb_three (w : World) (A B C : Array Value) (t : TypeId) {t2 t3 : TypeId} : Pb (((w.alloc (.cells A t)).alloc (.cells B t2)).alloc (.cells C t3)) w.heap.size t A ∧ Pb (((w.alloc (.cells A t)).alloc (.cells B t2)).alloc (.cells C t3)) (w.heap.size + 1) t2 B ∧ Pb (((w.alloc (.cells A t)).alloc (.cells B t2)).alloc (.cells C t3)) (w.heap.size + 1 + 1) t3 C ∧ Below w.heap.size w (((w.alloc (.cells A t)).alloc (.cells B t2)).alloc (.cells C t3)) ∧ (((w.alloc (.cells A t)).alloc (.cells B t2)).alloc (.cells C t3)).heap.size = w.heap.size + 1 + 1 + 1 := by
  have b1 := alloc_below (w := w) (.cells A t)
  have b2 := alloc_below (w := w.alloc (.cells A t)) (.cells B t2)
  have b3 := alloc_below (w := (w.alloc (.cells A t)).alloc (.cells B t2)) (.cells C t3)
  have e1 : (w.alloc (.cells A t)).heap.size = w.heap.size + 1 := by simp
  have e2 : ((w.alloc (.cells A t)).alloc (.cells B t2)).heap.size = w.heap.size + 1 + 1 := by simp
  have p1 := Pb.new w t A
  have p2 := Pb.new (w.alloc (.cells A t)) t2 B
  have p3 := Pb.new ((w.alloc (.cells A t)).alloc (.cells B t2)) t3 C
  rw [e1] at p2
  rw [e2] at p3
  exact ⟨(p1.later b2).later b3, p2.later b3, p3, b1.trans ((b2.trans (b3.mono b2.size)).mono b1.size), by simp⟩
theorem pb_two (w : World) (A : Array Value) (x y z : Value) (t : TypeId) {t' : TypeId} : Pb ((w.alloc (.cells A t')).alloc (.cells #[x, y, z] t)) w.heap.size t' A ∧ St ((w.alloc (.cells A t')).alloc (.cells #[x, y, z] t)) (w.heap.size + 1) t x y z ∧ Below w.heap.size w ((w.alloc (.cells A t')).alloc (.cells #[x, y, z] t)) ∧ ((w.alloc (.cells A t')).alloc (.cells #[x, y, z] t)).heap.size = w.heap.size + 1 + 1 := by
  have b1 := alloc_below (w := w) (.cells A t')
  have b2 := alloc_below (w := w.alloc (.cells A t')) (.cells #[x, y, z] t)
  have e1 : (w.alloc (.cells A t')).heap.size = w.heap.size + 1 := by simp
  have p1 := Pb.new w t' A
  have p2 := st_new (w.alloc (.cells A t')) x y z t
  rw [e1] at p2
  exact ⟨p1.later b2, p2, b1.trans (b2.mono b1.size), by simp⟩
theorem pb_two' (w : World) (A B : Array Value) (t : TypeId) (t' : TypeId) : Pb ((w.alloc (.cells A t)).alloc (.cells B t')) w.heap.size t A ∧ Pb ((w.alloc (.cells A t)).alloc (.cells B t')) (w.heap.size + 1) t' B ∧ Below w.heap.size w ((w.alloc (.cells A t)).alloc (.cells B t')) := by
  have b1 := alloc_below (w := w) (.cells A t)
  have b2 := alloc_below (w := w.alloc (.cells A t)) (.cells B t')
  have e1 : (w.alloc (.cells A t)).heap.size = w.heap.size + 1 := by simp
  have p1 := Pb.new w t A
  have p2 := Pb.new (w.alloc (.cells A t)) t' B
  rw [e1] at p2
  exact ⟨p1.later b2, p2, b1.trans (b2.mono b1.size)⟩
section
variable {w : World} {s1 s2 s3 s4 : Bool} {a1 b1 a2 b2 a3 b3 a4 b4 : Option Addr} {n1 c1 m1 d1 n2 c2 m2 d2 n3 c3 m3 d3 n4 c4 m4 d4 : Nat} {p q r t : Rat} {k l : Nat}
set_option maxHeartbeats 3200000 in
set_option maxRecDepth 100000 in
theorem opp22_any (h1 : Rt w s1 a1 n1 c1 b1 m1 d1 p) (hn : n1 ≤ 4000000) :
    Calls Tryz.prog 134 #[.agg #[.bool s1, .slice a1 n1 c1, .slice b1 m1 d1]] w fun e w' => e = .returned (.agg #[.bool (!s1 && decide (p.num ≠ 0)), .slice a1 n1 c1, .slice b1 m1 d1]) ∧ Below w.heap.size w w' := by
  obtain ⟨t1, t2, hb0⟩ := st_two w (.bool s1) (.slice a1 n1 c1) (.slice b1 m1 d1) (.bool false) (.slice none 0 0) (.slice none 0 0) 45 45
  obtain ⟨w0, hw0⟩ : ∃ w0, w0 = (w.alloc (.cells #[.bool s1, .slice a1 n1 c1, .slice b1 m1 d1] 45)).alloc (.cells #[.bool false, .slice none 0 0, .slice none 0 0] 45) := ⟨_, rfl⟩
  rw [← hw0] at t1 t2 hb0
  have e0 : w.heap.size + 2 ≤ w0.heap.size := by rw [hw0]; simp
  obtain ⟨g, hg⟩ : ∃ g, g = w.heap.size := ⟨_, rfl⟩
  have HG : Hid (w.heap.size = g) := hg.symm
  rw [← hg] at t1 t2 hb0 e0
  have hsg := fun w1 (h : Below w0.heap.size w0 w1) => rSign_any (K := sgnR p) ((h1.later (by rw [hg] at hb0; exact hb0)).later h) hn rfl
  have ht : (sgnR p != 0) = decide (p.num ≠ 0) := by
    unfold sgnR
    by_cases h : p.num = 0
    · rw [if_pos h]; simp [h]
    · rw [if_neg h]; split <;> simp [h]
  generalize sgnR p = K at *
  generalize decide (p.num ≠ 0) = B at *
  clear h1 hn
  cases s1
  · go_enter Tryz.func134, Tryz.ntmps134
    go_wp2_with fail
    rw [← hw0, ← hg]
    refine (hsg _ (Below.refl _ _)).mono ?_
    rintro e wA ⟨rfl, hbA⟩
    have HA := hb0.trans (hbA.mono (by omega))
    have T1 := t1.later hbA
    have T2 := t2.later hbA
    obtain ⟨x0, x1, x2⟩ := T1.cells
    obtain ⟨z0, z1, z2⟩ := T1.frozen
    obtain ⟨y0, y1, y2⟩ := T2.cells
    obtain ⟨u0, u1, u2⟩ := T2.frozen
    have ne1 : ¬ g = g + 1 := by omega
    clear hsg hw0 hg t1 t2 hbA hb0
    cases B
    · go_wp2
      have i1 : In g (g + 1) wA (wA.setCell ⟨g, 0, none⟩ (.bool false)) := in1 _ g _
      have j1 := in3 (wA.setCell ⟨g, 0, none⟩ (.bool false)) (g + 1) (.bool false) (.slice a1 n1 c1) (.slice b1 m1 d1)
      have T9 := ((T2.inn i1 (by omega)).set (.bool false) (.slice a1 n1 c1) (.slice b1 m1 d1)).cells
      refine bodyPost_ret (v := .agg #[.bool false, .slice a1 n1 c1, .slice b1 m1 d1]) (by simp [results, Tryz.results134, go_sem, T9]) rfl ?_
      refine ⟨rfl, ?_⟩
      rw [HG.out]
      exact below_in (below_in HA i1 (by omega) (by rw [HG.out]; exact Nat.le_refl _)) j1 (by omega) (by rw [HG.out]; exact Nat.le_refl _)
    · go_wp2
      have i1 : In g (g + 1) wA (wA.setCell ⟨g, 0, none⟩ (.bool true)) := in1 _ g _
      have j1 := in3 (wA.setCell ⟨g, 0, none⟩ (.bool true)) (g + 1) (.bool true) (.slice a1 n1 c1) (.slice b1 m1 d1)
      have T9 := ((T2.inn i1 (by omega)).set (.bool true) (.slice a1 n1 c1) (.slice b1 m1 d1)).cells
      refine bodyPost_ret (v := .agg #[.bool true, .slice a1 n1 c1, .slice b1 m1 d1]) (by simp [results, Tryz.results134, go_sem, T9]) rfl ?_
      refine ⟨rfl, ?_⟩
      rw [HG.out]
      exact below_in (below_in HA i1 (by omega) (by rw [HG.out]; exact Nat.le_refl _)) j1 (by omega) (by rw [HG.out]; exact Nat.le_refl _)
  · have hb1 := (alloc_below (w := w) (.cells #[.bool false, .slice a1 n1 c1, .slice b1 m1 d1] 45))
    have hb2 := hb1.trans ((alloc_below (w := w.alloc (.cells #[.bool false, .slice a1 n1 c1, .slice b1 m1 d1] 45)) (.cells #[.bool false, .slice a1 n1 c1, .slice b1 m1 d1] 45)).mono hb1.size)
    obtain ⟨_, T2, _⟩ := st_two w (.bool false) (.slice a1 n1 c1) (.slice b1 m1 d1) (.bool false) (.slice a1 n1 c1) (.slice b1 m1 d1) 45 45
    have T9 := T2.cells
    clear hw0 hg t1 t2 hb0 hsg
    go_enter Tryz.func134, Tryz.ntmps134
    go_wp2
    refine bodyPost_ret (v := .agg #[.bool false, .slice a1 n1 c1, .slice b1 m1 d1]) (by simp [results, Tryz.results134, go_sem, T9]) rfl ?_
    exact ⟨by simp, hb2⟩
theorem opp22_at {w0 : World} (h1 : Rt w0 s1 a1 n1 c1 b1 m1 d1 p) (hn : n1 ≤ 4000000) (h : Below w0.heap.size w0 w) :
    Calls Tryz.prog 134 #[.agg #[.bool s1, .slice a1 n1 c1, .slice b1 m1 d1]] w fun e w' => ∃ s, e = .returned (.agg #[.bool s, .slice a1 n1 c1, .slice b1 m1 d1]) ∧ Rt w' s a1 n1 c1 b1 m1 d1 (-p) ∧ Below w0.heap.size w0 w' := by
  refine (opp22_any (h1.later h) hn).mono ?_
  rintro e w' ⟨rfl, hb⟩
  exact ⟨_, rfl, ((h1.later h).later hb).neg, h.trans (hb.mono h.size)⟩
set_option maxHeartbeats 3200000 in
set_option maxRecDepth 100000 in
theorem from22_any (h1 : Rt w s1 a1 n1 c1 b1 m1 d1 p) (h2 : Rt w s2 a2 n2 c2 b2 m2 d2 q) (h3 : Rt w s3 a3 n3 c3 b3 m3 d3 r) (h4 : Rt w s4 a4 n4 c4 b4 m4 d4 t) (z1 : Sz p k) (z2 : Sz q k) (z3 : Sz r k) (z4 : Sz t k) (hk : k + k + 1 ≤ 4096) :
    Calls Tryz.prog 110 #[.agg #[.bool s1, .slice a1 n1 c1, .slice b1 m1 d1, .bool s2, .slice a2 n2 c2, .slice b2 m2 d2], .agg #[.bool s3, .slice a3 n3 c3, .slice b3 m3 d3, .bool s4, .slice a4 n4 c4, .slice b4 m4 d4]] w fun e w' => ∃ s a n c b m d s' a' n' c' b' m' d', e = .returned (.agg #[.bool s, .slice a n c, .slice b m d, .bool s', .slice a' n' c', .slice b' m' d']) ∧ RtO w' w.heap.size s (.slice a n c) (.slice b m d) (r - p) ∧ RtO w' w.heap.size s' (.slice a' n' c') (.slice b' m' d') (t - q) ∧ Sz (r - p) (k + k + 1) ∧ Sz (t - q) (k + k + 1) ∧ Below w.heap.size w w' := by
  obtain ⟨w0, hw0⟩ : ∃ w0, w0 = ((w.alloc (.cells #[.bool s1, .slice a1 n1 c1, .slice b1 m1 d1, .bool s2, .slice a2 n2 c2, .slice b2 m2 d2] 90)).alloc (.cells #[.bool s3, .slice a3 n3 c3, .slice b3 m3 d3, .bool s4, .slice a4 n4 c4, .slice b4 m4 d4] 90)).alloc (.cells #[.bool false, .slice none 0 0, .slice none 0 0, .bool false, .slice none 0 0, .slice none 0 0] 90) := ⟨_, rfl⟩
  obtain ⟨u1, u2, u3, hb0, e0⟩ : Pb w0 w.heap.size 90 #[.bool s1, .slice a1 n1 c1, .slice b1 m1 d1, .bool s2, .slice a2 n2 c2, .slice b2 m2 d2] ∧ Pb w0 (w.heap.size + 1) 90 #[.bool s3, .slice a3 n3 c3, .slice b3 m3 d3, .bool s4, .slice a4 n4 c4, .slice b4 m4 d4] ∧ Pb w0 (w.heap.size + 1 + 1) 90 #[.bool false, .slice none 0 0, .slice none 0 0, .bool false, .slice none 0 0, .slice none 0 0] ∧ Below w.heap.size w w0 ∧ w0.heap.size = w.heap.size + 1 + 1 + 1 := by
    subst hw0
    exact pb_three _ _ _ _ _
  obtain ⟨g, hg⟩ : ∃ g, g = w.heap.size := ⟨_, rfl⟩
  have HG : Hid (w.heap.size = g) := hg.symm
  have r1 := h1.later hb0
  have r2 := h2.later hb0
  have r3 := h3.later hb0
  have r4 := h4.later hb0
  rw [← hg] at u1 u2 u3 hb0 e0
  have HE0 : Hid (w0.heap.size = g + 1 + 1 + 1) := e0
  have hE0 : g + 3 ≤ w0.heap.size := by omega
  clear e0
  go_enter Tryz.func110, Tryz.ntmps110
  go_wp2_with fail
  rw [← hw0, ← hg]
  refine (rSub_ok r3 r1 z3 z1 hk).mono ?_
  rintro e wA ⟨sA, vA1, vA2, rfl, hRA, hzA, hbA⟩
  obtain ⟨aA, nA, cA, bA, mA, dA, rfl, rfl, _⟩ := hRA.opens
  have HA := hb0.trans (hbA.mono (by omega))
  have sA' := hbA.size
  have alA := alloc_below (w := wA) (.cells #[.bool sA, .slice aA nA cA, .slice bA mA dA] 45)
  have pA := Pb.new wA 45 #[.bool sA, .slice aA nA cA, .slice bA mA dA]
  have szA : (wA.alloc (.cells #[.bool sA, .slice aA nA cA, .slice bA mA dA] 45)).heap.size = wA.heap.size + 1 := by simp
  have x2 := ((u1.later hbA).later alA).six.1
  have x4 := ((u2.later hbA).later alA).six.1
  have u3' := (u3.later hbA).later alA
  have r2' := (r2.later hbA).later alA
  have r4' := (r4.later hbA).later alA
  have hRA' := hRA.later alA
  obtain ⟨i0, i1, i2, i3, i4, i5⟩ := x2
  obtain ⟨j0, j1, j2, j3, j4, j5⟩ := x4
  clear hw0 hg u1 u2 u3 r1 r2 r3 r4 h1 h2 h3 h4 hRA
  go_wp2_with fail
  generalize wA.alloc (.cells #[.bool sA, .slice aA nA cA, .slice bA mA dA] 45) = wA1 at *
  refine (rSub_ok r4' r2' z4 z2 hk).mono ?_
  rintro e wB ⟨sB, vB1, vB2, rfl, hRB, hzB, hbB⟩
  obtain ⟨aB, nB, cB, bB, mB, dB, rfl, rfl, _⟩ := hRB.opens
  have sB' := hbB.size
  have alB := alloc_below (w := wB) (.cells #[.bool sB, .slice aB nB cB, .slice bB mB dB] 45)
  have pB := Pb.new wB 45 #[.bool sB, .slice aB nB cB, .slice bB mB dB]
  have szB : (wB.alloc (.cells #[.bool sB, .slice aB nB cB, .slice bB mB dB] 45)).heap.size = wB.heap.size + 1 := by simp
  have pA' := (pA.later hbB).later alB
  obtain ⟨q0, q1, q2⟩ := pb_tri pA'
  have u3'' := (u3'.later hbB).later alB
  have hRA'' := (hRA'.later hbB).later alB
  have hRB'' := hRB.later alB
  obtain ⟨⟨k0, k1, k2, k3, k4, k5⟩, ⟨f0, f1, f2, f3, f4, f5⟩⟩ := u3''.six
  have HB := HA.trans ((alA.trans ((hbB.trans (alB.mono sB')).mono (by omega))).mono (by omega))
  have ne1 : ¬ wA.heap.size = wB.heap.size := by omega
  clear i0 i1 i2 i3 i4 i5 j0 j1 j2 j3 j4 j5 r2' r4' pA u3' hRA' hRB alA alB hbA hbB hb0 HA
  go_wp2
  have i9 := in6p (wB.alloc (.cells #[.bool sB, .slice aB nB cB, .slice bB mB dB] 45)) (g + 1 + 1) (.bool sA) (.slice aA nA cA) (.slice bA mA dA) (.bool sB) (.slice aB nB cB) (.slice bB mB dB)
  have T9 := (u3''.set6 (.bool sA) (.slice aA nA cA) (.slice bA mA dA) (.bool sB) (.slice aB nB cB) (.slice bB mB dB)).six.1
  have RA := (hRA''.inn i9 (by omega)).lower (base' := g) (by omega)
  have RB := (hRB''.inn i9 (by omega)).lower (base' := g) (by omega)
  have B9 := below_in HB i9 (by omega) (by rw [HG.out]; exact Nat.le_refl _)
  refine bodyPost_ret (v := .agg #[.bool sA, .slice aA nA cA, .slice bA mA dA, .bool sB, .slice aB nB cB, .slice bB mB dB]) (by simp [results, Tryz.results110, go_sem, T9]) rfl ?_
  rw [HG.out]
  exact ⟨_, _, _, _, _, _, _, _, _, _, _, _, _, _, rfl, RA, RB, hzA, hzB, B9⟩
theorem from22_at {w0 : World} (h1 : Rt w0 s1 a1 n1 c1 b1 m1 d1 p) (h2 : Rt w0 s2 a2 n2 c2 b2 m2 d2 q) (h3 : Rt w0 s3 a3 n3 c3 b3 m3 d3 r) (h4 : Rt w0 s4 a4 n4 c4 b4 m4 d4 t) (z1 : Sz p k) (z2 : Sz q k) (z3 : Sz r k) (z4 : Sz t k) (hk : k + k + 1 ≤ 4096) (h : Below w0.heap.size w0 w) :
    Calls Tryz.prog 110 #[.agg #[.bool s1, .slice a1 n1 c1, .slice b1 m1 d1, .bool s2, .slice a2 n2 c2, .slice b2 m2 d2], .agg #[.bool s3, .slice a3 n3 c3, .slice b3 m3 d3, .bool s4, .slice a4 n4 c4, .slice b4 m4 d4]] w fun e w' => ∃ s a n c b m d s' a' n' c' b' m' d', e = .returned (.agg #[.bool s, .slice a n c, .slice b m d, .bool s', .slice a' n' c', .slice b' m' d']) ∧ RtO w' w0.heap.size s (.slice a n c) (.slice b m d) (r - p) ∧ RtO w' w0.heap.size s' (.slice a' n' c') (.slice b' m' d') (t - q) ∧ Sz (r - p) (k + k + 1) ∧ Sz (t - q) (k + k + 1) ∧ Below w.heap.size w w' ∧ Below w0.heap.size w0 w' := by
  refine (from22_any (h1.later h) (h2.later h) (h3.later h) (h4.later h) z1 z2 z3 z4 hk).mono ?_
  rintro e w' ⟨s, a, n, c, b, m, d, s', a', n', c', b', m', d', rfl, hR, hR', hz, hz', hb⟩
  exact ⟨s, a, n, c, b, m, d, s', a', n', c', b', m', d', rfl, hR.lower h.size, hR'.lower h.size, hz, hz', hb, h.trans (hb.mono h.size)⟩
end
end Go.Proofs.YtienpliknhkbjaaGreatDoor

/- package pred: sum. -/
namespace Go.Proofs.YtienpliknhkbjaaGreatDoor
open Go.ChangeShapes Go.WideShapes Go.ChangeAt Go.RowKit
open Na Ar
set_option linter.unusedVariables false
/-- the product number i of a row in memory -/
def PrAt (w : World) (g i : Nat) (p q : Rat) (K : Nat) : Prop := ∃ s1 a1 n1 c1 b1 m1 d1 s2 a2 n2 c2 b2 m2 d2,
  (w.cell? ⟨g, i * 6, none⟩ = some (.bool s1) ∧ w.cell? ⟨g, i * 6 + 1, none⟩ = some (.slice a1 n1 c1) ∧ w.cell? ⟨g, i * 6 + 2, none⟩ = some (.slice b1 m1 d1) ∧ w.cell? ⟨g, i * 6 + 3, none⟩ = some (.bool s2) ∧ w.cell? ⟨g, i * 6 + 4, none⟩ = some (.slice a2 n2 c2) ∧ w.cell? ⟨g, i * 6 + 5, none⟩ = some (.slice b2 m2 d2)) ∧
  Rt w s1 a1 n1 c1 b1 m1 d1 p ∧ Rt w s2 a2 n2 c2 b2 m2 d2 q ∧ Sz p K ∧ Sz q K ∧ g < w.heap.size
theorem PrAt.later {w w' : World} {g i : Nat} {p q : Rat} {K : Nat} (h : PrAt w g i p q K) (hb : Below w.heap.size w w') : PrAt w' g i p q K := by
  obtain ⟨s1, a1, n1, c1, b1, m1, d1, s2, a2, n2, c2, b2, m2, d2, ⟨x0, x1, x2, x3, x4, x5⟩, r1, r2, z1, z2, hg⟩ := h
  exact ⟨s1, a1, n1, c1, b1, m1, d1, s2, a2, n2, c2, b2, m2, d2, ⟨(hb.cell (p := ⟨g, _, none⟩) hg).trans x0, (hb.cell (p := ⟨g, _, none⟩) hg).trans x1, (hb.cell (p := ⟨g, _, none⟩) hg).trans x2, (hb.cell (p := ⟨g, _, none⟩) hg).trans x3, (hb.cell (p := ⟨g, _, none⟩) hg).trans x4, (hb.cell (p := ⟨g, _, none⟩) hg).trans x5⟩, r1.later hb, r2.later hb, z1, z2, Nat.lt_of_lt_of_le hg hb.size⟩
/-- a Rat is answered, in memory of its own -/
def RvQ (w : World) (q : Rat) (K : Nat) (e : Ending) (w' : World) : Prop := ∃ s a n c b m d, e = .returned (.agg #[.bool s, .slice a n c, .slice b m d]) ∧ RtO w' w.heap.size s (.slice a n c) (.slice b m d) q ∧ Sz q K ∧ Below w.heap.size w w'
def psum (p q : Rat) (L : List (Rat × Rat)) : Nat → Rat
  | 0 => p * q
  | k + 1 => psum p q L k + (L.getD k (0, 0)).1 * (L.getD k (0, 0)).2
section
variable {w : World} {s1 s2 : Bool} {a1 b1 a2 b2 : Option Addr} {n1 c1 m1 d1 n2 c2 m2 d2 : Nat} {p q : Rat} {k K : Nat}
set_option maxHeartbeats 6400000 in
set_option maxRecDepth 100000 in
theorem sum22_any {L : List (Rat × Rat)} {gm cm N : Nat} (h1 : Rt w s1 a1 n1 c1 b1 m1 d1 p) (h2 : Rt w s2 a2 n2 c2 b2 m2 d2 q) (z1 : Sz p K) (z2 : Sz q K) (hL : ∀ i, i < L.length → PrAt w gm i (L.getD i (0, 0)).1 (L.getD i (0, 0)).2 K) (hN : L.length = N) (hN0 : N ≤ 2) (hK : K ≤ 600) :
    Calls Tryz.prog 133 #[.agg #[.bool s1, .slice a1 n1 c1, .slice b1 m1 d1, .bool s2, .slice a2 n2 c2, .slice b2 m2 d2], .slice (some ⟨gm, 0, none⟩) N cm] w fun e w' => RvQ w (psum p q L N) (K + K + N * (K + K + 1)) e w' := by
  obtain ⟨w0, hw0⟩ : ∃ w0, w0 = (w.alloc (.cells #[.bool s1, .slice a1 n1 c1, .slice b1 m1 d1, .bool s2, .slice a2 n2 c2, .slice b2 m2 d2] 180)).alloc (.cells #[.bool false, .slice none 0 0, .slice none 0 0] 45) := ⟨_, rfl⟩
  obtain ⟨u1, u2, hb0, e0⟩ : Pb w0 w.heap.size 180 #[.bool s1, .slice a1 n1 c1, .slice b1 m1 d1, .bool s2, .slice a2 n2 c2, .slice b2 m2 d2] ∧ St w0 (w.heap.size + 1) 45 (.bool false) (.slice none 0 0) (.slice none 0 0) ∧ Below w.heap.size w w0 ∧ w0.heap.size = w.heap.size + 1 + 1 := by
    subst hw0
    exact pb_two _ _ _ _ _ _
  obtain ⟨g, hg⟩ : ∃ g, g = w.heap.size := ⟨_, rfl⟩
  have HG : Hid (w.heap.size = g) := hg.symm
  have r1 := h1.later hb0
  have r2 := h2.later hb0
  have hLw := fun (w' : World) (hw : Below g w w') i hi => (hL i hi).later (w' := w') (by rw [hg] at hw; exact hw)
  rw [← hg] at u1 u2 hb0 e0
  have HE0 : Hid (w0.heap.size = g + 1 + 1) := e0
  have hE0 : g + 2 ≤ w0.heap.size := by omega
  clear e0
  go_enter Tryz.func133, Tryz.ntmps133
  go_wp2_with fail
  rw [← hw0, ← hg]
  refine (rMul_ok r1 r2 z1 z2 (by omega)).mono ?_
  rintro e wA ⟨sA, vA1, vA2, rfl, hRA, hzA, hbA⟩
  obtain ⟨aA, nA, cA, bA, mA, dA, rfl, rfl, _⟩ := hRA.opens
  have HA := hb0.trans (hbA.mono (by omega))
  have sA' := hbA.size
  have alA := alloc_below (w := wA) (.cells #[.bool sA, .slice aA nA cA, .slice bA mA dA] 45)
  have pA := st_new wA (.bool sA) (.slice aA nA cA) (.slice bA mA dA) 45
  have szA : (wA.alloc (.cells #[.bool sA, .slice aA nA cA, .slice bA mA dA] 45)).heap.size = wA.heap.size + 1 := by simp
  have u2A := (u2.later hbA).later alA
  have hRA' := (hRA.later alA).lower (base' := g + 1 + 1) (by omega)
  have HB1 := HA.trans (alA.mono (by omega))
  clear hw0 hg u1 u2 r1 r2 h1 h2 hRA hL hb0 hbA HA
  go_wp2
  generalize wA.alloc (.cells #[.bool sA, .slice aA nA cA, .slice bA mA dA] 45) = wA1 at *
  obtain ⟨g5, hg5⟩ : ∃ g5, g5 = wA.heap.size := ⟨_, rfl⟩
  rw [← hg5] at pA szA ⊢
  have h5 : g + 1 < g5 := by omega
  clear hg5 alA sA'
  go_loopw [21] (fun i wr => ∃ (j : Nat) (s : Bool) (a b : Option Addr) (n c m d : Nat), j ≤ N ∧ i = .int .i64 j ∧ St wr g5 45 (.bool s) (.slice a n c) (.slice b m d) ∧ RtO wr (g + 1 + 1) s (.slice a n c) (.slice b m d) (psum p q L j) ∧ Sz (psum p q L j) (K + K + j * (K + K + 1)) ∧ St wr (g + 1) 45 (.bool false) (.slice none 0 0) (.slice none 0 0) ∧ Below g w wr) (fun i _ => N - (intOf i).toNat)
  case atStart => exact ⟨0, sA, aA, bA, nA, cA, mA, dA, Nat.zero_le _, rfl, pA, hRA', by simpa [psum] using hzA, u2A, HB1⟩
  case round =>
    obtain ⟨j, s, a, b, n, c, m, d, hj, rfl, hSt, hR, hz, hU, hB⟩ := hrel
    clear hRA' HB1 pA u2A hzA szA
    by_cases hlt : j < N
    · have i1 : (j : Int) < (N : Int) := by omega
      obtain ⟨t1, e1, y1, f1, g1, v1, k1, t2, e2, y2, f2, g2, v2, k2, ⟨x0, x1, x2, x3, x4, x5⟩, q1, q2, zz1, zz2, hgm⟩ := hLw wr hB j (by omega)
      have hi0 : (0 : Int) ≤ (j : Int) := by omega
      have al1 := alloc_below (w := wr) (.cells #[.bool t1, .slice e1 y1 f1, .slice g1 v1 k1, .bool t2, .slice e2 y2 f2, .slice g2 v2 k2] 180)
      have Q1 := q1.later al1
      have Q2 := q2.later al1
      have S1 := hSt.later al1
      have U1 := hU.later al1
      have lt5 := hSt.lt
      have hBs := hB.size
      have sz1 : wr.heap.size + 1 = (wr.alloc (.cells #[.bool t1, .slice e1 y1 f1, .slice g1 v1 k1, .bool t2, .slice e2 y2 f2, .slice g2 v2 k2] 180)).heap.size := by simp
      have R1 := hR.later al1
      have B1 := hB.trans (al1.mono (by rw [HG.out] at hBs; exact hBs))
      have hps : Hid (psum p q L (j + 1) = psum p q L j + (L.getD j (0, 0)).1 * (L.getD j (0, 0)).2) := rfl
      have hj4 : j + 1 ≤ 2 := by omega
      have hjK : j * (K + K + 1) ≤ 1 * (K + K + 1) := Nat.mul_le_mul_right _ (by omega)
      have hjs : (j + 1) * (K + K + 1) = j * (K + K + 1) + (K + K + 1) := Nat.succ_mul _ _
      clear hSt hR hU hB q1 q2
      go_wp2_with fail
      generalize wr.alloc (.cells #[.bool t1, .slice e1 y1 f1, .slice g1 v1 k1, .bool t2, .slice e2 y2 f2, .slice g2 v2 k2] 180) = w1 at *
      refine (rMul_ok Q1 Q2 zz1 zz2 (by omega)).mono ?_
      rintro e wX ⟨sX, vX1, vX2, rfl, hX, hzX, hbX⟩
      obtain ⟨aX, nX, cX, bX, mX, dX, rfl, rfl, _⟩ := hX.opens
      have al2 := alloc_below (w := wX) (.cells #[.bool sX, .slice aX nX cX, .slice bX mX dX] 45)
      have sX1 := hbX.size
      have sz2 : wX.heap.size + 1 = (wX.alloc (.cells #[.bool sX, .slice aX nX cX, .slice bX mX dX] 45)).heap.size := by simp
      have S2 := (S1.later hbX).later al2
      have U2 := (U1.later hbX).later al2
      have R2 := (R1.later hbX).later al2
      have X2 := hX.later al2
      have hb12 := hbX.trans (al2.mono sX1)
      have B2 := B1.trans (hb12.mono (by omega))
      obtain ⟨⟨m0, m1', m2'⟩, ⟨z0, z1', z2'⟩⟩ := And.intro S2.cells S2.frozen
      have ne5 : ¬ g5 = wX.heap.size := by omega
      clear S1 U1 R1 B1 hb12 x0 x1 x2 x3 x4 x5 Q1 Q2 hbX al1 al2
      go_wp2_with fail
      generalize wX.alloc (.cells #[.bool sX, .slice aX nX cX, .slice bX mX dX] 45) = w2 at *
      refine (rAdd_ok R2.rt22 X2.rt22 hz hzX (by omega)).mono ?_
      rintro e wC ⟨sC, vC1, vC2, rfl, hC, hzC, hbC⟩
      obtain ⟨aC, nC, cC, bC, mC, dC, rfl, rfl, _⟩ := hC.opens
      have sC1 := hbC.size
      have S3 := S2.later hbC
      have U3 := U2.later hbC
      have B3 := B2.trans (hbC.mono (by omega))
      obtain ⟨m0, m1', m2'⟩ := S3.cells
      obtain ⟨z0, z1', z2'⟩ := S3.frozen
      rw [← hps.out] at hC hzC
      have i9 := in3 wC g5 (.bool sC) (.slice aC nC cC) (.slice bC mC dC)
      have S9 := S3.set (.bool sC) (.slice aC nC cC) (.slice bC mC dC)
      have U9 := U3.inn i9 (by omega)
      have C9 := (hC.inn i9 (by omega)).lower (base' := g + 1 + 1) (by omega)
      have B9 := below_in B3 i9 (by omega) (by rw [HG.out]; exact Nat.le_refl _)
      clear S2 U2 R2 X2 B2 S3 U3 B3 hC hbC
      go_wp2
      go_roundw
      case rel => exact ⟨j + 1, sC, aC, bC, nC, cC, mC, dC, hlt, by go_num, S9, C9, hzC.mono (by omega), U9, B9⟩
      case measure => simp [intOf]; omega
    · have i1 : ¬ (j : Int) < (N : Int) := by omega
      have hjN : j = N := by omega
      subst hjN
      obtain ⟨m0, m1', m2'⟩ := hSt.cells
      obtain ⟨z0, z1', z2'⟩ := hU.frozen
      obtain ⟨y0, y1', y2'⟩ := hU.cells
      have hBs := hB.size
      go_wp2
      have i9 := in3 wr (g + 1) (.bool s) (.slice a n c) (.slice b m d)
      have T9 := (hU.set (.bool s) (.slice a n c) (.slice b m d)).cells
      refine bodyPost_ret (v := .agg #[.bool s, .slice a n c, .slice b m d]) (by simp [results, Tryz.results133, go_sem, T9]) rfl ?_
      refine ⟨s, a, n, c, b, m, d, rfl, ?_, hz, ?_⟩
      · rw [HG.out]
        exact (hR.inn i9 (by omega)).lower (by omega)
      · rw [HG.out]
        exact below_in hB i9 (by omega) (by rw [HG.out]; exact Nat.le_refl _)
end
end Go.Proofs.YtienpliknhkbjaaGreatDoor

/- package pred: square, cross. -/
namespace Go.Proofs.YtienpliknhkbjaaGreatDoor
open Go.ChangeShapes Go.WideShapes Go.ChangeAt Go.RowKit
open Na Ar
set_option linter.unusedVariables false
/-- one product in a block of its own -/
theorem prAt_one {w : World} {s1 s2 : Bool} {a1 b1 a2 b2 : Option Addr} {n1 c1 m1 d1 n2 c2 m2 d2 : Nat} {p q : Rat} {K g : Nat} {t : TypeId} (hg : Pb w g t #[.bool s1, .slice a1 n1 c1, .slice b1 m1 d1, .bool s2, .slice a2 n2 c2, .slice b2 m2 d2]) (h1 : Rt w s1 a1 n1 c1 b1 m1 d1 p) (h2 : Rt w s2 a2 n2 c2 b2 m2 d2 q) (z1 : Sz p K) (z2 : Sz q K) :
    ∀ i, i < [(p, q)].length → PrAt w g i ([(p, q)].getD i (0, 0)).1 ([(p, q)].getD i (0, 0)).2 K := by
  intro i hi
  have h0 : i = 0 := by simp at hi; exact hi
  subst h0
  obtain ⟨⟨x0, x1, x2, x3, x4, x5⟩, _⟩ := hg.six
  exact ⟨s1, a1, n1, c1, b1, m1, d1, s2, a2, n2, c2, b2, m2, d2, ⟨x0, x1, x2, x3, x4, x5⟩, h1, h2, z1, z2, hg.lt⟩
section
variable {w : World} {s1 s2 s3 s4 : Bool} {a1 b1 a2 b2 a3 b3 a4 b4 : Option Addr} {n1 c1 m1 d1 n2 c2 m2 d2 n3 c3 m3 d3 n4 c4 m4 d4 : Nat} {p q r t : Rat} {k K : Nat}
theorem RvQ.to {q' : Rat} {K' : Nat} {e : Ending} {w' : World} (h : RvQ w q K e w') (hq : q = q') (hk : K ≤ K') : RvQ w q' K' e w' := by
  obtain ⟨s, a, n, c, b, m, d, e1, r, z, hb⟩ := h
  subst hq
  exact ⟨s, a, n, c, b, m, d, e1, r, z.mono hk, hb⟩
set_option maxHeartbeats 3200000 in
set_option maxRecDepth 100000 in
theorem cross22_any (h1 : Rt w s1 a1 n1 c1 b1 m1 d1 p) (h2 : Rt w s2 a2 n2 c2 b2 m2 d2 q) (h3 : Rt w s3 a3 n3 c3 b3 m3 d3 r) (h4 : Rt w s4 a4 n4 c4 b4 m4 d4 t) (z1 : Sz p K) (z2 : Sz q K) (z3 : Sz r K) (z4 : Sz t K) (hK : K ≤ 600) :
    Calls Tryz.prog 109 #[.agg #[.bool s1, .slice a1 n1 c1, .slice b1 m1 d1, .bool s2, .slice a2 n2 c2, .slice b2 m2 d2], .agg #[.bool s3, .slice a3 n3 c3, .slice b3 m3 d3, .bool s4, .slice a4 n4 c4, .slice b4 m4 d4]] w fun e w' => RvQ w (p * t + -q * r) (K + K + (K + K + 1)) e w' := by
  obtain ⟨w0, hw0⟩ : ∃ w0, w0 = ((w.alloc (.cells #[.bool s1, .slice a1 n1 c1, .slice b1 m1 d1, .bool s2, .slice a2 n2 c2, .slice b2 m2 d2] 90)).alloc (.cells #[.bool s3, .slice a3 n3 c3, .slice b3 m3 d3, .bool s4, .slice a4 n4 c4, .slice b4 m4 d4] 90)).alloc (.cells #[.bool false, .slice none 0 0, .slice none 0 0] 45) := ⟨_, rfl⟩
  obtain ⟨u1, u2, u3, hb0, e0⟩ : Pb w0 w.heap.size 90 #[.bool s1, .slice a1 n1 c1, .slice b1 m1 d1, .bool s2, .slice a2 n2 c2, .slice b2 m2 d2] ∧ Pb w0 (w.heap.size + 1) 90 #[.bool s3, .slice a3 n3 c3, .slice b3 m3 d3, .bool s4, .slice a4 n4 c4, .slice b4 m4 d4] ∧ Pb w0 (w.heap.size + 1 + 1) 45 #[.bool false, .slice none 0 0, .slice none 0 0] ∧ Below w.heap.size w w0 ∧ w0.heap.size = w.heap.size + 1 + 1 + 1 := by
    subst hw0
    exact pb_three _ _ _ _ _
  have u3 : St w0 (w.heap.size + 1 + 1) 45 (.bool false) (.slice none 0 0) (.slice none 0 0) := u3
  obtain ⟨g, hg⟩ : ∃ g, g = w.heap.size := ⟨_, rfl⟩
  have HG : Hid (w.heap.size = g) := hg.symm
  have r1 := h1.later hb0
  have r2 := h2.later hb0
  have r3 := h3.later hb0
  have r4 := h4.later hb0
  rw [← hg] at u1 u2 u3 hb0 e0
  have HE0 : Hid (w0.heap.size = g + 1 + 1 + 1) := e0
  have hE0 : g + 3 ≤ w0.heap.size := by omega
  clear e0
  obtain ⟨⟨i0, i1, i2, i3, i4, i5⟩, _⟩ := u1.six
  obtain ⟨⟨j0, j1, j2, j3, j4, j5⟩, _⟩ := u2.six
  have hop := fun (wx : World) (h : Below w0.heap.size w0 wx) => opp22_at r2 (by have := r2.le z2; omega) h
  go_enter Tryz.func109, Tryz.ntmps109
  go_wp2
  rw [← hw0, ← hg]
  clear hw0 hg
  have hcl : ∀ w1, Below w0.heap.size w0 w1 → w1.cell? ⟨g, 0, none⟩ = some (.bool s1) ∧ w1.cell? ⟨g, 1, none⟩ = some (.slice a1 n1 c1) ∧ w1.cell? ⟨g, 2, none⟩ = some (.slice b1 m1 d1) ∧ w1.cell? ⟨g, 3, none⟩ = some (.bool s2) ∧ w1.cell? ⟨g, 4, none⟩ = some (.slice a2 n2 c2) ∧ w1.cell? ⟨g, 5, none⟩ = some (.slice b2 m2 d2) ∧ w1.cell? ⟨g + 1, 0, none⟩ = some (.bool s3) ∧ w1.cell? ⟨g + 1, 1, none⟩ = some (.slice a3 n3 c3) ∧ w1.cell? ⟨g + 1, 2, none⟩ = some (.slice b3 m3 d3) ∧ w1.cell? ⟨g + 1, 3, none⟩ = some (.bool s4) ∧ w1.cell? ⟨g + 1, 4, none⟩ = some (.slice a4 n4 c4) ∧ w1.cell? ⟨g + 1, 5, none⟩ = some (.slice b4 m4 d4) := fun w1 h => by
    obtain ⟨⟨i0, i1, i2, i3, i4, i5⟩, _⟩ := (u1.later h).six
    obtain ⟨⟨j0, j1, j2, j3, j4, j5⟩, _⟩ := (u2.later h).six
    exact ⟨i0, i1, i2, i3, i4, i5, j0, j1, j2, j3, j4, j5⟩
  have ne1 : ¬ g = g + 1 + 1 := by omega
  have ne2 : ¬ g + 1 + 1 = g := by omega
  go_region_held3 (fun w' => w'.cell? ⟨g, 0, none⟩ = some (.bool s1) ∧ w'.cell? ⟨g, 1, none⟩ = some (.slice a1 n1 c1) ∧ w'.cell? ⟨g, 2, none⟩ = some (.slice b1 m1 d1) ∧ w'.cell? ⟨g, 3, none⟩ = some (.bool s2) ∧ w'.cell? ⟨g, 4, none⟩ = some (.slice a2 n2 c2) ∧ w'.cell? ⟨g, 5, none⟩ = some (.slice b2 m2 d2) ∧ w'.cell? ⟨g + 1, 0, none⟩ = some (.bool s3) ∧ w'.cell? ⟨g + 1, 1, none⟩ = some (.slice a3 n3 c3) ∧ w'.cell? ⟨g + 1, 2, none⟩ = some (.slice b3 m3 d3) ∧ w'.cell? ⟨g + 1, 3, none⟩ = some (.bool s4) ∧ w'.cell? ⟨g + 1, 4, none⟩ = some (.slice a4 n4 c4) ∧ w'.cell? ⟨g + 1, 5, none⟩ = some (.slice b4 m4 d4)) (go_keep) (first | (go_at_call 134; refine (hop _ (by first | exact Below.refl _ _ | exact below_drewN (Below.refl _ _) _)).mono ?_; rintro e wX ⟨so, rfl, rO, hbX⟩; obtain ⟨i0, i1, i2, i3, i4, i5, j0, j1, j2, j3, j4, j5⟩ := hcl wX hbX; have al := alloc_below (w := wX) (.cells #[.bool so, .slice a2 n2 c2, .slice b2 m2 d2, .bool s3, .slice a3 n3 c3, .slice b3 m3 d3] 180); have hbY := hbX.trans (al.mono hbX.size)) | (go_at_call 133; refine (sum22_any (N := 1) (cm := 1) (L := [(-q, r)]) (r1.later hbY) (r4.later hbY) z1 z4 (prAt_one (Pb.new wX 180 _) (rO.later al) (r3.later hbY) z2.neg z3) rfl (by omega) hK).mono ?_; rintro e wZ ⟨s, a, n, c, b, m, d, rfl, hR, hz, hbZ⟩; have hB := hbY.trans (hbZ.mono hbY.size); obtain ⟨i0, i1, i2, i3, i4, i5, j0, j1, j2, j3, j4, j5⟩ := hcl wZ hB; have u9 := u3.later hB; obtain ⟨x0, x1, x2⟩ := u9.cells; obtain ⟨y0, y1, y2⟩ := u9.frozen))
  go_wp2
  have i9 := in3 wZ (g + 1 + 1) (.bool s) (.slice a n c) (.slice b m d)
  have T9 := (u9.set (.bool s) (.slice a n c) (.slice b m d)).cells
  have B3 := hb0.trans (hB.mono (by omega))
  have sY := hbY.size
  refine bodyPost_ret (v := .agg #[.bool s, .slice a n c, .slice b m d]) (by simp [results, Tryz.results109, go_sem, T9]) rfl ?_
  have HK : Hid (K + K + 1 * (K + K + 1) = K + K + (K + K + 1)) := by show _ = _; omega
  refine ⟨s, a, n, c, b, m, d, rfl, ?_, hz.mono (by rw [HK.out]; exact Nat.le_refl _), ?_⟩
  · rw [HG.out]
    exact (hR.inn i9 (by omega)).lower (by omega)
  · rw [HG.out]
    exact below_in B3 i9 (by omega) (by rw [HG.out]; exact Nat.le_refl _)
end
end Go.Proofs.YtienpliknhkbjaaGreatDoor

/- package pred: area2, turn, order (written by genpdd.py). -/
namespace Go.Proofs.YtienpliknhkbjaaGreatDoor
open Go.ChangeShapes Go.WideShapes Go.ChangeAt Go.RowKit
open Na Ar
set_option linter.unusedVariables false
/-- twice the area, as the program puts it together -/
def crR (ax ay bx by' cx cy : Rat) : Rat := (bx - ax) * (cy - ay) + -(by' - ay) * (cx - ax)
theorem pb_four (w : World) (A B C : Array Value) (x y z : Value) (t : TypeId) {t4 : TypeId} : Pb ((((w.alloc (.cells A t)).alloc (.cells B t)).alloc (.cells C t)).alloc (.cells #[x, y, z] t4)) w.heap.size t A ∧ Pb ((((w.alloc (.cells A t)).alloc (.cells B t)).alloc (.cells C t)).alloc (.cells #[x, y, z] t4)) (w.heap.size + 1) t B ∧ Pb ((((w.alloc (.cells A t)).alloc (.cells B t)).alloc (.cells C t)).alloc (.cells #[x, y, z] t4)) (w.heap.size + 1 + 1) t C ∧ St ((((w.alloc (.cells A t)).alloc (.cells B t)).alloc (.cells C t)).alloc (.cells #[x, y, z] t4)) (w.heap.size + 1 + 1 + 1) t4 x y z ∧ Below w.heap.size w ((((w.alloc (.cells A t)).alloc (.cells B t)).alloc (.cells C t)).alloc (.cells #[x, y, z] t4)) ∧ ((((w.alloc (.cells A t)).alloc (.cells B t)).alloc (.cells C t)).alloc (.cells #[x, y, z] t4)).heap.size = w.heap.size + 1 + 1 + 1 + 1 := by
  obtain ⟨p1, p2, p3, b, e⟩ := pb_three w A B C t (t2 := t) (t3 := t)
  have b4 := alloc_below (w := ((w.alloc (.cells A t)).alloc (.cells B t)).alloc (.cells C t)) (.cells #[x, y, z] t4)
  have p4 := st_new (((w.alloc (.cells A t)).alloc (.cells B t)).alloc (.cells C t)) x y z t4
  rw [e] at p4
  exact ⟨p1.later b4, p2.later b4, p3.later b4, p4, b.trans (b4.mono b.size), by simp⟩
section
variable {w : World} {s1 s2 s3 s4 s5 s6 : Bool} {a1 b1 a2 b2 a3 b3 a4 b4 a5 b5 a6 b6 : Option Addr} {n1 c1 m1 d1 n2 c2 m2 d2 n3 c3 m3 d3 n4 c4 m4 d4 n5 c5 m5 d5 n6 c6 m6 d6 : Nat} {q1 q2 q3 q4 q5 q6 : Rat} {k K : Nat}
set_option maxHeartbeats 6400000 in
set_option maxRecDepth 100000 in
theorem area22_any (h1 : Rt w s1 a1 n1 c1 b1 m1 d1 q1) (h2 : Rt w s2 a2 n2 c2 b2 m2 d2 q2) (h3 : Rt w s3 a3 n3 c3 b3 m3 d3 q3) (h4 : Rt w s4 a4 n4 c4 b4 m4 d4 q4) (h5 : Rt w s5 a5 n5 c5 b5 m5 d5 q5) (h6 : Rt w s6 a6 n6 c6 b6 m6 d6 q6) (z1 : Sz q1 k) (z2 : Sz q2 k) (z3 : Sz q3 k) (z4 : Sz q4 k) (z5 : Sz q5 k) (z6 : Sz q6 k) (hk : k ≤ 60) :
    Calls Tryz.prog 76 #[.agg #[.bool s1, .slice a1 n1 c1, .slice b1 m1 d1, .bool s2, .slice a2 n2 c2, .slice b2 m2 d2], .agg #[.bool s3, .slice a3 n3 c3, .slice b3 m3 d3, .bool s4, .slice a4 n4 c4, .slice b4 m4 d4], .agg #[.bool s5, .slice a5 n5 c5, .slice b5 m5 d5, .bool s6, .slice a6 n6 c6, .slice b6 m6 d6]] w fun e w' => RvQ w (crR q1 q2 q3 q4 q5 q6) (8 * k + 5) e w' := by
  obtain ⟨w0, hw0⟩ : ∃ w0, w0 = (((w.alloc (.cells #[.bool s1, .slice a1 n1 c1, .slice b1 m1 d1, .bool s2, .slice a2 n2 c2, .slice b2 m2 d2] 90)).alloc (.cells #[.bool s3, .slice a3 n3 c3, .slice b3 m3 d3, .bool s4, .slice a4 n4 c4, .slice b4 m4 d4] 90)).alloc (.cells #[.bool s5, .slice a5 n5 c5, .slice b5 m5 d5, .bool s6, .slice a6 n6 c6, .slice b6 m6 d6] 90)).alloc (.cells #[.bool false, .slice none 0 0, .slice none 0 0] 45) := ⟨_, rfl⟩
  obtain ⟨u1, u2, u3, u4, hb0, e0⟩ : Pb w0 w.heap.size 90 #[.bool s1, .slice a1 n1 c1, .slice b1 m1 d1, .bool s2, .slice a2 n2 c2, .slice b2 m2 d2] ∧ Pb w0 (w.heap.size + 1) 90 #[.bool s3, .slice a3 n3 c3, .slice b3 m3 d3, .bool s4, .slice a4 n4 c4, .slice b4 m4 d4] ∧ Pb w0 (w.heap.size + 1 + 1) 90 #[.bool s5, .slice a5 n5 c5, .slice b5 m5 d5, .bool s6, .slice a6 n6 c6, .slice b6 m6 d6] ∧ St w0 (w.heap.size + 1 + 1 + 1) 45 (.bool false) (.slice none 0 0) (.slice none 0 0) ∧ Below w.heap.size w w0 ∧ w0.heap.size = w.heap.size + 1 + 1 + 1 + 1 := by
    subst hw0
    exact pb_four _ _ _ _ _ _ _ _
  obtain ⟨g, hg⟩ : ∃ g, g = w.heap.size := ⟨_, rfl⟩
  have HG : Hid (w.heap.size = g) := hg.symm
  have r1 := h1.later hb0
  have r2 := h2.later hb0
  have r3 := h3.later hb0
  have r4 := h4.later hb0
  have r5 := h5.later hb0
  have r6 := h6.later hb0
  rw [← hg] at u1 u2 u3 u4 hb0 e0
  have HE0 : Hid (w0.heap.size = g + 1 + 1 + 1 + 1) := e0
  have hE0 : g + 4 ≤ w0.heap.size := by omega
  clear e0 h1 h2 h3 h4 h5 h6
  have hcl : ∀ w', Below w0.heap.size w0 w' → w'.cell? ⟨g, 0, none⟩ = some (.bool s1) ∧ w'.cell? ⟨g, 1, none⟩ = some (.slice a1 n1 c1) ∧ w'.cell? ⟨g, 2, none⟩ = some (.slice b1 m1 d1) ∧ w'.cell? ⟨g, 3, none⟩ = some (.bool s2) ∧ w'.cell? ⟨g, 4, none⟩ = some (.slice a2 n2 c2) ∧ w'.cell? ⟨g, 5, none⟩ = some (.slice b2 m2 d2) ∧ w'.cell? ⟨g + 1, 0, none⟩ = some (.bool s3) ∧ w'.cell? ⟨g + 1, 1, none⟩ = some (.slice a3 n3 c3) ∧ w'.cell? ⟨g + 1, 2, none⟩ = some (.slice b3 m3 d3) ∧ w'.cell? ⟨g + 1, 3, none⟩ = some (.bool s4) ∧ w'.cell? ⟨g + 1, 4, none⟩ = some (.slice a4 n4 c4) ∧ w'.cell? ⟨g + 1, 5, none⟩ = some (.slice b4 m4 d4) ∧ w'.cell? ⟨g + 1 + 1, 0, none⟩ = some (.bool s5) ∧ w'.cell? ⟨g + 1 + 1, 1, none⟩ = some (.slice a5 n5 c5) ∧ w'.cell? ⟨g + 1 + 1, 2, none⟩ = some (.slice b5 m5 d5) ∧ w'.cell? ⟨g + 1 + 1, 3, none⟩ = some (.bool s6) ∧ w'.cell? ⟨g + 1 + 1, 4, none⟩ = some (.slice a6 n6 c6) ∧ w'.cell? ⟨g + 1 + 1, 5, none⟩ = some (.slice b6 m6 d6) := fun w' h => by
    obtain ⟨⟨i00, i01, i02, i03, i04, i05⟩, _⟩ := (u1.later h).six
    obtain ⟨⟨i10, i11, i12, i13, i14, i15⟩, _⟩ := (u2.later h).six
    obtain ⟨⟨i20, i21, i22, i23, i24, i25⟩, _⟩ := (u3.later h).six
    exact ⟨i00, i01, i02, i03, i04, i05, i10, i11, i12, i13, i14, i15, i20, i21, i22, i23, i24, i25⟩
  obtain ⟨i00, i01, i02, i03, i04, i05, i10, i11, i12, i13, i14, i15, i20, i21, i22, i23, i24, i25⟩ := hcl w0 (Below.refl _ _)
  have hf1 := fun (wx : World) (h : Below w0.heap.size w0 wx) => from22_at r1 r2 r3 r4 z1 z2 z3 z4 (by omega) h
  have hf2 := fun (wx : World) (h : Below w0.heap.size w0 wx) => from22_at r1 r2 r5 r6 z1 z2 z5 z6 (by omega) h
  have ne0 : ¬ g = g + 1 + 1 + 1 := by omega
  have ne1 : ¬ g + 1 + 1 + 1 = g := by omega
  have ne2 : ¬ g = g + 1 + 1 := by omega
  have ne3 : ¬ g + 1 + 1 = g := by omega
  have ne4 : ¬ g + 1 = g + 1 + 1 + 1 := by omega
  have ne5 : ¬ g + 1 + 1 + 1 = g + 1 := by omega
  go_enter Tryz.func76, Tryz.ntmps76
  go_wp2
  rw [← hw0, ← hg]
  clear hw0 hg
  go_region_held3 (fun w' => w'.cell? ⟨g, 0, none⟩ = some (.bool s1) ∧ w'.cell? ⟨g, 1, none⟩ = some (.slice a1 n1 c1) ∧ w'.cell? ⟨g, 2, none⟩ = some (.slice b1 m1 d1) ∧ w'.cell? ⟨g, 3, none⟩ = some (.bool s2) ∧ w'.cell? ⟨g, 4, none⟩ = some (.slice a2 n2 c2) ∧ w'.cell? ⟨g, 5, none⟩ = some (.slice b2 m2 d2) ∧ w'.cell? ⟨g + 1, 0, none⟩ = some (.bool s3) ∧ w'.cell? ⟨g + 1, 1, none⟩ = some (.slice a3 n3 c3) ∧ w'.cell? ⟨g + 1, 2, none⟩ = some (.slice b3 m3 d3) ∧ w'.cell? ⟨g + 1, 3, none⟩ = some (.bool s4) ∧ w'.cell? ⟨g + 1, 4, none⟩ = some (.slice a4 n4 c4) ∧ w'.cell? ⟨g + 1, 5, none⟩ = some (.slice b4 m4 d4) ∧ w'.cell? ⟨g + 1 + 1, 0, none⟩ = some (.bool s5) ∧ w'.cell? ⟨g + 1 + 1, 1, none⟩ = some (.slice a5 n5 c5) ∧ w'.cell? ⟨g + 1 + 1, 2, none⟩ = some (.slice b5 m5 d5) ∧ w'.cell? ⟨g + 1 + 1, 3, none⟩ = some (.bool s6) ∧ w'.cell? ⟨g + 1 + 1, 4, none⟩ = some (.slice a6 n6 c6) ∧ w'.cell? ⟨g + 1 + 1, 5, none⟩ = some (.slice b6 m6 d6)) (go_keep) (first | (go_at_call_of 110 a3; refine (hf1 _ (by first | exact Below.refl _ _ | exact below_drewN (Below.refl _ _) _)).mono ?_; rintro e wX ⟨t1, e1, x1, f1, y1, v1, g1, t2, e2, x2, f2, y2, v2, g2, rfl, R1, R2, Z1, Z2, _, hbX⟩; obtain ⟨i00, i01, i02, i03, i04, i05, i10, i11, i12, i13, i14, i15, i20, i21, i22, i23, i24, i25⟩ := hcl wX hbX) | (go_at_call_of 110 a5; refine (hf2 _ hbX).mono ?_; rintro e wY ⟨t3, e3, x3, f3, y3, v3, g3, t4, e4, x4, f4, y4, v4, g4, rfl, R3, R4, Z3, Z4, hbY, hBY⟩; obtain ⟨i00, i01, i02, i03, i04, i05, i10, i11, i12, i13, i14, i15, i20, i21, i22, i23, i24, i25⟩ := hcl wY hBY) | (go_at_call 109; refine (cross22_any (R1.rt22.later hbY) (R2.rt22.later hbY) R3.rt22 R4.rt22 Z1 Z2 Z3 Z4 (by omega)).mono ?_; rintro e wZ ⟨s, a, n, c, b, m, d, rfl, hR, hz, hbZ⟩; have hB := hBY.trans (hbZ.mono hBY.size); obtain ⟨i00, i01, i02, i03, i04, i05, i10, i11, i12, i13, i14, i15, i20, i21, i22, i23, i24, i25⟩ := hcl wZ hB; have u9 := u4.later hB; obtain ⟨o0, o1, o2⟩ := u9.cells; obtain ⟨p0, p1, p2⟩ := u9.frozen))
  go_wp2
  have i9 := in3 wZ (g + 1 + 1 + 1) (.bool s) (.slice a n c) (.slice b m d)
  have T9 := (u9.set (.bool s) (.slice a n c) (.slice b m d)).cells
  have B3 := hb0.trans (hB.mono (by omega))
  have sY := hBY.size
  refine bodyPost_ret (v := .agg #[.bool s, .slice a n c, .slice b m d]) (by simp [results, Tryz.results76, go_sem, T9]) rfl ?_
  refine ⟨s, a, n, c, b, m, d, rfl, ?_, hz.mono (by omega), ?_⟩
  · rw [HG.out]
    exact (hR.inn i9 (by omega)).lower (by omega)
  · rw [HG.out]
    exact below_in B3 i9 (by omega) (by rw [HG.out]; exact Nat.le_refl _)
set_option maxHeartbeats 6400000 in
set_option maxRecDepth 100000 in
theorem turn22_any (h1 : Rt w s1 a1 n1 c1 b1 m1 d1 q1) (h2 : Rt w s2 a2 n2 c2 b2 m2 d2 q2) (h3 : Rt w s3 a3 n3 c3 b3 m3 d3 q3) (h4 : Rt w s4 a4 n4 c4 b4 m4 d4 q4) (h5 : Rt w s5 a5 n5 c5 b5 m5 d5 q5) (h6 : Rt w s6 a6 n6 c6 b6 m6 d6 q6) (z1 : Sz q1 k) (z2 : Sz q2 k) (z3 : Sz q3 k) (z4 : Sz q4 k) (z5 : Sz q5 k) (z6 : Sz q6 k) (hk : k ≤ 60) :
    Calls Tryz.prog 39 #[.agg #[.bool s1, .slice a1 n1 c1, .slice b1 m1 d1, .bool s2, .slice a2 n2 c2, .slice b2 m2 d2], .agg #[.bool s3, .slice a3 n3 c3, .slice b3 m3 d3, .bool s4, .slice a4 n4 c4, .slice b4 m4 d4], .agg #[.bool s5, .slice a5 n5 c5, .slice b5 m5 d5, .bool s6, .slice a6 n6 c6, .slice b6 m6 d6]] w fun e w' => e = .returned (.int .i64 (sgnR (crR q1 q2 q3 q4 q5 q6))) ∧ Below w.heap.size w w' := by
  obtain ⟨w0, hw0⟩ : ∃ w0, w0 = ((w.alloc (.cells #[.bool s1, .slice a1 n1 c1, .slice b1 m1 d1, .bool s2, .slice a2 n2 c2, .slice b2 m2 d2] 90)).alloc (.cells #[.bool s3, .slice a3 n3 c3, .slice b3 m3 d3, .bool s4, .slice a4 n4 c4, .slice b4 m4 d4] 90)).alloc (.cells #[.bool s5, .slice a5 n5 c5, .slice b5 m5 d5, .bool s6, .slice a6 n6 c6, .slice b6 m6 d6] 90) := ⟨_, rfl⟩
  obtain ⟨_, _, _, hb0, _⟩ : Pb w0 w.heap.size 90 #[.bool s1, .slice a1 n1 c1, .slice b1 m1 d1, .bool s2, .slice a2 n2 c2, .slice b2 m2 d2] ∧ Pb w0 (w.heap.size + 1) 90 #[.bool s3, .slice a3 n3 c3, .slice b3 m3 d3, .bool s4, .slice a4 n4 c4, .slice b4 m4 d4] ∧ Pb w0 (w.heap.size + 1 + 1) 90 #[.bool s5, .slice a5 n5 c5, .slice b5 m5 d5, .bool s6, .slice a6 n6 c6, .slice b6 m6 d6] ∧ Below w.heap.size w w0 ∧ w0.heap.size = w.heap.size + 1 + 1 + 1 := by
    subst hw0
    exact pb_three _ _ _ _ _
  have ha := area22_any (h1.later hb0) (h2.later hb0) (h3.later hb0) (h4.later hb0) (h5.later hb0) (h6.later hb0) z1 z2 z3 z4 z5 z6 hk
  generalize crR q1 q2 q3 q4 q5 q6 = Q at *
  clear h1 h2 h3 h4 h5 h6 z1 z2 z3 z4 z5 z6
  go_enter Tryz.func39, Tryz.ntmps39
  go_wp2_with fail
  rw [← hw0]
  refine ha.mono ?_
  rintro e wA ⟨s, a, n, c, b, m, d, rfl, hR, hz, hbA⟩
  have hB := hb0.trans (hbA.mono hb0.size)
  clear ha hw0
  go_wp2_with fail
  refine (rSign_any hR.rt22 (by have := hR.rt22.le hz; omega) rfl).mono ?_
  rintro e wB ⟨rfl, hbB⟩
  go_wp2
  go_ret
  exact ⟨rfl, hB.trans (hbB.mono hB.size)⟩
end
end Go.Proofs.YtienpliknhkbjaaGreatDoor

/- package pred: order, spotsOf. -/
namespace Go.Proofs.YtienpliknhkbjaaGreatDoor
open Go.ChangeShapes Go.WideShapes Go.ChangeAt Go.RowKit
open Na Ar
set_option linter.unusedVariables false
/-- by x, then y -/
def ordS (ax ay bx by' : Rat) : Int := if ordR ax bx = 0 then ordR ay by' else ordR ax bx
section
variable {w : World} {s1 s2 s3 s4 : Bool} {a1 b1 a2 b2 a3 b3 a4 b4 : Option Addr} {n1 c1 m1 d1 n2 c2 m2 d2 n3 c3 m3 d3 n4 c4 m4 d4 : Nat} {p q r t : Rat} {k : Nat}
set_option maxHeartbeats 6400000 in
set_option maxRecDepth 100000 in
theorem order22_any (h1 : Rt w s1 a1 n1 c1 b1 m1 d1 p) (h2 : Rt w s2 a2 n2 c2 b2 m2 d2 q) (h3 : Rt w s3 a3 n3 c3 b3 m3 d3 r) (h4 : Rt w s4 a4 n4 c4 b4 m4 d4 t) (z1 : Sz p k) (z2 : Sz q k) (z3 : Sz r k) (z4 : Sz t k) (hk : k ≤ 600) :
    Calls Tryz.prog 40 #[.agg #[.bool s1, .slice a1 n1 c1, .slice b1 m1 d1, .bool s2, .slice a2 n2 c2, .slice b2 m2 d2], .agg #[.bool s3, .slice a3 n3 c3, .slice b3 m3 d3, .bool s4, .slice a4 n4 c4, .slice b4 m4 d4]] w fun e w' => e = .returned (.int .i64 (ordS p q r t)) ∧ Below w.heap.size w w' := by
  obtain ⟨w0, hw0⟩ : ∃ w0, w0 = (w.alloc (.cells #[.bool s1, .slice a1 n1 c1, .slice b1 m1 d1, .bool s2, .slice a2 n2 c2, .slice b2 m2 d2] 90)).alloc (.cells #[.bool s3, .slice a3 n3 c3, .slice b3 m3 d3, .bool s4, .slice a4 n4 c4, .slice b4 m4 d4] 90) := ⟨_, rfl⟩
  obtain ⟨u1, u2, hb0⟩ : Pb w0 w.heap.size 90 #[.bool s1, .slice a1 n1 c1, .slice b1 m1 d1, .bool s2, .slice a2 n2 c2, .slice b2 m2 d2] ∧ Pb w0 (w.heap.size + 1) 90 #[.bool s3, .slice a3 n3 c3, .slice b3 m3 d3, .bool s4, .slice a4 n4 c4, .slice b4 m4 d4] ∧ Below w.heap.size w w0 := by
    subst hw0
    exact pb_two' _ _ _ _ _
  have c1 := rCmp_ok (h1.later hb0) (h3.later hb0) z1 z3 (by omega) rfl
  have r2 := h2.later hb0
  have r4 := h4.later hb0
  clear h1 h2 h3 h4
  by_cases h0 : ordR p r = 0
  · have HE : Hid (ordR q t = ordS p q r t) := by show _ = _; unfold ordS; rw [if_pos h0]
    rw [h0] at c1
    clear h0
    go_enter Tryz.func40, Tryz.ntmps40
    go_wp2_with fail
    rw [← hw0]
    refine c1.mono ?_
    rintro e wA ⟨rfl, hbA⟩
    have hB := hb0.trans (hbA.mono hb0.size)
    obtain ⟨⟨i0, i1, i2, i3, i4, i5⟩, _⟩ := (u1.later hbA).six
    obtain ⟨⟨j0, j1, j2, j3, j4, j5⟩, _⟩ := (u2.later hbA).six
    have cc := rCmp_ok (r2.later hbA) (r4.later hbA) z2 z4 (by omega) HE.out
    clear c1 hw0
    go_wp2_with fail
    refine cc.mono ?_
    rintro e wB ⟨rfl, hbB⟩
    go_wp2
    go_ret
    exact ⟨rfl, hB.trans (hbB.mono hB.size)⟩
  · have HE : Hid (ordR p r = ordS p q r t) := by show _ = _; unfold ordS; rw [if_neg h0]
    have ht : (ordR p r == 0) = false := beq_no h0
    rw [HE.out] at c1 ht
    clear h0
    go_enter Tryz.func40, Tryz.ntmps40
    go_wp2_with fail
    rw [← hw0]
    refine c1.mono ?_
    rintro e wA ⟨rfl, hbA⟩
    have hB := hb0.trans (hbA.mono hb0.size)
    clear c1 hw0
    go_wp2
    go_ret
    exact ⟨rfl, hB⟩
end
theorem order22_at {w w0 : World} {s1 s2 s3 s4 : Bool} {a1 b1 a2 b2 a3 b3 a4 b4 : Option Addr} {n1 c1 m1 d1 n2 c2 m2 d2 n3 c3 m3 d3 n4 c4 m4 d4 : Nat} {p q r t : Rat} {k : Nat} (h1 : Rt w0 s1 a1 n1 c1 b1 m1 d1 p) (h2 : Rt w0 s2 a2 n2 c2 b2 m2 d2 q) (h3 : Rt w0 s3 a3 n3 c3 b3 m3 d3 r) (h4 : Rt w0 s4 a4 n4 c4 b4 m4 d4 t) (z1 : Sz p k) (z2 : Sz q k) (z3 : Sz r k) (z4 : Sz t k) (hk : k ≤ 600) (h : Below w0.heap.size w0 w) :
    Calls Tryz.prog 40 #[.agg #[.bool s1, .slice a1 n1 c1, .slice b1 m1 d1, .bool s2, .slice a2 n2 c2, .slice b2 m2 d2], .agg #[.bool s3, .slice a3 n3 c3, .slice b3 m3 d3, .bool s4, .slice a4 n4 c4, .slice b4 m4 d4]] w fun e w' => e = .returned (.int .i64 (ordS p q r t)) ∧ Below w0.heap.size w0 w' := by
  refine (order22_any (h1.later h) (h2.later h) (h3.later h) (h4.later h) z1 z2 z3 z4 hk).mono ?_
  rintro e w' ⟨rfl, hb⟩
  exact ⟨rfl, h.trans (hb.mono h.size)⟩
theorem turn22_at {w w0 : World} {s1 s2 s3 s4 s5 s6 : Bool} {a1 b1 a2 b2 a3 b3 a4 b4 a5 b5 a6 b6 : Option Addr} {n1 c1 m1 d1 n2 c2 m2 d2 n3 c3 m3 d3 n4 c4 m4 d4 n5 c5 m5 d5 n6 c6 m6 d6 : Nat} {q1 q2 q3 q4 q5 q6 : Rat} {k : Nat} (h1 : Rt w0 s1 a1 n1 c1 b1 m1 d1 q1) (h2 : Rt w0 s2 a2 n2 c2 b2 m2 d2 q2) (h3 : Rt w0 s3 a3 n3 c3 b3 m3 d3 q3) (h4 : Rt w0 s4 a4 n4 c4 b4 m4 d4 q4) (h5 : Rt w0 s5 a5 n5 c5 b5 m5 d5 q5) (h6 : Rt w0 s6 a6 n6 c6 b6 m6 d6 q6) (z1 : Sz q1 k) (z2 : Sz q2 k) (z3 : Sz q3 k) (z4 : Sz q4 k) (z5 : Sz q5 k) (z6 : Sz q6 k) (hk : k ≤ 60) (h : Below w0.heap.size w0 w) :
    Calls Tryz.prog 39 #[.agg #[.bool s1, .slice a1 n1 c1, .slice b1 m1 d1, .bool s2, .slice a2 n2 c2, .slice b2 m2 d2], .agg #[.bool s3, .slice a3 n3 c3, .slice b3 m3 d3, .bool s4, .slice a4 n4 c4, .slice b4 m4 d4], .agg #[.bool s5, .slice a5 n5 c5, .slice b5 m5 d5, .bool s6, .slice a6 n6 c6, .slice b6 m6 d6]] w fun e w' => e = .returned (.int .i64 (sgnR (crR q1 q2 q3 q4 q5 q6))) ∧ Below w0.heap.size w0 w' := by
  refine (turn22_any (h1.later h) (h2.later h) (h3.later h) (h4.later h) (h5.later h) (h6.later h) z1 z2 z3 z4 z5 z6 hk).mono ?_
  rintro e w' ⟨rfl, hb⟩
  exact ⟨rfl, h.trans (hb.mono h.size)⟩
theorem order22_any' {w0 : World} {s1 s2 s3 s4 : Bool} {a1 b1 a2 b2 a3 b3 a4 b4 : Option Addr} {n1 c1 m1 d1 n2 c2 m2 d2 n3 c3 m3 d3 n4 c4 m4 d4 : Nat} {p q r t : Rat} {k : Nat} (h1 : Rt w0 s1 a1 n1 c1 b1 m1 d1 p) (h2 : Rt w0 s2 a2 n2 c2 b2 m2 d2 q) (h3 : Rt w0 s3 a3 n3 c3 b3 m3 d3 r) (h4 : Rt w0 s4 a4 n4 c4 b4 m4 d4 t) (z1 : Sz p k) (z2 : Sz q k) (z3 : Sz r k) (z4 : Sz t k) (hk : k ≤ 600) : ∀ w, Below w0.heap.size w0 w →
    Calls Tryz.prog 40 #[.agg #[.bool s1, .slice a1 n1 c1, .slice b1 m1 d1, .bool s2, .slice a2 n2 c2, .slice b2 m2 d2], .agg #[.bool s3, .slice a3 n3 c3, .slice b3 m3 d3, .bool s4, .slice a4 n4 c4, .slice b4 m4 d4]] w fun e w' => e = .returned (.int .i64 (ordS p q r t)) ∧ Below w0.heap.size w0 w' := fun w h => order22_at h1 h2 h3 h4 z1 z2 z3 z4 hk h
theorem turn22_any' {w0 : World} {s1 s2 s3 s4 s5 s6 : Bool} {a1 b1 a2 b2 a3 b3 a4 b4 a5 b5 a6 b6 : Option Addr} {n1 c1 m1 d1 n2 c2 m2 d2 n3 c3 m3 d3 n4 c4 m4 d4 n5 c5 m5 d5 n6 c6 m6 d6 : Nat} {q1 q2 q3 q4 q5 q6 : Rat} {k : Nat} (h1 : Rt w0 s1 a1 n1 c1 b1 m1 d1 q1) (h2 : Rt w0 s2 a2 n2 c2 b2 m2 d2 q2) (h3 : Rt w0 s3 a3 n3 c3 b3 m3 d3 q3) (h4 : Rt w0 s4 a4 n4 c4 b4 m4 d4 q4) (h5 : Rt w0 s5 a5 n5 c5 b5 m5 d5 q5) (h6 : Rt w0 s6 a6 n6 c6 b6 m6 d6 q6) (z1 : Sz q1 k) (z2 : Sz q2 k) (z3 : Sz q3 k) (z4 : Sz q4 k) (z5 : Sz q5 k) (z6 : Sz q6 k) (hk : k ≤ 60) : ∀ w, Below w0.heap.size w0 w →
    Calls Tryz.prog 39 #[.agg #[.bool s1, .slice a1 n1 c1, .slice b1 m1 d1, .bool s2, .slice a2 n2 c2, .slice b2 m2 d2], .agg #[.bool s3, .slice a3 n3 c3, .slice b3 m3 d3, .bool s4, .slice a4 n4 c4, .slice b4 m4 d4], .agg #[.bool s5, .slice a5 n5 c5, .slice b5 m5 d5, .bool s6, .slice a6 n6 c6, .slice b6 m6 d6]] w fun e w' => e = .returned (.int .i64 (sgnR (crR q1 q2 q3 q4 q5 q6))) ∧ Below w0.heap.size w0 w' := fun w h => turn22_at h1 h2 h3 h4 h5 h6 z1 z2 z3 z4 z5 z6 hk h
/-- a list of points in memory: the patterns of the point number i -/
def PtAt (w : World) (g o : Nat) (P : Nat → Int × Int) (n : Nat) : Prop := ∀ i, i < n → w.cell? ⟨g, o + i * 2, none⟩ = some (.int .u64 (P i).1) ∧ w.cell? ⟨g, o + i * 2 + 1, none⟩ = some (.int .u64 (P i).2) ∧ U (P i).1 ∧ U (P i).2
/-- the Rat number t of a block of Rats -/
def RaAt (w : World) (base : Nat) (cs : Array Value) (t : Nat) (q : Rat) : Prop := ∃ s a n c b m d, cs[t * 3]? = some (.bool s) ∧ cs[t * 3 + 1]? = some (.slice a n c) ∧ cs[t * 3 + 2]? = some (.slice b m d) ∧ RtO w base s (.slice a n c) (.slice b m d) q
/-- the number of the pattern number t of a list of points -/
def numT (P : Nat → Int × Int) (t : Nat) : Int := if t % 2 = 0 then (P (t / 2)).1 else (P (t / 2)).2
theorem info_spot22 : (Tryz.prog.info? 90).map (fun i => (i.zero, i.size, i.bytes)) = some (some (.agg #[.bool false, .slice none 0 0, .slice none 0 0, .bool false, .slice none 0 0, .slice none 0 0]), 6, 112) := by kernel_rfl
theorem under_spot22 : Tryz.prog.underlying 85 = some (.slice 90) := by kernel_rfl
theorem make22 (w : World) (n : Nat) (hn : n ≤ 1000000) : ∃ cs, cs.size = n * 6 ∧ (Instr.makeSlice 85 (.int .i64 (n : Int)) (.int .i64 (n : Int))).run Tryz.prog w = .ok (.slice (some ⟨w.heap.size, 0, none⟩) n n) (w.alloc (.cells cs 90)) := by
  cases hi : Tryz.prog.info? 90 with
  | none => have h := info_spot22; rw [hi] at h; cases h
  | some i =>
    have h := info_spot22
    rw [hi] at h
    simp only [Option.map_some, Option.some.injEq, Prod.mk.injEq] at h
    obtain ⟨h1, h2, h3⟩ := h
    have hr := run_make (P := Tryz.prog) w 85 90 i _ under_spot22 hi h1 .i64 .i64 (n : Int) (n : Int) (by omega) (by omega) (by rw [h3]; omega) (by omega)
    refine ⟨_, ?_, by simpa using hr⟩
    rw [size_madeCells, h2]
theorem index22_0 (x y : Int) (w : World) : (Instr.index 125 (.agg #[.int .u64 x, .int .u64 y]) (.int .i64 0)).run Tryz.prog w = .ok (.int .u64 x) w := by kernel_rfl
theorem index22_1 (x y : Int) (w : World) : (Instr.index 125 (.agg #[.int .u64 x, .int .u64 y]) (.int .i64 1)).run Tryz.prog w = .ok (.int .u64 y) w := by kernel_rfl
theorem raAt_later {w w' : World} {base : Nat} {cs : Array Value} {t : Nat} {q : Rat} (h : RaAt w base cs t q) (hb : Below w.heap.size w w') : RaAt w' base cs t q := by
  obtain ⟨s, a, n, c, b, m, d, e1, e2, e3, r⟩ := h
  exact ⟨s, a, n, c, b, m, d, e1, e2, e3, r.later hb⟩
theorem three_at {w : World} {g : Nat} {t : TypeId} {cs : Array Value} (h : Pb w g t cs) (i : Nat) (hi : i + 2 < cs.size) : (∃ v, w.cell? ⟨g, i, none⟩ = some v) ∧ (∃ v, w.cell? ⟨g, i + 1, none⟩ = some v) ∧ (∃ v, w.cell? ⟨g, i + 2, none⟩ = some v) :=
  ⟨⟨cs[i], h.cell i (by simp [show i < cs.size by omega])⟩, ⟨cs[i + 1], h.cell (i + 1) (by simp [show i + 1 < cs.size by omega])⟩, ⟨cs[i + 2], h.cell (i + 2) (by simp [show i + 2 < cs.size by omega])⟩⟩
theorem three_free {w : World} {g : Nat} {t : TypeId} {cs : Array Value} (h : Pb w g t cs) (i : Nat) : w.frozen? ⟨g, i, none⟩ = false ∧ w.frozen? ⟨g, i + 1, none⟩ = false ∧ w.frozen? ⟨g, i + 2, none⟩ = false := ⟨h.frozen _, h.frozen _, h.frozen _⟩
theorem ra_set {w : World} {o k T base : Nat} {ty : TypeId} {cs : Array Value} {s : Bool} {a b : Option Addr} {n c m d : Nat} {q : Rat} (h : Pb w o ty cs) (hk : k = T * 3) (hT : k + 2 < cs.size) (hR : RtO w base s (.slice a n c) (.slice b m d) q) (hb : o < base) :
    ∃ cs', cs'.size = cs.size ∧ Pb ((((w.setCell ⟨o, k, none⟩ (.bool s)).setCell ⟨o, k + 1, none⟩ (.slice a n c)).setCell ⟨o, k + 2, none⟩ (.slice b m d)).drew) o ty cs' ∧ RaAt ((((w.setCell ⟨o, k, none⟩ (.bool s)).setCell ⟨o, k + 1, none⟩ (.slice a n c)).setCell ⟨o, k + 2, none⟩ (.slice b m d)).drew) base cs' T q ∧ (∀ t p, t ≠ T → RaAt w base cs t p → RaAt ((((w.setCell ⟨o, k, none⟩ (.bool s)).setCell ⟨o, k + 1, none⟩ (.slice a n c)).setCell ⟨o, k + 2, none⟩ (.slice b m d)).drew) base cs' t p) ∧ In o (o + 1) w ((((w.setCell ⟨o, k, none⟩ (.bool s)).setCell ⟨o, k + 1, none⟩ (.slice a n c)).setCell ⟨o, k + 2, none⟩ (.slice b m d)).drew) := by
  have hi : In o (o + 1) w ((((w.setCell ⟨o, k, none⟩ (.bool s)).setCell ⟨o, k + 1, none⟩ (.slice a n c)).setCell ⟨o, k + 2, none⟩ (.slice b m d)).drew) := ((((In.refl o (o + 1) w).set1 k _).set1 (k + 1) _).set1 (k + 2) _).trans (in_drew o _)
  refine ⟨((cs.setIfInBounds k (.bool s)).setIfInBounds (k + 1) (.slice a n c)).setIfInBounds (k + 2) (.slice b m d), by simp, ((h.set k _).set (k + 1) _).set (k + 2) _, ?_, ?_, hi⟩
  · subst hk
    refine ⟨s, a, n, c, b, m, d, ?_, ?_, ?_, hR.inn hi hb⟩
    · simp [show T * 3 < cs.size by omega]
    · simp [show T * 3 + 1 < cs.size by omega]
    · simp [show T * 3 + 2 < cs.size by omega]
  · rintro t p ht ⟨s', a', n', c', b', m', d', e1, e2, e3, r⟩
    subst hk
    refine ⟨s', a', n', c', b', m', d', ?_, ?_, ?_, r.inn hi hb⟩
    · rw [Array.getElem?_setIfInBounds_ne (by omega), Array.getElem?_setIfInBounds_ne (by omega), Array.getElem?_setIfInBounds_ne (by omega)]; exact e1
    · rw [Array.getElem?_setIfInBounds_ne (by omega), Array.getElem?_setIfInBounds_ne (by omega), Array.getElem?_setIfInBounds_ne (by omega)]; exact e2
    · rw [Array.getElem?_setIfInBounds_ne (by omega), Array.getElem?_setIfInBounds_ne (by omega), Array.getElem?_setIfInBounds_ne (by omega)]; exact e3
/-- what spotsOf answers -/
def SpQ (w : World) (n : Nat) (P : Nat → Int × Int) (e : Ending) (w' : World) : Prop :=
  ((∀ t, t < 2 * n → ef (numT P t) ≠ 2047) ∧ ∃ o cs, e = .returned (.tuple #[.slice (some ⟨o, 0, none⟩) n n, .int .i64 0]) ∧ Pb w' o 90 cs ∧ w.heap.size ≤ o ∧ cs.size = n * 6 ∧ (∀ t, t < 2 * n → RaAt w' (o + 1) cs t (valR (numT P t))) ∧ Below w.heap.size w w') ∨
  ((∃ t, t < 2 * n ∧ ef (numT P t) = 2047) ∧ e = .returned (.tuple #[.slice none 0 0, .int .i64 220]) ∧ Below w.heap.size w w')
set_option maxHeartbeats 6400000 in
set_option maxRecDepth 100000 in
theorem spots22_any {w : World} {g n c : Nat} {P : Nat → Int × Int} (hP : PtAt w g 0 P n) (hg : g < w.heap.size) (hn : n ≤ 1000000) :
    Calls Tryz.prog 38 #[.slice (some ⟨g, 0, none⟩) n c] w fun e w' => SpQ w n P e w' := by
  obtain ⟨cs0, hcs0, hmk⟩ := make22 w n hn
  have hb0 := alloc_below (w := w) (.cells cs0 90)
  have p0 := Pb.new w 90 cs0
  obtain ⟨o, ho⟩ : ∃ o, o = w.heap.size := ⟨_, rfl⟩
  have HO : Hid (w.heap.size = o) := ho.symm
  rw [← ho] at hmk p0
  clear ho
  go_enter Tryz.func38, Tryz.ntmps38
  go_wp2
  clear hmk
  generalize w.alloc (.cells cs0 90) = w0 at *
  go_loopw [16] (fun i wr => ∃ (j : Nat) (cs : Array Value), j ≤ n ∧ i = .int .i64 j ∧ Pb wr o 90 cs ∧ cs.size = n * 6 ∧ (∀ t, t < 2 * j → ef (numT P t) ≠ 2047 ∧ RaAt wr (o + 1) cs t (valR (numT P t))) ∧ Below w.heap.size w wr) (fun i _ => n - (intOf i).toNat)
  case atStart => exact ⟨0, cs0, Nat.zero_le _, rfl, p0, hcs0, fun t ht => absurd ht (by omega), hb0⟩
  case round =>
    obtain ⟨j, cs, hj, rfl, hPb, hcs, hT, hB⟩ := hrel
    clear p0 hb0
    by_cases hlt : j < n
    · have i1 : (j : Int) < (n : Int) := by omega
      have hi0 : (0 : Int) ≤ (j : Int) := by omega
      obtain ⟨x0, x1, ux, uy⟩ := hP j hlt
      simp only [Nat.zero_add] at x0 x1
      have X0 := (hB.cell (p := ⟨g, j * 2, none⟩) hg).trans x0
      have X1 := (hB.cell (p := ⟨g, j * 2 + 1, none⟩) hg).trans x1
      have eX : numT P (2 * j) = (P j).1 := by unfold numT; rw [if_pos (by omega)]; congr 2; omega
      have eY : numT P (2 * j + 1) = (P j).2 := by unfold numT; rw [if_neg (by omega)]; congr 2; omega
      have HX : Hid (numT P (2 * j) = (P j).1) := eX
      have HY : Hid (numT P (2 * j + 1) = (P j).2) := eY
      clear eX eY x0 x1
      generalize (P j).1 = x at *
      generalize (P j).2 = y at *
      have al := alloc_below (w := wr) (.cells #[.int .u64 x, .int .u64 y] 24)
      have szr : (wr.alloc (.cells #[.int .u64 x, .int .u64 y] 24)).heap.size = wr.heap.size + 1 := by simp
      have ob := hPb.lt
      have oH := HO.out
      have wo : w.heap.size ≤ o := by rw [oH]; exact Nat.le_refl _
      clear oH
      have hBs := hB.size
      have P1 := hPb.later al
      have T1 := fun t ht => raAt_later (hT t ht).2 al
      have B1 := hB.trans (al.mono hBs)
      go_wp2
      generalize wr.alloc (.cells #[.int .u64 x, .int .u64 y] 24) = w1 at *
      clear X0 X1
      have ix0 := index22_0 x y
      have ix1 := index22_1 x y
      refine wp_loop_rounds 3 ?_
      rw [rounds_succ]
      by_cases fx : ef x = 2047
      · go_wp2_with fail
        refine (nearValue_inf ux fx w1).mono ?_
        rintro e wX ⟨rfl, hbX⟩
        have B2 := B1.trans (hbX.mono (by omega))
        have al2 := alloc_below (w := wX) (.cells #[.bool false, .slice none 0 0, .slice none 0 0] 45)
        have B3 := B2.trans (al2.mono B2.size)
        go_wp2
        go_ret2
        exact Or.inr ⟨⟨2 * j, by omega, by rw [HX.out]; exact fx⟩, rfl, B3⟩
      · have Fx : Hid (ef x ≠ 2047) := fx
        go_wp2_with fail
        refine (nearValue_fin ux fx w1).mono ?_
        rintro e wX ⟨s, v1, v2, rfl, hR, hbX⟩
        obtain ⟨a, k, d, b, m, q, rfl, rfl, _⟩ := hR.opens
        have B2 := B1.trans (hbX.mono (by omega))
        have al2 := alloc_below (w := wX) (.cells #[.bool s, .slice a k d, .slice b m q] 45)
        have B3 := B2.trans (al2.mono B2.size)
        have P2 := (P1.later hbX).later al2
        have T2 := fun t ht => raAt_later (raAt_later (T1 t ht) hbX) al2
        have R2 := hR.later al2
        have sX := hbX.size
        have szX : (wX.alloc (.cells #[.bool s, .slice a k d, .slice b m q] 45)).heap.size = wX.heap.size + 1 := by simp
        obtain ⟨⟨c0, k0⟩, ⟨c1, k1⟩, ⟨c2, k2⟩⟩ := three_at P2 (j * 6) (by omega)
        obtain ⟨f0, f1, f2⟩ := three_free P2 (j * 6)
        obtain ⟨n0, n1, n2⟩ := pb_tri (Pb.new wX 45 #[.bool s, .slice a k d, .slice b m q])
        have nw1 : ¬ o = wX.heap.size := by omega
        have nw2 : ¬ wX.heap.size = o := by omega
        have hj0 : (0 : Int) ≤ (j : Int) := by omega
        clear al2 B2
        go_wp2
        generalize wX.alloc (.cells #[.bool s, .slice a k d, .slice b m q] 45) = w2 at *
        go_region
        obtain ⟨cs1, hcs1, P3, RA, RO, I3⟩ := ra_set (k := j * 6) (T := 2 * j) P2 (by omega) (by omega) (R2.lower (base' := o + 1) (by omega)) (by omega)
        rw [← HX.out] at RA
        have T3 : ∀ t, t < 2 * j + 1 → RaAt _ (o + 1) cs1 t (valR (numT P t)) := fun t ht => by
          by_cases e : t = 2 * j
          · subst e; exact RA
          · exact RO t _ e (T2 t (by omega))
        have B4 := below_in B3 I3 wo (Nat.le_refl _)
        have s4 := I3.size
        rw [hcs] at hcs1
        clear k0 k1 k2 f0 f1 f2 P2 T2 R2 RO RA I3 B3 n0 n1 n2
        generalize (((w2.setCell ⟨o, j * 6, none⟩ (.bool s)).setCell ⟨o, j * 6 + 1, none⟩ (.slice a k d)).setCell ⟨o, j * 6 + 2, none⟩ (.slice b m q)).drew = w4 at *
        go_wp2
        rw [rounds_succ]
        by_cases fy : ef y = 2047
        · go_wp2_with fail
          refine (nearValue_inf uy fy w4).mono ?_
          rintro e wY ⟨rfl, hbY⟩
          have B5 := B4.trans (hbY.mono (by omega))
          have al3 := alloc_below (w := wY) (.cells #[.bool false, .slice none 0 0, .slice none 0 0] 45)
          have B6 := B5.trans (al3.mono B5.size)
          go_wp2
          go_ret2
          exact Or.inr ⟨⟨2 * j + 1, by omega, by rw [HY.out]; exact fy⟩, rfl, B6⟩
        · have Fy : Hid (ef y ≠ 2047) := fy
          go_wp2_with fail
          refine (nearValue_fin uy fy w4).mono ?_
          rintro e wY ⟨s', v1, v2, rfl, hR', hbY⟩
          obtain ⟨a', k', d', b', m', q', rfl, rfl, _⟩ := hR'.opens
          have B5 := B4.trans (hbY.mono (by omega))
          have al3 := alloc_below (w := wY) (.cells #[.bool s', .slice a' k' d', .slice b' m' q'] 45)
          have B6 := B5.trans (al3.mono B5.size)
          have P5 := (P3.later hbY).later al3
          have T5 := fun t ht => raAt_later (raAt_later (T3 t ht) hbY) al3
          have R5 := hR'.later al3
          have sY := hbY.size
          have szY : (wY.alloc (.cells #[.bool s', .slice a' k' d', .slice b' m' q'] 45)).heap.size = wY.heap.size + 1 := by simp
          obtain ⟨⟨c0', k0⟩, ⟨c1', k1⟩, ⟨c2', k2⟩⟩ := three_at P5 (j * 6 + 3) (by omega)
          obtain ⟨f0, f1, f2⟩ := three_free P5 (j * 6 + 3)
          obtain ⟨n0, n1, n2⟩ := pb_tri (Pb.new wY 45 #[.bool s', .slice a' k' d', .slice b' m' q'])
          have nw1 : ¬ o = wY.heap.size := by omega
          have nw2 : ¬ wY.heap.size = o := by omega
          clear al3 B5 P3 T3
          go_wp2
          generalize wY.alloc (.cells #[.bool s', .slice a' k' d', .slice b' m' q'] 45) = w5 at *
          go_region
          obtain ⟨cs2, hcs2, P6, RA, RO, I6⟩ := ra_set (k := j * 6 + 3) (T := 2 * j + 1) P5 (by omega) (by omega) (R5.lower (base' := o + 1) (by omega)) (by omega)
          rw [← HY.out] at RA
          have T6 : ∀ t, t < 2 * (j + 1) → ef (numT P t) ≠ 2047 ∧ RaAt _ (o + 1) cs2 t (valR (numT P t)) := fun t ht => by
            by_cases e : t = 2 * j + 1
            · subst e; exact ⟨by rw [HY.out]; exact Fy.out, RA⟩
            · refine ⟨?_, RO t _ e (T5 t (by omega))⟩
              by_cases e' : t = 2 * j
              · subst e'; rw [HX.out]; exact Fx.out
              · exact (hT t (by omega)).1
          have B7 := below_in B6 I6 wo (Nat.le_refl _)
          rw [hcs1] at hcs2
          clear k0 k1 k2 f0 f1 f2 P5 T5 R5 RO RA I6 B6 n0 n1 n2
          generalize (((w5.setCell ⟨o, j * 6 + 3, none⟩ (.bool s')).setCell ⟨o, j * 6 + 3 + 1, none⟩ (.slice a' k' d')).setCell ⟨o, j * 6 + 3 + 2, none⟩ (.slice b' m' q')).drew = w7 at *
          go_wp2
          rw [rounds_succ]
          go_wp2
          go_roundw
          case rel => exact ⟨j + 1, cs2, hlt, by go_num, P6, hcs2, T6, B7⟩
          case measure => simp [intOf]; omega
    · have i1 : ¬ (j : Int) < (n : Int) := by omega
      have hjn : j = n := by omega
      subst hjn
      have ob := HO.out
      go_wp2
      go_ret2
      exact Or.inl ⟨fun t ht => (hT t ht).1, o, cs, rfl, hPb, by rw [ob]; exact Nat.le_refl _, hcs, fun t ht => (hT t ht).2, hB⟩
end Go.Proofs.YtienpliknhkbjaaGreatDoor

/- package pred: Order, Orient, Area2, Nearer, Between (written by genpdf.py). -/
namespace Go.Proofs.YtienpliknhkbjaaGreatDoor
open Go.ChangeShapes Go.WideShapes Go.ChangeAt Go.RowKit
open Na Ar
set_option linter.unusedVariables false
/-- both patterns are words; they are numbers' -/
def U2 (p : Int × Int) : Prop := U p.1 ∧ U p.2
def fin2 (p : Int × Int) : Prop := ef p.1 ≠ 2047 ∧ ef p.2 ≠ 2047
theorem fin_iff {P : Nat → Int × Int} {n : Nat} : (∀ t, t < 2 * n → ef (numT P t) ≠ 2047) ↔ ∀ i, i < n → fin2 (P i) := by
  constructor
  · intro h i hi
    have h1 := h (2 * i) (by omega)
    have h2 := h (2 * i + 1) (by omega)
    unfold numT at h1 h2
    rw [if_pos (by omega), show 2 * i / 2 = i by omega] at h1
    rw [if_neg (by omega), show (2 * i + 1) / 2 = i by omega] at h2
    exact ⟨h1, h2⟩
  · intro h t ht
    unfold numT
    split
    · exact (h _ (by omega)).1
    · exact (h _ (by omega)).2
/-- a Rat at its place in a block, opened -/
def S1At (w : World) (o k k' k'' : Nat) (q : Rat) : Prop := ∃ s a n c b m d, (w.cell? ⟨o, k, none⟩ = some (.bool s) ∧ w.cell? ⟨o, k', none⟩ = some (.slice a n c) ∧ w.cell? ⟨o, k'', none⟩ = some (.slice b m d)) ∧ Rt w s a n c b m d q
theorem s1At {w : World} {o base : Nat} {ty : TypeId} {cs : Array Value} {t k k' k'' : Nat} {q : Rat} (hp : Pb w o ty cs) (h : RaAt w base cs t q) (e : k = t * 3) (e' : k' = t * 3 + 1) (e'' : k'' = t * 3 + 2) : S1At w o k k' k'' q := by
  obtain ⟨s, a, n, c, b, m, d, e1, e2, e3, r⟩ := h
  subst e e' e''
  exact ⟨s, a, n, c, b, m, d, ⟨hp.cell _ e1, hp.cell _ e2, hp.cell _ e3⟩, r.rt22⟩
theorem pts2_below (w : World) (A B : Int × Int) : Below w.heap.size w ((w.alloc (.cells #[.int .u64 A.1, .int .u64 A.2] 24)).alloc (.cells #[.int .u64 B.1, .int .u64 B.2] 24)) := by
  have b0 := alloc_below (w := w) (.cells #[.int .u64 A.1, .int .u64 A.2] 24)
  have b1 := alloc_below (w := (w.alloc (.cells #[.int .u64 A.1, .int .u64 A.2] 24))) (.cells #[.int .u64 B.1, .int .u64 B.2] 24)
  have c1 := b0.trans (b1.mono b0.size)
  exact c1
theorem ptAt2 (w : World) (t : TypeId) {a b : Int × Int} (ua : U2 a) (ub : U2 b) : PtAt (w.alloc (.cells #[.int .u64 a.1, .int .u64 a.2, .int .u64 b.1, .int .u64 b.2] t)) w.heap.size 0 (fun i => [a, b].getD i (0, 0)) 2 := by
  have h := Pb.new w t #[.int .u64 a.1, .int .u64 a.2, .int .u64 b.1, .int .u64 b.2]
  intro i hi
  rcases (show i = 0 ∨ i = 1 by omega) with rfl | rfl
  · exact ⟨h.cell 0 rfl, h.cell 1 rfl, ua.1, ua.2⟩
  · exact ⟨h.cell 2 rfl, h.cell 3 rfl, ub.1, ub.2⟩
theorem fin2_of {a b : Int × Int} (fa : fin2 a) (fb : fin2 b) : ∀ i, i < 2 → fin2 ([a, b].getD i (0, 0)) := by
  intro i hi
  rcases (show i = 0 ∨ i = 1 by omega) with rfl | rfl
  · exact fa
  · exact fb
theorem open2 {w w' : World} {e : Ending} {a b : Int × Int} (ua : U2 a) (fa : fin2 a) (ub : U2 b) (fb : fin2 b) (h : SpQ w 2 (fun i => [a, b].getD i (0, 0)) e w') : ∃ o, e = .returned (.tuple #[.slice (some ⟨o, 0, none⟩) 2 2, .int .i64 0]) ∧ o < w'.heap.size ∧ w.heap.size ≤ o ∧ S1At w' o 0 1 2 (valR a.1) ∧ S1At w' o 3 4 5 (valR a.2) ∧ S1At w' o 6 7 8 (valR b.1) ∧ S1At w' o 9 10 11 (valR b.2) ∧ Below w.heap.size w w' := by
  rcases h with ⟨_, o, cs, e0, hPb, ho, hsz, hT, hb⟩ | ⟨⟨t, ht, h⟩, _⟩
  · exact ⟨o, e0, hPb.lt, ho, s1At hPb (hT 0 (by omega)) rfl rfl rfl, s1At hPb (hT 1 (by omega)) rfl rfl rfl, s1At hPb (hT 2 (by omega)) rfl rfl rfl, s1At hPb (hT 3 (by omega)) rfl rfl rfl, hb⟩
  · exact absurd h (fin_iff.mpr (fin2_of fa fb) t ht)
theorem pts3_below (w : World) (A B C : Int × Int) : Below w.heap.size w (((w.alloc (.cells #[.int .u64 A.1, .int .u64 A.2] 24)).alloc (.cells #[.int .u64 B.1, .int .u64 B.2] 24)).alloc (.cells #[.int .u64 C.1, .int .u64 C.2] 24)) := by
  have b0 := alloc_below (w := w) (.cells #[.int .u64 A.1, .int .u64 A.2] 24)
  have b1 := alloc_below (w := (w.alloc (.cells #[.int .u64 A.1, .int .u64 A.2] 24))) (.cells #[.int .u64 B.1, .int .u64 B.2] 24)
  have c1 := b0.trans (b1.mono b0.size)
  have b2 := alloc_below (w := ((w.alloc (.cells #[.int .u64 A.1, .int .u64 A.2] 24)).alloc (.cells #[.int .u64 B.1, .int .u64 B.2] 24))) (.cells #[.int .u64 C.1, .int .u64 C.2] 24)
  have c2 := c1.trans (b2.mono c1.size)
  exact c2
theorem ptAt3 (w : World) (t : TypeId) {a b c : Int × Int} (ua : U2 a) (ub : U2 b) (uc : U2 c) : PtAt (w.alloc (.cells #[.int .u64 a.1, .int .u64 a.2, .int .u64 b.1, .int .u64 b.2, .int .u64 c.1, .int .u64 c.2] t)) w.heap.size 0 (fun i => [a, b, c].getD i (0, 0)) 3 := by
  have h := Pb.new w t #[.int .u64 a.1, .int .u64 a.2, .int .u64 b.1, .int .u64 b.2, .int .u64 c.1, .int .u64 c.2]
  intro i hi
  rcases (show i = 0 ∨ i = 1 ∨ i = 2 by omega) with rfl | rfl | rfl
  · exact ⟨h.cell 0 rfl, h.cell 1 rfl, ua.1, ua.2⟩
  · exact ⟨h.cell 2 rfl, h.cell 3 rfl, ub.1, ub.2⟩
  · exact ⟨h.cell 4 rfl, h.cell 5 rfl, uc.1, uc.2⟩
theorem fin3_of {a b c : Int × Int} (fa : fin2 a) (fb : fin2 b) (fc : fin2 c) : ∀ i, i < 3 → fin2 ([a, b, c].getD i (0, 0)) := by
  intro i hi
  rcases (show i = 0 ∨ i = 1 ∨ i = 2 by omega) with rfl | rfl | rfl
  · exact fa
  · exact fb
  · exact fc
theorem open3 {w w' : World} {e : Ending} {a b c : Int × Int} (ua : U2 a) (fa : fin2 a) (ub : U2 b) (fb : fin2 b) (uc : U2 c) (fc : fin2 c) (h : SpQ w 3 (fun i => [a, b, c].getD i (0, 0)) e w') : ∃ o, e = .returned (.tuple #[.slice (some ⟨o, 0, none⟩) 3 3, .int .i64 0]) ∧ o < w'.heap.size ∧ w.heap.size ≤ o ∧ S1At w' o 0 1 2 (valR a.1) ∧ S1At w' o 3 4 5 (valR a.2) ∧ S1At w' o 6 7 8 (valR b.1) ∧ S1At w' o 9 10 11 (valR b.2) ∧ S1At w' o 12 13 14 (valR c.1) ∧ S1At w' o 15 16 17 (valR c.2) ∧ Below w.heap.size w w' := by
  rcases h with ⟨_, o, cs, e0, hPb, ho, hsz, hT, hb⟩ | ⟨⟨t, ht, h⟩, _⟩
  · exact ⟨o, e0, hPb.lt, ho, s1At hPb (hT 0 (by omega)) rfl rfl rfl, s1At hPb (hT 1 (by omega)) rfl rfl rfl, s1At hPb (hT 2 (by omega)) rfl rfl rfl, s1At hPb (hT 3 (by omega)) rfl rfl rfl, s1At hPb (hT 4 (by omega)) rfl rfl rfl, s1At hPb (hT 5 (by omega)) rfl rfl rfl, hb⟩
  · exact absurd h (fin_iff.mpr (fin3_of fa fb fc) t ht)
theorem ptAt4 (w : World) (t : TypeId) {a b c d : Int × Int} (ua : U2 a) (ub : U2 b) (uc : U2 c) (ud : U2 d) : PtAt (w.alloc (.cells #[.int .u64 a.1, .int .u64 a.2, .int .u64 b.1, .int .u64 b.2, .int .u64 c.1, .int .u64 c.2, .int .u64 d.1, .int .u64 d.2] t)) w.heap.size 0 (fun i => [a, b, c, d].getD i (0, 0)) 4 := by
  have h := Pb.new w t #[.int .u64 a.1, .int .u64 a.2, .int .u64 b.1, .int .u64 b.2, .int .u64 c.1, .int .u64 c.2, .int .u64 d.1, .int .u64 d.2]
  intro i hi
  rcases (show i = 0 ∨ i = 1 ∨ i = 2 ∨ i = 3 by omega) with rfl | rfl | rfl | rfl
  · exact ⟨h.cell 0 rfl, h.cell 1 rfl, ua.1, ua.2⟩
  · exact ⟨h.cell 2 rfl, h.cell 3 rfl, ub.1, ub.2⟩
  · exact ⟨h.cell 4 rfl, h.cell 5 rfl, uc.1, uc.2⟩
  · exact ⟨h.cell 6 rfl, h.cell 7 rfl, ud.1, ud.2⟩
theorem fin4_of {a b c d : Int × Int} (fa : fin2 a) (fb : fin2 b) (fc : fin2 c) (fd : fin2 d) : ∀ i, i < 4 → fin2 ([a, b, c, d].getD i (0, 0)) := by
  intro i hi
  rcases (show i = 0 ∨ i = 1 ∨ i = 2 ∨ i = 3 by omega) with rfl | rfl | rfl | rfl
  · exact fa
  · exact fb
  · exact fc
  · exact fd
set_option maxHeartbeats 6400000 in
set_option maxRecDepth 100000 in
theorem Order22_fin {w : World} {a b : Int × Int} (ua : U2 a) (ub : U2 b) (fa : fin2 a) (fb : fin2 b) :
    Calls Tryz.prog 16 #[.agg #[.int .u64 a.1, .int .u64 a.2], .agg #[.int .u64 b.1, .int .u64 b.2]] w fun e w' => e = .returned (.tuple #[.int .i64 (ordS (valR a.1) (valR a.2) (valR b.1) (valR b.2)), .int .i64 0]) ∧ Below w.heap.size w w' := by
  obtain ⟨w0, hw0⟩ : ∃ w0, w0 = (w.alloc (.cells #[.int .u64 a.1, .int .u64 a.2] 24)).alloc (.cells #[.int .u64 b.1, .int .u64 b.2] 24) := ⟨_, rfl⟩
  have hb0 : Below w.heap.size w w0 := by
    subst hw0
    exact pts2_below _ _ _
  have al := alloc_below (w := w0) (.cells #[.int .u64 a.1, .int .u64 a.2, .int .u64 b.1, .int .u64 b.2] 24)
  have hPt := ptAt2 w0 24 ua ub
  have e0 : w0.heap.size = w.heap.size + 1 + 1 := by subst hw0; simp
  rw [e0] at hPt
  have hsp := spots22_any (c := 2) hPt (by rw [← e0]; simp) (by omega)
  have hB1 := hb0.trans (al.mono hb0.size)
  have z0 := value_size ua.1 fa.1
  have z1 := value_size ua.2 fa.2
  have z2 := value_size ub.1 fb.1
  have z3 := value_size ub.2 fb.2
  replace hsp := hsp.mono (fun e w' h => open2 ua fa ub fb h)
  clear hPt al hb0 e0 ua fa ub fb
  generalize valR a.1 = v0 at *
  generalize valR a.2 = v1 at *
  generalize valR b.1 = v2 at *
  generalize valR b.2 = v3 at *
  go_enter Tryz.func16, Tryz.ntmps16
  go_wp2_with fail
  rw [← hw0]
  generalize w0.alloc (.cells #[.int .u64 a.1, .int .u64 a.2, .int .u64 b.1, .int .u64 b.2] 24) = w1 at *
  refine hsp.mono ?_
  rintro e wA ⟨o, rfl, lo, go, A0, A1, A2, A3, hbA⟩
  have B2 := hB1.trans (hbA.mono hB1.size)
  clear hsp hw0 go
  obtain ⟨s0, a0, n0, c0, b0, m0, d0, ⟨y00, y01, y02⟩, R0⟩ := A0
  obtain ⟨s1, a1, n1, c1, b1, m1, d1, ⟨y10, y11, y12⟩, R1⟩ := A1
  obtain ⟨s2, a2, n2, c2, b2, m2, d2, ⟨y20, y21, y22⟩, R2⟩ := A2
  obtain ⟨s3, a3, n3, c3, b3, m3, d3, ⟨y30, y31, y32⟩, R3⟩ := A3
  go_wp2
  have hcl : ∀ w', Below wA.heap.size wA w' → w'.cell? ⟨o, 0, none⟩ = some (.bool s0) ∧ w'.cell? ⟨o, 1, none⟩ = some (.slice a0 n0 c0) ∧ w'.cell? ⟨o, 2, none⟩ = some (.slice b0 m0 d0) ∧ w'.cell? ⟨o, 3, none⟩ = some (.bool s1) ∧ w'.cell? ⟨o, 4, none⟩ = some (.slice a1 n1 c1) ∧ w'.cell? ⟨o, 5, none⟩ = some (.slice b1 m1 d1) ∧ w'.cell? ⟨o, 6, none⟩ = some (.bool s2) ∧ w'.cell? ⟨o, 7, none⟩ = some (.slice a2 n2 c2) ∧ w'.cell? ⟨o, 8, none⟩ = some (.slice b2 m2 d2) ∧ w'.cell? ⟨o, 9, none⟩ = some (.bool s3) ∧ w'.cell? ⟨o, 10, none⟩ = some (.slice a3 n3 c3) ∧ w'.cell? ⟨o, 11, none⟩ = some (.slice b3 m3 d3) := fun w' h => ⟨(h.cell (p := ⟨o, 0, none⟩) lo).trans y00, (h.cell (p := ⟨o, 1, none⟩) lo).trans y01, (h.cell (p := ⟨o, 2, none⟩) lo).trans y02, (h.cell (p := ⟨o, 3, none⟩) lo).trans y10, (h.cell (p := ⟨o, 4, none⟩) lo).trans y11, (h.cell (p := ⟨o, 5, none⟩) lo).trans y12, (h.cell (p := ⟨o, 6, none⟩) lo).trans y20, (h.cell (p := ⟨o, 7, none⟩) lo).trans y21, (h.cell (p := ⟨o, 8, none⟩) lo).trans y22, (h.cell (p := ⟨o, 9, none⟩) lo).trans y30, (h.cell (p := ⟨o, 10, none⟩) lo).trans y31, (h.cell (p := ⟨o, 11, none⟩) lo).trans y32⟩
  go_region_held3 (fun w' => w'.cell? ⟨o, 0, none⟩ = some (.bool s0) ∧ w'.cell? ⟨o, 1, none⟩ = some (.slice a0 n0 c0) ∧ w'.cell? ⟨o, 2, none⟩ = some (.slice b0 m0 d0) ∧ w'.cell? ⟨o, 3, none⟩ = some (.bool s1) ∧ w'.cell? ⟨o, 4, none⟩ = some (.slice a1 n1 c1) ∧ w'.cell? ⟨o, 5, none⟩ = some (.slice b1 m1 d1) ∧ w'.cell? ⟨o, 6, none⟩ = some (.bool s2) ∧ w'.cell? ⟨o, 7, none⟩ = some (.slice a2 n2 c2) ∧ w'.cell? ⟨o, 8, none⟩ = some (.slice b2 m2 d2) ∧ w'.cell? ⟨o, 9, none⟩ = some (.bool s3) ∧ w'.cell? ⟨o, 10, none⟩ = some (.slice a3 n3 c3) ∧ w'.cell? ⟨o, 11, none⟩ = some (.slice b3 m3 d3)) (go_keep) ((go_at_call 40; refine (order22_at R0 R1 R2 R3 z0 z1 z2 z3 (by omega) (by first | exact Below.refl _ _ | exact below_drewN (Below.refl _ _) _)).mono ?_; rintro e wX ⟨rfl, hbX⟩; obtain ⟨y00, y01, y02, y10, y11, y12, y20, y21, y22, y30, y31, y32⟩ := hcl wX hbX))
  go_wp2
  go_ret2
  exact ⟨rfl, B2.trans (hbX.mono B2.size)⟩
set_option maxHeartbeats 6400000 in
set_option maxRecDepth 100000 in
theorem Orient22_fin {w : World} {a b c : Int × Int} (ua : U2 a) (ub : U2 b) (uc : U2 c) (fa : fin2 a) (fb : fin2 b) (fc : fin2 c) :
    Calls Tryz.prog 11 #[.agg #[.int .u64 a.1, .int .u64 a.2], .agg #[.int .u64 b.1, .int .u64 b.2], .agg #[.int .u64 c.1, .int .u64 c.2]] w fun e w' => e = .returned (.tuple #[.int .i64 (sgnR (crR (valR a.1) (valR a.2) (valR b.1) (valR b.2) (valR c.1) (valR c.2))), .int .i64 0]) ∧ Below w.heap.size w w' := by
  obtain ⟨w0, hw0⟩ : ∃ w0, w0 = ((w.alloc (.cells #[.int .u64 a.1, .int .u64 a.2] 24)).alloc (.cells #[.int .u64 b.1, .int .u64 b.2] 24)).alloc (.cells #[.int .u64 c.1, .int .u64 c.2] 24) := ⟨_, rfl⟩
  have hb0 : Below w.heap.size w w0 := by
    subst hw0
    exact pts3_below _ _ _ _
  have al := alloc_below (w := w0) (.cells #[.int .u64 a.1, .int .u64 a.2, .int .u64 b.1, .int .u64 b.2, .int .u64 c.1, .int .u64 c.2] 24)
  have hPt := ptAt3 w0 24 ua ub uc
  have e0 : w0.heap.size = w.heap.size + 1 + 1 + 1 := by subst hw0; simp
  rw [e0] at hPt
  have hsp := spots22_any (c := 3) hPt (by rw [← e0]; simp) (by omega)
  have hB1 := hb0.trans (al.mono hb0.size)
  have z0 := value_size ua.1 fa.1
  have z1 := value_size ua.2 fa.2
  have z2 := value_size ub.1 fb.1
  have z3 := value_size ub.2 fb.2
  have z4 := value_size uc.1 fc.1
  have z5 := value_size uc.2 fc.2
  replace hsp := hsp.mono (fun e w' h => open3 ua fa ub fb uc fc h)
  clear hPt al hb0 e0 ua fa ub fb uc fc
  generalize valR a.1 = v0 at *
  generalize valR a.2 = v1 at *
  generalize valR b.1 = v2 at *
  generalize valR b.2 = v3 at *
  generalize valR c.1 = v4 at *
  generalize valR c.2 = v5 at *
  go_enter Tryz.func11, Tryz.ntmps11
  go_wp2_with fail
  rw [← hw0]
  generalize w0.alloc (.cells #[.int .u64 a.1, .int .u64 a.2, .int .u64 b.1, .int .u64 b.2, .int .u64 c.1, .int .u64 c.2] 24) = w1 at *
  refine hsp.mono ?_
  rintro e wA ⟨o, rfl, lo, go, A0, A1, A2, A3, A4, A5, hbA⟩
  have B2 := hB1.trans (hbA.mono hB1.size)
  clear hsp hw0 go
  obtain ⟨s0, a0, n0, c0, b0, m0, d0, ⟨y00, y01, y02⟩, R0⟩ := A0
  obtain ⟨s1, a1, n1, c1, b1, m1, d1, ⟨y10, y11, y12⟩, R1⟩ := A1
  obtain ⟨s2, a2, n2, c2, b2, m2, d2, ⟨y20, y21, y22⟩, R2⟩ := A2
  obtain ⟨s3, a3, n3, c3, b3, m3, d3, ⟨y30, y31, y32⟩, R3⟩ := A3
  obtain ⟨s4, a4, n4, c4, b4, m4, d4, ⟨y40, y41, y42⟩, R4⟩ := A4
  obtain ⟨s5, a5, n5, c5, b5, m5, d5, ⟨y50, y51, y52⟩, R5⟩ := A5
  go_wp2
  have hcl : ∀ w', Below wA.heap.size wA w' → w'.cell? ⟨o, 0, none⟩ = some (.bool s0) ∧ w'.cell? ⟨o, 1, none⟩ = some (.slice a0 n0 c0) ∧ w'.cell? ⟨o, 2, none⟩ = some (.slice b0 m0 d0) ∧ w'.cell? ⟨o, 3, none⟩ = some (.bool s1) ∧ w'.cell? ⟨o, 4, none⟩ = some (.slice a1 n1 c1) ∧ w'.cell? ⟨o, 5, none⟩ = some (.slice b1 m1 d1) ∧ w'.cell? ⟨o, 6, none⟩ = some (.bool s2) ∧ w'.cell? ⟨o, 7, none⟩ = some (.slice a2 n2 c2) ∧ w'.cell? ⟨o, 8, none⟩ = some (.slice b2 m2 d2) ∧ w'.cell? ⟨o, 9, none⟩ = some (.bool s3) ∧ w'.cell? ⟨o, 10, none⟩ = some (.slice a3 n3 c3) ∧ w'.cell? ⟨o, 11, none⟩ = some (.slice b3 m3 d3) ∧ w'.cell? ⟨o, 12, none⟩ = some (.bool s4) ∧ w'.cell? ⟨o, 13, none⟩ = some (.slice a4 n4 c4) ∧ w'.cell? ⟨o, 14, none⟩ = some (.slice b4 m4 d4) ∧ w'.cell? ⟨o, 15, none⟩ = some (.bool s5) ∧ w'.cell? ⟨o, 16, none⟩ = some (.slice a5 n5 c5) ∧ w'.cell? ⟨o, 17, none⟩ = some (.slice b5 m5 d5) := fun w' h => ⟨(h.cell (p := ⟨o, 0, none⟩) lo).trans y00, (h.cell (p := ⟨o, 1, none⟩) lo).trans y01, (h.cell (p := ⟨o, 2, none⟩) lo).trans y02, (h.cell (p := ⟨o, 3, none⟩) lo).trans y10, (h.cell (p := ⟨o, 4, none⟩) lo).trans y11, (h.cell (p := ⟨o, 5, none⟩) lo).trans y12, (h.cell (p := ⟨o, 6, none⟩) lo).trans y20, (h.cell (p := ⟨o, 7, none⟩) lo).trans y21, (h.cell (p := ⟨o, 8, none⟩) lo).trans y22, (h.cell (p := ⟨o, 9, none⟩) lo).trans y30, (h.cell (p := ⟨o, 10, none⟩) lo).trans y31, (h.cell (p := ⟨o, 11, none⟩) lo).trans y32, (h.cell (p := ⟨o, 12, none⟩) lo).trans y40, (h.cell (p := ⟨o, 13, none⟩) lo).trans y41, (h.cell (p := ⟨o, 14, none⟩) lo).trans y42, (h.cell (p := ⟨o, 15, none⟩) lo).trans y50, (h.cell (p := ⟨o, 16, none⟩) lo).trans y51, (h.cell (p := ⟨o, 17, none⟩) lo).trans y52⟩
  go_region_held3 (fun w' => w'.cell? ⟨o, 0, none⟩ = some (.bool s0) ∧ w'.cell? ⟨o, 1, none⟩ = some (.slice a0 n0 c0) ∧ w'.cell? ⟨o, 2, none⟩ = some (.slice b0 m0 d0) ∧ w'.cell? ⟨o, 3, none⟩ = some (.bool s1) ∧ w'.cell? ⟨o, 4, none⟩ = some (.slice a1 n1 c1) ∧ w'.cell? ⟨o, 5, none⟩ = some (.slice b1 m1 d1) ∧ w'.cell? ⟨o, 6, none⟩ = some (.bool s2) ∧ w'.cell? ⟨o, 7, none⟩ = some (.slice a2 n2 c2) ∧ w'.cell? ⟨o, 8, none⟩ = some (.slice b2 m2 d2) ∧ w'.cell? ⟨o, 9, none⟩ = some (.bool s3) ∧ w'.cell? ⟨o, 10, none⟩ = some (.slice a3 n3 c3) ∧ w'.cell? ⟨o, 11, none⟩ = some (.slice b3 m3 d3) ∧ w'.cell? ⟨o, 12, none⟩ = some (.bool s4) ∧ w'.cell? ⟨o, 13, none⟩ = some (.slice a4 n4 c4) ∧ w'.cell? ⟨o, 14, none⟩ = some (.slice b4 m4 d4) ∧ w'.cell? ⟨o, 15, none⟩ = some (.bool s5) ∧ w'.cell? ⟨o, 16, none⟩ = some (.slice a5 n5 c5) ∧ w'.cell? ⟨o, 17, none⟩ = some (.slice b5 m5 d5)) (go_keep) ((go_at_call 39; refine (turn22_at R0 R1 R2 R3 R4 R5 z0 z1 z2 z3 z4 z5 (by omega) (by first | exact Below.refl _ _ | exact below_drewN (Below.refl _ _) _)).mono ?_; rintro e wX ⟨rfl, hbX⟩; obtain ⟨y00, y01, y02, y10, y11, y12, y20, y21, y22, y30, y31, y32, y40, y41, y42, y50, y51, y52⟩ := hcl wX hbX))
  go_wp2
  go_ret2
  exact ⟨rfl, B2.trans (hbX.mono B2.size)⟩
end Go.Proofs.YtienpliknhkbjaaGreatDoor

/- package pred: Nearer, Between, Area2 (written by genpdf.py). -/
namespace Go.Proofs.YtienpliknhkbjaaGreatDoor
open Go.ChangeShapes Go.WideShapes Go.ChangeAt Go.RowKit
open Na Ar
set_option linter.unusedVariables false
theorem ordS_in (a b c d : Rat) : -1 ≤ ordS a b c d ∧ ordS a b c d ≤ 1 := by
  unfold ordS ordR
  (repeat' split) <;> omega
theorem mul_in {a b : Int} (ha : -1 ≤ a ∧ a ≤ 1) (hb : -1 ≤ b ∧ b ≤ 1) : -1 ≤ a * b ∧ a * b ≤ 1 := by
  rcases (show a = -1 ∨ a = 0 ∨ a = 1 by omega) with rfl | rfl | rfl <;> omega
end Go.Proofs.YtienpliknhkbjaaGreatDoor

/- package pred: Between, Area2 (written by genpdf.py). -/
namespace Go.Proofs.YtienpliknhkbjaaGreatDoor
open Go.ChangeShapes Go.WideShapes Go.ChangeAt Go.RowKit
open Na Ar
set_option linter.unusedVariables false
set_option maxHeartbeats 6400000 in
set_option maxRecDepth 100000 in
theorem Between22_fin {w : World} {a b c : Int × Int} (ua : U2 a) (ub : U2 b) (uc : U2 c) (fa : fin2 a) (fb : fin2 b) (fc : fin2 c) :
    Calls Tryz.prog 14 #[.agg #[.int .u64 a.1, .int .u64 a.2], .agg #[.int .u64 b.1, .int .u64 b.2], .agg #[.int .u64 c.1, .int .u64 c.2]] w fun e w' => e = .returned (.tuple #[.bool (decide (0 ≤ ordS (valR a.1) (valR a.2) (valR c.1) (valR c.2) * ordS (valR c.1) (valR c.2) (valR b.1) (valR b.2)) && decide (sgnR (crR (valR a.1) (valR a.2) (valR b.1) (valR b.2) (valR c.1) (valR c.2)) = 0)), .int .i64 0]) ∧ Below w.heap.size w w' := by
  obtain ⟨w0, hw0⟩ : ∃ w0, w0 = ((w.alloc (.cells #[.int .u64 a.1, .int .u64 a.2] 24)).alloc (.cells #[.int .u64 b.1, .int .u64 b.2] 24)).alloc (.cells #[.int .u64 c.1, .int .u64 c.2] 24) := ⟨_, rfl⟩
  have hb0 : Below w.heap.size w w0 := by
    subst hw0
    exact pts3_below _ _ _ _
  have al := alloc_below (w := w0) (.cells #[.int .u64 a.1, .int .u64 a.2, .int .u64 b.1, .int .u64 b.2, .int .u64 c.1, .int .u64 c.2] 24)
  have hPt := ptAt3 w0 24 ua ub uc
  have e0 : w0.heap.size = w.heap.size + 1 + 1 + 1 := by subst hw0; simp
  rw [e0] at hPt
  have hsp := spots22_any (c := 3) hPt (by rw [← e0]; simp) (by omega)
  have hB1 := hb0.trans (al.mono hb0.size)
  have z0 := value_size ua.1 fa.1
  have z1 := value_size ua.2 fa.2
  have z2 := value_size ub.1 fb.1
  have z3 := value_size ub.2 fb.2
  have z4 := value_size uc.1 fc.1
  have z5 := value_size uc.2 fc.2
  replace hsp := hsp.mono (fun e w' h => open3 ua fa ub fb uc fc h)
  clear hPt al hb0 e0 ua fa ub fb uc fc
  generalize valR a.1 = v0 at *
  generalize valR a.2 = v1 at *
  generalize valR b.1 = v2 at *
  generalize valR b.2 = v3 at *
  generalize valR c.1 = v4 at *
  generalize valR c.2 = v5 at *
  obtain ⟨o1, ho1⟩ : ∃ o1, o1 = ordS v0 v1 v4 v5 := ⟨_, rfl⟩
  obtain ⟨o2, ho2⟩ : ∃ o2, o2 = ordS v4 v5 v2 v3 := ⟨_, rfl⟩
  obtain ⟨X, hX⟩ : ∃ X, X = crR v0 v1 v2 v3 v4 v5 := ⟨_, rfl⟩
  have b1 := ordS_in v0 v1 v4 v5
  have b2 := ordS_in v4 v5 v2 v3
  rw [← ho1, ← ho2, ← hX]
  rw [← ho1] at b1
  rw [← ho2] at b2
  have HO1 : Hid (o1 = ordS v0 v1 v4 v5) := ho1
  have HO2 : Hid (o2 = ordS v4 v5 v2 v3) := ho2
  have HX : Hid (X = crR v0 v1 v2 v3 v4 v5) := hX
  have bm := mul_in b1 b2
  obtain ⟨M, hM⟩ : ∃ M, M = o1 * o2 := ⟨_, rfl⟩
  have hwr : IntKind.i64.wrap (o1 * o2) = M := by rw [hM, IntKind.wrap_i64]; omega
  rw [← hM] at bm ⊢
  have HM : Hid (M = o1 * o2) := hM
  clear ho1 ho2 hX b1 b2 hM
  by_cases hM0 : 0 ≤ M
  · have tM : decide (0 ≤ M) = true := decide_eq_true hM0
    have HR : Hid ((decide (0 ≤ M) && decide (sgnR X = 0)) = (sgnR X == 0)) := by show _ = _; rw [tM, Bool.true_and]; rfl
    rw [HR.out]
    go_enter Tryz.func14, Tryz.ntmps14
    go_wp2_with fail
    rw [← hw0]
    generalize w0.alloc (.cells #[.int .u64 a.1, .int .u64 a.2, .int .u64 b.1, .int .u64 b.2, .int .u64 c.1, .int .u64 c.2] 24) = w1 at *
    refine hsp.mono ?_
    rintro e wA ⟨o, rfl, lo, go, A0, A1, A2, A3, A4, A5, hbA⟩
    have B2 := hB1.trans (hbA.mono hB1.size)
    clear hsp hw0 go
    obtain ⟨s0, a0, n0, c0, b0, m0, d0, ⟨y00, y01, y02⟩, R0⟩ := A0
    obtain ⟨s1, a1, n1, c1, b1, m1, d1, ⟨y10, y11, y12⟩, R1⟩ := A1
    obtain ⟨s2, a2, n2, c2, b2, m2, d2, ⟨y20, y21, y22⟩, R2⟩ := A2
    obtain ⟨s3, a3, n3, c3, b3, m3, d3, ⟨y30, y31, y32⟩, R3⟩ := A3
    obtain ⟨s4, a4, n4, c4, b4, m4, d4, ⟨y40, y41, y42⟩, R4⟩ := A4
    obtain ⟨s5, a5, n5, c5, b5, m5, d5, ⟨y50, y51, y52⟩, R5⟩ := A5
    have k1 := order22_any' (w0 := wA) R0 R1 R4 R5 z0 z1 z4 z5 (by omega)
    have k2 := order22_any' (w0 := wA) R4 R5 R2 R3 z4 z5 z2 z3 (by omega)
    have k3 := turn22_any' (w0 := wA) R0 R1 R2 R3 R4 R5 z0 z1 z2 z3 z4 z5 (by omega)
    rw [← HO1.out] at k1
    rw [← HO2.out] at k2
    rw [← HX.out] at k3
    clear R0 R1 R2 R3 R4 R5 z0 z1 z2 z3 z4 z5
    have hcl : ∀ w', Below wA.heap.size wA w' → w'.cell? ⟨o, 0, none⟩ = some (.bool s0) ∧ w'.cell? ⟨o, 1, none⟩ = some (.slice a0 n0 c0) ∧ w'.cell? ⟨o, 2, none⟩ = some (.slice b0 m0 d0) ∧ w'.cell? ⟨o, 3, none⟩ = some (.bool s1) ∧ w'.cell? ⟨o, 4, none⟩ = some (.slice a1 n1 c1) ∧ w'.cell? ⟨o, 5, none⟩ = some (.slice b1 m1 d1) ∧ w'.cell? ⟨o, 6, none⟩ = some (.bool s2) ∧ w'.cell? ⟨o, 7, none⟩ = some (.slice a2 n2 c2) ∧ w'.cell? ⟨o, 8, none⟩ = some (.slice b2 m2 d2) ∧ w'.cell? ⟨o, 9, none⟩ = some (.bool s3) ∧ w'.cell? ⟨o, 10, none⟩ = some (.slice a3 n3 c3) ∧ w'.cell? ⟨o, 11, none⟩ = some (.slice b3 m3 d3) ∧ w'.cell? ⟨o, 12, none⟩ = some (.bool s4) ∧ w'.cell? ⟨o, 13, none⟩ = some (.slice a4 n4 c4) ∧ w'.cell? ⟨o, 14, none⟩ = some (.slice b4 m4 d4) ∧ w'.cell? ⟨o, 15, none⟩ = some (.bool s5) ∧ w'.cell? ⟨o, 16, none⟩ = some (.slice a5 n5 c5) ∧ w'.cell? ⟨o, 17, none⟩ = some (.slice b5 m5 d5) := fun w' h => ⟨(h.cell (p := ⟨o, 0, none⟩) lo).trans y00, (h.cell (p := ⟨o, 1, none⟩) lo).trans y01, (h.cell (p := ⟨o, 2, none⟩) lo).trans y02, (h.cell (p := ⟨o, 3, none⟩) lo).trans y10, (h.cell (p := ⟨o, 4, none⟩) lo).trans y11, (h.cell (p := ⟨o, 5, none⟩) lo).trans y12, (h.cell (p := ⟨o, 6, none⟩) lo).trans y20, (h.cell (p := ⟨o, 7, none⟩) lo).trans y21, (h.cell (p := ⟨o, 8, none⟩) lo).trans y22, (h.cell (p := ⟨o, 9, none⟩) lo).trans y30, (h.cell (p := ⟨o, 10, none⟩) lo).trans y31, (h.cell (p := ⟨o, 11, none⟩) lo).trans y32, (h.cell (p := ⟨o, 12, none⟩) lo).trans y40, (h.cell (p := ⟨o, 13, none⟩) lo).trans y41, (h.cell (p := ⟨o, 14, none⟩) lo).trans y42, (h.cell (p := ⟨o, 15, none⟩) lo).trans y50, (h.cell (p := ⟨o, 16, none⟩) lo).trans y51, (h.cell (p := ⟨o, 17, none⟩) lo).trans y52⟩
    go_wp2
    go_region_held3 (fun w' => w'.cell? ⟨o, 0, none⟩ = some (.bool s0) ∧ w'.cell? ⟨o, 1, none⟩ = some (.slice a0 n0 c0) ∧ w'.cell? ⟨o, 2, none⟩ = some (.slice b0 m0 d0) ∧ w'.cell? ⟨o, 3, none⟩ = some (.bool s1) ∧ w'.cell? ⟨o, 4, none⟩ = some (.slice a1 n1 c1) ∧ w'.cell? ⟨o, 5, none⟩ = some (.slice b1 m1 d1) ∧ w'.cell? ⟨o, 6, none⟩ = some (.bool s2) ∧ w'.cell? ⟨o, 7, none⟩ = some (.slice a2 n2 c2) ∧ w'.cell? ⟨o, 8, none⟩ = some (.slice b2 m2 d2) ∧ w'.cell? ⟨o, 9, none⟩ = some (.bool s3) ∧ w'.cell? ⟨o, 10, none⟩ = some (.slice a3 n3 c3) ∧ w'.cell? ⟨o, 11, none⟩ = some (.slice b3 m3 d3) ∧ w'.cell? ⟨o, 12, none⟩ = some (.bool s4) ∧ w'.cell? ⟨o, 13, none⟩ = some (.slice a4 n4 c4) ∧ w'.cell? ⟨o, 14, none⟩ = some (.slice b4 m4 d4) ∧ w'.cell? ⟨o, 15, none⟩ = some (.bool s5) ∧ w'.cell? ⟨o, 16, none⟩ = some (.slice a5 n5 c5) ∧ w'.cell? ⟨o, 17, none⟩ = some (.slice b5 m5 d5)) (go_keep) ((first | (go_at_call_of 40 a0; refine (k1 _ (by first | exact Below.refl _ _ | exact below_drewN (Below.refl _ _) _)).mono ?_; rintro e wX ⟨rfl, hbX⟩; obtain ⟨y00, y01, y02, y10, y11, y12, y20, y21, y22, y30, y31, y32, y40, y41, y42, y50, y51, y52⟩ := hcl wX hbX) | (go_at_call_of 40 a2; refine (k2 _ hbX).mono ?_; rintro e wY ⟨rfl, hbY⟩; obtain ⟨y00, y01, y02, y10, y11, y12, y20, y21, y22, y30, y31, y32, y40, y41, y42, y50, y51, y52⟩ := hcl wY hbY)))
    go_wp2
    have hbY' := hbY
    go_region_held3 (fun w' => w'.cell? ⟨o, 0, none⟩ = some (.bool s0) ∧ w'.cell? ⟨o, 1, none⟩ = some (.slice a0 n0 c0) ∧ w'.cell? ⟨o, 2, none⟩ = some (.slice b0 m0 d0) ∧ w'.cell? ⟨o, 3, none⟩ = some (.bool s1) ∧ w'.cell? ⟨o, 4, none⟩ = some (.slice a1 n1 c1) ∧ w'.cell? ⟨o, 5, none⟩ = some (.slice b1 m1 d1) ∧ w'.cell? ⟨o, 6, none⟩ = some (.bool s2) ∧ w'.cell? ⟨o, 7, none⟩ = some (.slice a2 n2 c2) ∧ w'.cell? ⟨o, 8, none⟩ = some (.slice b2 m2 d2) ∧ w'.cell? ⟨o, 9, none⟩ = some (.bool s3) ∧ w'.cell? ⟨o, 10, none⟩ = some (.slice a3 n3 c3) ∧ w'.cell? ⟨o, 11, none⟩ = some (.slice b3 m3 d3) ∧ w'.cell? ⟨o, 12, none⟩ = some (.bool s4) ∧ w'.cell? ⟨o, 13, none⟩ = some (.slice a4 n4 c4) ∧ w'.cell? ⟨o, 14, none⟩ = some (.slice b4 m4 d4) ∧ w'.cell? ⟨o, 15, none⟩ = some (.bool s5) ∧ w'.cell? ⟨o, 16, none⟩ = some (.slice a5 n5 c5) ∧ w'.cell? ⟨o, 17, none⟩ = some (.slice b5 m5 d5)) (go_keep) (((go_at_call 39; refine (k3 _ (by first | exact hbY | exact below_drewN hbY _)).mono ?_; rintro e wZ ⟨rfl, hbZ⟩; obtain ⟨y00, y01, y02, y10, y11, y12, y20, y21, y22, y30, y31, y32, y40, y41, y42, y50, y51, y52⟩ := hcl wZ hbZ)))
    go_wp2
    go_ret2
    exact ⟨rfl, B2.trans (hbZ.mono B2.size)⟩
  · have tM : decide (0 ≤ M) = false := decide_eq_false hM0
    have HR : Hid ((decide (0 ≤ M) && decide (sgnR X = 0)) = false) := by show _ = _; rw [tM, Bool.false_and]
    rw [HR.out]
    go_enter Tryz.func14, Tryz.ntmps14
    go_wp2_with fail
    rw [← hw0]
    generalize w0.alloc (.cells #[.int .u64 a.1, .int .u64 a.2, .int .u64 b.1, .int .u64 b.2, .int .u64 c.1, .int .u64 c.2] 24) = w1 at *
    refine hsp.mono ?_
    rintro e wA ⟨o, rfl, lo, go, A0, A1, A2, A3, A4, A5, hbA⟩
    have B2 := hB1.trans (hbA.mono hB1.size)
    clear hsp hw0 go
    obtain ⟨s0, a0, n0, c0, b0, m0, d0, ⟨y00, y01, y02⟩, R0⟩ := A0
    obtain ⟨s1, a1, n1, c1, b1, m1, d1, ⟨y10, y11, y12⟩, R1⟩ := A1
    obtain ⟨s2, a2, n2, c2, b2, m2, d2, ⟨y20, y21, y22⟩, R2⟩ := A2
    obtain ⟨s3, a3, n3, c3, b3, m3, d3, ⟨y30, y31, y32⟩, R3⟩ := A3
    obtain ⟨s4, a4, n4, c4, b4, m4, d4, ⟨y40, y41, y42⟩, R4⟩ := A4
    obtain ⟨s5, a5, n5, c5, b5, m5, d5, ⟨y50, y51, y52⟩, R5⟩ := A5
    have k1 := order22_any' (w0 := wA) R0 R1 R4 R5 z0 z1 z4 z5 (by omega)
    have k2 := order22_any' (w0 := wA) R4 R5 R2 R3 z4 z5 z2 z3 (by omega)
    have k3 := turn22_any' (w0 := wA) R0 R1 R2 R3 R4 R5 z0 z1 z2 z3 z4 z5 (by omega)
    rw [← HO1.out] at k1
    rw [← HO2.out] at k2
    rw [← HX.out] at k3
    clear R0 R1 R2 R3 R4 R5 z0 z1 z2 z3 z4 z5
    have hcl : ∀ w', Below wA.heap.size wA w' → w'.cell? ⟨o, 0, none⟩ = some (.bool s0) ∧ w'.cell? ⟨o, 1, none⟩ = some (.slice a0 n0 c0) ∧ w'.cell? ⟨o, 2, none⟩ = some (.slice b0 m0 d0) ∧ w'.cell? ⟨o, 3, none⟩ = some (.bool s1) ∧ w'.cell? ⟨o, 4, none⟩ = some (.slice a1 n1 c1) ∧ w'.cell? ⟨o, 5, none⟩ = some (.slice b1 m1 d1) ∧ w'.cell? ⟨o, 6, none⟩ = some (.bool s2) ∧ w'.cell? ⟨o, 7, none⟩ = some (.slice a2 n2 c2) ∧ w'.cell? ⟨o, 8, none⟩ = some (.slice b2 m2 d2) ∧ w'.cell? ⟨o, 9, none⟩ = some (.bool s3) ∧ w'.cell? ⟨o, 10, none⟩ = some (.slice a3 n3 c3) ∧ w'.cell? ⟨o, 11, none⟩ = some (.slice b3 m3 d3) ∧ w'.cell? ⟨o, 12, none⟩ = some (.bool s4) ∧ w'.cell? ⟨o, 13, none⟩ = some (.slice a4 n4 c4) ∧ w'.cell? ⟨o, 14, none⟩ = some (.slice b4 m4 d4) ∧ w'.cell? ⟨o, 15, none⟩ = some (.bool s5) ∧ w'.cell? ⟨o, 16, none⟩ = some (.slice a5 n5 c5) ∧ w'.cell? ⟨o, 17, none⟩ = some (.slice b5 m5 d5) := fun w' h => ⟨(h.cell (p := ⟨o, 0, none⟩) lo).trans y00, (h.cell (p := ⟨o, 1, none⟩) lo).trans y01, (h.cell (p := ⟨o, 2, none⟩) lo).trans y02, (h.cell (p := ⟨o, 3, none⟩) lo).trans y10, (h.cell (p := ⟨o, 4, none⟩) lo).trans y11, (h.cell (p := ⟨o, 5, none⟩) lo).trans y12, (h.cell (p := ⟨o, 6, none⟩) lo).trans y20, (h.cell (p := ⟨o, 7, none⟩) lo).trans y21, (h.cell (p := ⟨o, 8, none⟩) lo).trans y22, (h.cell (p := ⟨o, 9, none⟩) lo).trans y30, (h.cell (p := ⟨o, 10, none⟩) lo).trans y31, (h.cell (p := ⟨o, 11, none⟩) lo).trans y32, (h.cell (p := ⟨o, 12, none⟩) lo).trans y40, (h.cell (p := ⟨o, 13, none⟩) lo).trans y41, (h.cell (p := ⟨o, 14, none⟩) lo).trans y42, (h.cell (p := ⟨o, 15, none⟩) lo).trans y50, (h.cell (p := ⟨o, 16, none⟩) lo).trans y51, (h.cell (p := ⟨o, 17, none⟩) lo).trans y52⟩
    go_wp2
    go_region_held3 (fun w' => w'.cell? ⟨o, 0, none⟩ = some (.bool s0) ∧ w'.cell? ⟨o, 1, none⟩ = some (.slice a0 n0 c0) ∧ w'.cell? ⟨o, 2, none⟩ = some (.slice b0 m0 d0) ∧ w'.cell? ⟨o, 3, none⟩ = some (.bool s1) ∧ w'.cell? ⟨o, 4, none⟩ = some (.slice a1 n1 c1) ∧ w'.cell? ⟨o, 5, none⟩ = some (.slice b1 m1 d1) ∧ w'.cell? ⟨o, 6, none⟩ = some (.bool s2) ∧ w'.cell? ⟨o, 7, none⟩ = some (.slice a2 n2 c2) ∧ w'.cell? ⟨o, 8, none⟩ = some (.slice b2 m2 d2) ∧ w'.cell? ⟨o, 9, none⟩ = some (.bool s3) ∧ w'.cell? ⟨o, 10, none⟩ = some (.slice a3 n3 c3) ∧ w'.cell? ⟨o, 11, none⟩ = some (.slice b3 m3 d3) ∧ w'.cell? ⟨o, 12, none⟩ = some (.bool s4) ∧ w'.cell? ⟨o, 13, none⟩ = some (.slice a4 n4 c4) ∧ w'.cell? ⟨o, 14, none⟩ = some (.slice b4 m4 d4) ∧ w'.cell? ⟨o, 15, none⟩ = some (.bool s5) ∧ w'.cell? ⟨o, 16, none⟩ = some (.slice a5 n5 c5) ∧ w'.cell? ⟨o, 17, none⟩ = some (.slice b5 m5 d5)) (go_keep) ((first | (go_at_call_of 40 a0; refine (k1 _ (by first | exact Below.refl _ _ | exact below_drewN (Below.refl _ _) _)).mono ?_; rintro e wX ⟨rfl, hbX⟩; obtain ⟨y00, y01, y02, y10, y11, y12, y20, y21, y22, y30, y31, y32, y40, y41, y42, y50, y51, y52⟩ := hcl wX hbX) | (go_at_call_of 40 a2; refine (k2 _ hbX).mono ?_; rintro e wY ⟨rfl, hbY⟩; obtain ⟨y00, y01, y02, y10, y11, y12, y20, y21, y22, y30, y31, y32, y40, y41, y42, y50, y51, y52⟩ := hcl wY hbY)))
    go_wp2
    go_quiet (fail)
    go_wp2
    go_ret2
    exact ⟨rfl, below_drewN (B2.trans (hbY.mono B2.size)) _⟩
end Go.Proofs.YtienpliknhkbjaaGreatDoor

/- plumblaw22: PredOrders (written by genpdl.py). -/
namespace Go.Proofs.YtienpliknhkbjaaGreatDoor
open Go.ChangeShapes Go.WideShapes Go.ChangeAt Go.RowKit
open Na Ar
set_option linter.unusedVariables false
structure HL (p : Prop) : Prop where
  mk ::
  out : p
theorem ordS_swap (a b c d : Rat) : ordS c d a b = - ordS a b c d := by
  unfold ordS
  rw [ordR_swap a c, ordR_swap b d]
  by_cases h : ordR a c = 0
  · rw [if_pos h, if_pos (by omega)]
  · rw [if_neg h, if_neg (by omega)]
theorem ordS_le {a b c d : Rat} : ordS a b c d ≤ 0 ↔ a < c ∨ (a = c ∧ b ≤ d) := by
  unfold ordS
  by_cases h : ordR a c = 0
  · have e := ordR_zero.mp h
    rw [if_pos h, ordR_le]
    constructor
    · exact fun x => Or.inr ⟨e, x⟩
    · rintro (x | ⟨_, x⟩)
      · have := ordR_neg.mpr x; omega
      · exact x
  · rw [if_neg h]
    constructor
    · intro x; exact Or.inl (ordR_neg.mp (by omega))
    · rintro (x | ⟨x, _⟩)
      · have := ordR_neg.mpr x; omega
      · exact absurd (ordR_zero.mpr x) h
theorem ordS_zero {a b c d : Rat} : ordS a b c d = 0 ↔ a = c ∧ b = d := by
  unfold ordS
  by_cases h : ordR a c = 0
  · rw [if_pos h, ordR_zero]; exact ⟨fun x => ⟨ordR_zero.mp h, x⟩, fun x => x.2⟩
  · rw [if_neg h]; exact ⟨fun x => absurd x h, fun x => absurd (ordR_zero.mpr x.1) h⟩
theorem ordS_trans {a b c d e f : Rat} (h1 : ordS a b c d ≤ 0) (h2 : ordS c d e f ≤ 0) : ordS a b e f ≤ 0 := by
  rw [ordS_le] at *
  grind
theorem sgnR_neg (q : Rat) : sgnR (-q) = - sgnR q := by
  unfold sgnR
  rw [Rat.neg_num]
  by_cases h : q.num = 0
  · rw [if_pos h, if_pos (by omega)]; rfl
  · by_cases h' : q.num < 0
    · rw [if_neg h, if_pos h', if_neg (by omega), if_neg (by omega)]; rfl
    · rw [if_neg h, if_neg h', if_neg (by omega), if_pos (by omega)]
theorem sgnR_in (q : Rat) : -1 ≤ sgnR q ∧ sgnR q ≤ 1 := by
  unfold sgnR
  (repeat' split) <;> omega
end Go.Proofs.YtienpliknhkbjaaGreatDoor

/- package pred: Area2 of finite points; what PredTurns asks of its numbers (written by genpdn.py). -/
namespace Go.Proofs.YtienpliknhkbjaaGreatDoor
open Go.ChangeShapes Go.WideShapes Go.ChangeAt Go.RowKit
open Na Ar
set_option linter.unusedVariables false
theorem crR_self (a b c d : Rat) : crR a b c d a b = 0 := by unfold crR; grind
theorem area22_at {w w0 : World} {s1 s2 s3 s4 s5 s6 : Bool} {a1 b1 a2 b2 a3 b3 a4 b4 a5 b5 a6 b6 : Option Addr} {n1 c1 m1 d1 n2 c2 m2 d2 n3 c3 m3 d3 n4 c4 m4 d4 n5 c5 m5 d5 n6 c6 m6 d6 : Nat} {q1 q2 q3 q4 q5 q6 : Rat} {k : Nat} (h1 : Rt w0 s1 a1 n1 c1 b1 m1 d1 q1) (h2 : Rt w0 s2 a2 n2 c2 b2 m2 d2 q2) (h3 : Rt w0 s3 a3 n3 c3 b3 m3 d3 q3) (h4 : Rt w0 s4 a4 n4 c4 b4 m4 d4 q4) (h5 : Rt w0 s5 a5 n5 c5 b5 m5 d5 q5) (h6 : Rt w0 s6 a6 n6 c6 b6 m6 d6 q6) (z1 : Sz q1 k) (z2 : Sz q2 k) (z3 : Sz q3 k) (z4 : Sz q4 k) (z5 : Sz q5 k) (z6 : Sz q6 k) (hk : k ≤ 60) (h : Below w0.heap.size w0 w) :
    Calls Tryz.prog 76 #[.agg #[.bool s1, .slice a1 n1 c1, .slice b1 m1 d1, .bool s2, .slice a2 n2 c2, .slice b2 m2 d2], .agg #[.bool s3, .slice a3 n3 c3, .slice b3 m3 d3, .bool s4, .slice a4 n4 c4, .slice b4 m4 d4], .agg #[.bool s5, .slice a5 n5 c5, .slice b5 m5 d5, .bool s6, .slice a6 n6 c6, .slice b6 m6 d6]] w fun e w' => ∃ s a n c b m d, e = .returned (.agg #[.bool s, .slice a n c, .slice b m d]) ∧ RtO w' w0.heap.size s (.slice a n c) (.slice b m d) (crR q1 q2 q3 q4 q5 q6) ∧ Sz (crR q1 q2 q3 q4 q5 q6) (8 * k + 5) ∧ w.heap.size ≤ w'.heap.size ∧ Below w0.heap.size w0 w' := by
  refine (area22_any (h1.later h) (h2.later h) (h3.later h) (h4.later h) (h5.later h) (h6.later h) z1 z2 z3 z4 z5 z6 hk).mono ?_
  rintro e w' ⟨s, a, n, c, b, m, d, rfl, hR, hz, hb⟩
  exact ⟨s, a, n, c, b, m, d, rfl, hR.lower h.size, hz, hb.size, h.trans (hb.mono h.size)⟩
end Go.Proofs.YtienpliknhkbjaaGreatDoor

/- package pred: ahead of InCircle: what blocks without integers leave as it is; a spot's value; the contracts as the region asks them. -/
namespace Go.Proofs.YtienpliknhkbjaaGreatDoor
open Go.ChangeShapes Go.WideShapes Go.ChangeAt Go.RowKit
open Na Ar
set_option linter.unusedVariables false
/-- a value that is a spot -/
def SpV (w : World) (v : Value) (p q : Rat) (k : Nat) : Prop := ∃ s a n c b m d s' a' n' c' b' m' d', v = .agg #[.bool s, .slice a n c, .slice b m d, .bool s', .slice a' n' c', .slice b' m' d'] ∧ Rt w s a n c b m d p ∧ Rt w s' a' n' c' b' m' d' q ∧ Sz p k ∧ Sz q k
theorem SpV.later {w w' : World} {v : Value} {p q : Rat} {k : Nat} (h : SpV w v p q k) (hb : Below w.heap.size w w') : SpV w' v p q k := by
  obtain ⟨s, a, n, c, b, m, d, s', a', n', c', b', m', d', e, r1, r2, z1, z2⟩ := h
  exact ⟨s, a, n, c, b, m, d, s', a', n', c', b', m', d', e, r1.later hb, r2.later hb, z1, z2⟩
def zero6s : Array Value := #[.bool false, .slice none 0 0, .slice none 0 0, .bool false, .slice none 0 0, .slice none 0 0]
end Go.Proofs.YtienpliknhkbjaaGreatDoor

/- package pred: InCircle (written by genpdj.py). -/
namespace Go.Proofs.YtienpliknhkbjaaGreatDoor
open Go.ChangeShapes Go.WideShapes Go.ChangeAt Go.RowKit
open Na Ar
set_option linter.unusedVariables false
/-- hidden from the walk -/
structure HH (p : Prop) : Prop where
  mk ::
  out : p
/-- the blocks made on the way: apart from one another -/
structure Al (B : Nat) (w : World) (l : List Nat) : Prop where
  pb : ∀ g, g ∈ l → Pb w g 90 zero6s ∧ B ≤ g
  nd : l.Nodup
theorem Al.later {B : Nat} {w w' : World} {l : List Nat} (h : Al B w l) (hb : Below w.heap.size w w') : Al B w' l := ⟨fun g hg => ⟨(h.pb g hg).1.later hb, (h.pb g hg).2⟩, h.nd⟩
theorem Al.nil (B : Nat) (w : World) : Al B w [] := ⟨fun _ h => (List.not_mem_nil h).elim, List.nodup_nil⟩
theorem Al.add {B : Nat} {w : World} (l1 l2 : List Nat) (h : Al B w (l1 ++ l2)) (hB : B ≤ w.heap.size) : Al B (w.alloc (.cells #[.bool false, .slice none 0 0, .slice none 0 0, .bool false, .slice none 0 0, .slice none 0 0] 90)) (l1 ++ w.heap.size :: l2) := by
  have hn : w.heap.size ∉ l1 ++ l2 := fun hm => Nat.lt_irrefl _ (h.pb _ hm).1.lt
  refine ⟨fun g hg => ?_, ?_⟩
  · rcases List.mem_append.mp hg with h1 | h1
    · exact ⟨(h.pb g (List.mem_append.mpr (Or.inl h1))).1.later (alloc_below _), (h.pb g (List.mem_append.mpr (Or.inl h1))).2⟩
    · rcases List.mem_cons.mp h1 with h1 | h1
      · subst h1; exact ⟨Pb.new _ _ _, hB⟩
      · exact ⟨(h.pb g (List.mem_append.mpr (Or.inr h1))).1.later (alloc_below _), (h.pb g (List.mem_append.mpr (Or.inr h1))).2⟩
  · have e := h.nd
    rw [List.nodup_append] at e ⊢
    obtain ⟨e1, e2, e3⟩ := e
    refine ⟨e1, List.nodup_cons.mpr ⟨fun hm => hn (List.mem_append.mpr (Or.inr hm)), e2⟩, fun a ha b hb => ?_⟩
    rcases List.mem_cons.mp hb with hb | hb
    · subst hb; intro e; subst e; exact hn (List.mem_append.mpr (Or.inl ha))
    · exact e3 a ha b hb
/-- what is right of a spot that has been made -/
def SpO (w : World) (x : Option Value) (p q : Rat) (k : Nat) : Prop := ∀ v, x = some v → SpV w v p q k
theorem SpO.later {w w' : World} {x : Option Value} {p q : Rat} {k : Nat} (h : SpO w x p q k) (hb : Below w.heap.size w w') : SpO w' x p q k := fun v e => (h v e).later hb
/-- what is right of a Rat, of a product, of a row of two products that have been made -/
def RvV (w : World) (x : Option Value) (q : Rat) (K : Nat) : Prop := ∀ v, x = some v → ∃ s a n c b m d, v = .agg #[.bool s, .slice a n c, .slice b m d] ∧ Rt w s a n c b m d q ∧ Sz q K
theorem RvV.later {w w' : World} {x : Option Value} {q : Rat} {K : Nat} (h : RvV w x q K) (hb : Below w.heap.size w w') : RvV w' x q K := fun v e => by
  obtain ⟨s, a, n, c, b, m, d, e1, r, z⟩ := h v e
  exact ⟨s, a, n, c, b, m, d, e1, r.later hb, z⟩
def SlV (w : World) (x : Option Value) (L : List (Rat × Rat)) (K : Nat) : Prop := ∀ v, x = some v → ∃ g, v = .slice (some ⟨g, 0, none⟩) 2 2 ∧ ∀ i, i < L.length → PrAt w g i (L.getD i (0, 0)).1 (L.getD i (0, 0)).2 K
theorem SlV.later {w w' : World} {x : Option Value} {L : List (Rat × Rat)} {K : Nat} (h : SlV w x L K) (hb : Below w.heap.size w w') : SlV w' x L K := fun v e => by
  obtain ⟨g, e1, r⟩ := h v e
  exact ⟨g, e1, fun i hi => (r i hi).later hb⟩
def StV (B : Nat) (w : World) (y : Option Nat) : Prop := ∀ g, y = some g → St w g 45 (.bool false) (.slice none 0 0) (.slice none 0 0) ∧ B ≤ g
theorem StV.later {B : Nat} {w w' : World} {y : Option Nat} (h : StV B w y) (hb : Below w.heap.size w w') : StV B w' y := fun g e => ⟨(h g e).1.later hb, (h g e).2⟩
theorem StV.new {B : Nat} {w : World} (hB : B ≤ w.heap.size) : StV B (w.alloc (.cells #[.bool false, .slice none 0 0, .slice none 0 0] 45)) (some w.heap.size) := fun g e => by cases e; exact ⟨st_new _ _ _ _ _, hB⟩
/-- how far the chain of calls has come, and how many steps of it are left -/
inductive CH : Nat → Option Value → Option Value → Option Value → Option Value → Option Value → Option Value → Option Value → Option Value → Option Value → Option Value → Option Value → Prop
  | c0 : CH 11 none none none none none none none none none none none
  | c1 (v50 : Value) : CH 10 (some v50) none none none none none none none none none none
  | c2 (v50 v53 v54 : Value) : CH 8 (some v50) (some v53) (some v54) none none none none none none none none
  | c3 (v50 v53 v54 v56 : Value) : CH 7 (some v50) (some v53) (some v54) (some v56) none none none none none none none
  | c4 (v50 v53 v54 v56 v59 v60 : Value) : CH 5 (some v50) (some v53) (some v54) (some v56) (some v59) (some v60) none none none none none
  | c5 (v50 v53 v54 v56 v59 v60 v62 : Value) : CH 4 (some v50) (some v53) (some v54) (some v56) (some v59) (some v60) (some v62) none none none none
  | c6 (v50 v53 v54 v56 v59 v60 v62 v65 v66 : Value) : CH 2 (some v50) (some v53) (some v54) (some v56) (some v59) (some v60) (some v62) (some v65) (some v66) none none
  | c7 (v50 v53 v54 v56 v59 v60 v62 v65 v66 v67 : Value) : CH 1 (some v50) (some v53) (some v54) (some v56) (some v59) (some v60) (some v62) (some v65) (some v66) (some v67) none
  | c8 (v50 v53 v54 v56 v59 v60 v62 v65 v66 v67 v68 : Value) : CH 0 (some v50) (some v53) (some v54) (some v56) (some v59) (some v60) (some v62) (some v65) (some v66) (some v67) (some v68)
end Go.Proofs.YtienpliknhkbjaaGreatDoor

/- plumblaw22: what PredSteps asks of its numbers. -/
namespace Go.Proofs.YtienpliknhkbjaaGreatDoor
open Go.ChangeShapes Go.WideShapes Go.ChangeAt Go.RowKit
open Na Ar
set_option linter.unusedVariables false
theorem sgnR_pos {q : Rat} (h : 0 < q) : sgnR q = 1 := by
  have h1 : 0 ≤ q.num := Rat.num_nonneg.mpr (Rat.le_of_lt h)
  have h2 : q.num ≠ 0 := fun e => by rw [Rat.num_eq_zero] at e; rw [e] at h; exact absurd h (by decide)
  unfold sgnR
  rw [if_neg h2, if_neg (by omega)]
theorem sgnR_ng {q : Rat} (h : q < 0) : sgnR q = -1 := by
  have := sgnR_pos (q := -q) (by grind)
  rw [sgnR_neg] at this
  omega
theorem ordR_lt {p q : Rat} (h : p < q) : ordR p q = -1 := by
  have h1 := ordR_neg.mpr h
  have h2 := ordR_bd p q
  omega
theorem numW_lt {p q : Int} (h0 : 0 ≤ p) (h1 : p < q) (h2 : q ≤ mostP) : numW p < numW q := by
  obtain ⟨u1, f1, m1⟩ := size_fin h0 (by omega)
  obtain ⟨u2, f2, m2⟩ := size_fin (p := q) (by omega) h2
  obtain ⟨o1, _⟩ := num_ord u1 u2 f1 f2
  rw [m1, m2] at o1
  exact o1 h1
theorem mk_lt22 {x y E : Int} (hx : 0 ≤ x) (h : x < y) (hE : 0 < E) : mkR false x E < mkR false y E := by
  have s : ∀ z : Int, sg false z = z := fun z => rfl
  rw [← ordR_neg, ordR_mk hx hE (by omega) hE, s, s, ordN_lt (Int.mul_lt_mul_of_pos_right h hE)]
  decide
theorem valR_zero : valR 0 = 0 := by decide +kernel
theorem valR_lt {p q : Int} (h0 : 0 ≤ p) (h1 : p < q) (h2 : q ≤ mostP) : valR p < valR q := by
  rw [valR_low h0 (by omega), valR_low (b := q) (by omega) h2]
  exact mk_lt22 (num_nonneg' h0 (by omega)) (numW_lt h0 h1 h2) (e2_pos _)
end Go.Proofs.YtienpliknhkbjaaGreatDoor

/- The sign of a whole number. -/
namespace Go.Proofs.YtienpliknhkbjaaGreatDoor
open Go.ChangeShapes Go.WideShapes Go.ChangeAt Go.RowKit
open Na Ar
set_option linter.unusedVariables false
/-- the sign of a whole number -/
def sgI (v : Int) : Int := if v < 0 then -1 else if 0 < v then 1 else 0
end Go.Proofs.YtienpliknhkbjaaGreatDoor

/- The side of a place, told by signs alone (for package seg). -/
namespace Go.Proofs.YtienpliknhkbjaaGreatDoor
open Na Ar
set_option linter.unusedVariables false
theorem tri0 (x : Rat) : x < 0 ∨ x = 0 ∨ 0 < x := by
  by_cases h : x < 0
  · exact Or.inl h
  · by_cases h' : x = 0
    · exact Or.inr (Or.inl h')
    · exact Or.inr (Or.inr (by grind))
theorem sgnR_zero : sgnR 0 = 0 := rfl
theorem sgnR_ord (x : Rat) : sgnR x = ordR x 0 := by
  rcases tri0 x with h | h | h
  · rw [sgnR_ng h, ordR_lt h]
  · rw [h, ordR_self, sgnR_zero]
  · rw [sgnR_pos h, ordR_swap 0 x, ordR_lt h]; rfl
theorem sgnR_mul (x y : Rat) : sgnR (x * y) = sgnR x * sgnR y := by
  have h := ordR_mul x 0 y
  rw [Rat.zero_mul, ← sgnR_ord, ← sgnR_ord] at h
  exact h
theorem sgnR_sub (x y : Rat) : sgnR (x - y) = ordR x y := by
  rw [sgnR_ord]
  have h := ordR_add (x - y) 0 y
  rw [← h]
  congr 1
  · grind
  · grind
/-- two signs that are unlike, or both 0, tell the order -/
theorem ord_signs {x y : Rat} (h : sgnR x ≠ sgnR y ∨ sgnR x = 0) : ordR x y = sgI (sgnR x - sgnR y) := by
  rcases tri0 x with hx | hx | hx <;> rcases tri0 y with hy | hy | hy
  · rw [sgnR_ng hx, sgnR_ng hy] at h; omega
  · rw [sgnR_ng hx, hy, sgnR_zero, ordR_lt hx]; rfl
  · rw [sgnR_ng hx, sgnR_pos hy, ordR_lt (by grind)]; rfl
  · rw [hx, sgnR_ng hy, sgnR_zero, ordR_swap y 0, ordR_lt hy]; rfl
  · rw [hx, hy, sgnR_zero, ordR_self]; rfl
  · rw [hx, sgnR_pos hy, sgnR_zero, ordR_lt hy]; rfl
  · rw [sgnR_pos hx, sgnR_ng hy, ordR_swap y x, ordR_lt (by grind)]; rfl
  · rw [sgnR_pos hx, hy, sgnR_zero, ordR_swap 0 x, ordR_lt hx]; rfl
  · rw [sgnR_pos hx, sgnR_pos hy] at h; omega
/-- the signs that side looks at, from one end (ex ey) of the stretch -/
def frsS (ax ay bx by' ex ey px py : Rat) : Int := ordR bx ax * ordR py ey
def secS (ax ay bx by' ex ey px py : Rat) : Int := ordR by' ay * ordR px ex
theorem side_short {ax ay bx by' ex ey px py : Rat} (he : (ex = ax ∧ ey = ay) ∨ (ex = bx ∧ ey = by')) (h : frsS ax ay bx by' ex ey px py ≠ secS ax ay bx by' ex ey px py ∨ frsS ax ay bx by' ex ey px py = 0) :
    sgnR (crR ax ay bx by' px py) = sgI (frsS ax ay bx by' ex ey px py - secS ax ay bx by' ex ey px py) := by
  have e : crR ax ay bx by' px py = (bx - ax) * (py - ey) - (by' - ay) * (px - ex) := by
    unfold crR
    rcases he with ⟨rfl, rfl⟩ | ⟨rfl, rfl⟩ <;> grind
  have e1 : sgnR ((bx - ax) * (py - ey)) = frsS ax ay bx by' ex ey px py := by rw [sgnR_mul, sgnR_sub, sgnR_sub]; rfl
  have e2' : sgnR ((by' - ay) * (px - ex)) = secS ax ay bx by' ex ey px py := by rw [sgnR_mul, sgnR_sub, sgnR_sub]; rfl
  rw [e, sgnR_sub, ord_signs (by rw [e1, e2']; exact h), e1, e2']
theorem cross_diff (ax ay bx by' cx cy dx dy : Rat) : crR cx cy dx dy ax ay - crR cx cy dx dy bx by' = crR ax ay bx by' dx dy - crR ax ay bx by' cx cy := by unfold crR; grind
theorem cross_x (ax ay bx by' cx cy dx dy : Rat) : crR cx cy dx dy ax ay * bx - crR cx cy dx dy bx by' * ax = crR ax ay bx by' dx dy * cx - crR ax ay bx by' cx cy * dx := by unfold crR; grind
theorem cross_y (ax ay bx by' cx cy dx dy : Rat) : crR cx cy dx dy ax ay * by' - crR cx cy dx dy bx by' * ay = crR ax ay bx by' dx dy * cy - crR ax ay bx by' cx cy * dy := by unfold crR; grind
/-- numbers of two stretches that cross properly are not apart -/
theorem cross_mid {al be ga de a b c d M : Rat} (h1 : al - be = de - ga) (h2 : al * b - be * a = de * c - ga * d) (ha : a ≤ M) (hb : b ≤ M) (hc : M < c) (hd : M < d) (p1 : 0 < al) (p2 : be < 0) (p3 : 0 < de) (p4 : ga < 0) : False := by
  have q1 := Rat.mul_nonneg (Rat.le_of_lt p1) (show 0 ≤ M - b by grind)
  have q2 := Rat.mul_nonneg (show 0 ≤ -be by grind) (show 0 ≤ M - a by grind)
  have q3 := Rat.mul_pos p3 (show 0 < c - M by grind)
  have q4 := Rat.mul_pos (show 0 < -ga by grind) (show 0 < d - M by grind)
  have e : al * (M - b) + -be * (M - a) + de * (c - M) + -ga * (d - M) = 0 := by grind
  grind
theorem sgnR_of_pos {x : Rat} (h : sgnR x = 1) : 0 < x := by
  rcases tri0 x with h' | h' | h'
  · rw [sgnR_ng h'] at h; omega
  · rw [h', sgnR_zero] at h; omega
  · exact h'
theorem sgnR_of_ng {x : Rat} (h : sgnR x = -1) : x < 0 := by
  rcases tri0 x with h' | h' | h'
  · exact h'
  · rw [h', sgnR_zero] at h; omega
  · rw [sgnR_pos h'] at h; omega
theorem unlike {p q : Int} (hp : -1 ≤ p ∧ p ≤ 1) (hq : -1 ≤ q ∧ q ≤ 1) (h : p * q < 0) : (p = 1 ∧ q = -1) ∨ (p = -1 ∧ q = 1) := by
  rcases (show p = -1 ∨ p = 0 ∨ p = 1 by omega) with rfl | rfl | rfl <;> omega
/-- two stretches whose numbers are apart do not cross properly -/
theorem apart_num {al be ga de a b c d M : Rat} (h1 : al - be = de - ga) (h2 : al * b - be * a = de * c - ga * d) (ha : a ≤ M) (hb : b ≤ M) (hc : M < c) (hd : M < d) (o1 : sgnR al * sgnR be < 0) (o2 : sgnR ga * sgnR de < 0) : False := by
  rcases unlike (sgnR_in al) (sgnR_in be) o1 with ⟨x1, x2⟩ | ⟨x1, x2⟩ <;> rcases unlike (sgnR_in ga) (sgnR_in de) o2 with ⟨x3, x4⟩ | ⟨x3, x4⟩
  · have := sgnR_of_pos x1; have := sgnR_of_ng x2; have := sgnR_of_pos x3; have := sgnR_of_ng x4
    grind
  · exact cross_mid h1 h2 ha hb hc hd (sgnR_of_pos x1) (sgnR_of_ng x2) (sgnR_of_pos x4) (sgnR_of_ng x3)
  · have y1 := sgnR_of_ng x1
    have y2 := sgnR_of_pos x2
    have y3 := sgnR_of_pos x3
    have y4 := sgnR_of_ng x4
    exact cross_mid (al := -al) (be := -be) (ga := -ga) (de := -de) (by grind) (by grind) ha hb hc hd (by grind) (by grind) (by grind) (by grind)
  · have := sgnR_of_ng x1; have := sgnR_of_pos x2; have := sgnR_of_ng x3; have := sgnR_of_pos x4
    grind
/-- the four signs of two stretches that cross properly -/
def Proper (ax ay bx by' cx cy dx dy : Rat) : Prop := sgnR (crR cx cy dx dy ax ay) * sgnR (crR cx cy dx dy bx by') < 0 ∧ sgnR (crR ax ay bx by' cx cy) * sgnR (crR ax ay bx by' dx dy) < 0
theorem Proper.swap {ax ay bx by' cx cy dx dy : Rat} (h : Proper ax ay bx by' cx cy dx dy) : Proper cx cy dx dy ax ay bx by' := ⟨h.2, h.1⟩
theorem Proper.x {ax ay bx by' cx cy dx dy M : Rat} (h : Proper ax ay bx by' cx cy dx dy) (ha : ax ≤ M) (hb : bx ≤ M) (hc : M < cx) (hd : M < dx) : False :=
  apart_num (cross_diff ax ay bx by' cx cy dx dy) (cross_x ax ay bx by' cx cy dx dy) ha hb hc hd h.1 h.2
theorem Proper.y {ax ay bx by' cx cy dx dy M : Rat} (h : Proper ax ay bx by' cx cy dx dy) (ha : ay ≤ M) (hb : by' ≤ M) (hc : M < cy) (hd : M < dy) : False :=
  apart_num (cross_diff ax ay bx by' cx cy dx dy) (cross_y ax ay bx by' cx cy dx dy) ha hb hc hd h.1 h.2
/-- a place between two sorted ends, as seg's spans and as pred's Between tell it -/
theorem spans_prod {ax ay bx by' px py : Rat} (h : ordS ax ay bx by' ≤ 0) : (ordS ax ay px py ≤ 0 ∧ ordS px py bx by' ≤ 0) ↔ 0 ≤ ordS ax ay px py * ordS px py bx by' := by
  have b1 := ordS_in ax ay px py
  have b2 := ordS_in px py bx by'
  have t1 : ordS px py ax ay = - ordS ax ay px py := ordS_swap ax ay px py
  have t2 : ordS bx by' px py = - ordS px py bx by' := ordS_swap px py bx by'
  have z1 := @ordS_zero ax ay px py
  have z2 := @ordS_zero px py bx by'
  have k1 : ordS px py ax ay ≤ 0 → ordS px py bx by' ≤ 0 := fun h1 => ordS_trans h1 h
  have k2 : ordS bx by' px py ≤ 0 → ordS ax ay px py ≤ 0 := fun h1 => ordS_trans h h1
  rw [t1] at k1
  rw [t2] at k2
  generalize ordS ax ay px py = p at *
  generalize ordS px py bx by' = q at *
  rcases (show p = -1 ∨ p = 0 ∨ p = 1 by omega) with rfl | rfl | rfl <;> rcases (show q = -1 ∨ q = 0 ∨ q = 1 by omega) with rfl | rfl | rfl <;> simp at * <;> omega
theorem between_swap (ax ay bx by' px py : Rat) : ordS bx by' px py * ordS px py ax ay = ordS ax ay px py * ordS px py bx by' := by
  rw [ordS_swap px py bx by', ordS_swap ax ay px py, Int.neg_mul_neg, Int.mul_comm]
theorem crR_turn (ax ay bx by' px py : Rat) : crR bx by' ax ay px py = - crR ax ay bx by' px py := by unfold crR; grind
end Go.Proofs.YtienpliknhkbjaaGreatDoor

/- What lies between two places, as a share of the way (for package seg). -/
namespace Go.Proofs.YtienpliknhkbjaaGreatDoor
open Na Ar
set_option linter.unusedVariables false
theorem rat_cancel {d x : Rat} (hd : d ≠ 0) (h : d * x = 0) : x = 0 := by
  rcases Rat.mul_eq_zero.mp h with h | h
  · exact absurd h hd
  · exact h
/-- a share of a way: n of d -/
theorem share_num {n d : Rat} (hd : 0 < d) (h0 : 0 ≤ n) (h1 : n ≤ d) : ∃ t : Rat, 0 ≤ t ∧ t ≤ 1 ∧ t * d = n := by
  have hne : d ≠ 0 := by grind
  refine ⟨n * d⁻¹, ?_, ?_, ?_⟩
  · exact Rat.mul_nonneg h0 (Rat.le_of_lt (Rat.inv_pos.mpr hd))
  · by_cases h : n * d⁻¹ ≤ 1
    · exact h
    · have p := Rat.mul_pos (show 0 < n * d⁻¹ - 1 by grind) hd
      have e : (n * d⁻¹ - 1) * d = n * (d⁻¹ * d) - d := by grind
      rw [e, Rat.inv_mul_cancel d hne] at p
      grind
  · rw [Rat.mul_assoc, Rat.inv_mul_cancel d hne, Rat.mul_one]
theorem share_of {ax ay bx by' px py : Rat} (h : ordS ax ay px py ≤ 0) (h' : ordS px py bx by' ≤ 0) (hc : crR ax ay bx by' px py = 0) :
    ∃ t : Rat, 0 ≤ t ∧ t ≤ 1 ∧ px = ax + t * (bx - ax) ∧ py = ay + t * (by' - ay) := by
  rw [ordS_le] at h h'
  have e : (bx - ax) * (py - ay) = (by' - ay) * (px - ax) := by unfold crR at hc; grind
  by_cases hx : ax < bx
  · obtain ⟨t, t0, t1, ht⟩ := share_num (n := px - ax) (d := bx - ax) (by grind) (by grind) (by grind)
    refine ⟨t, t0, t1, by grind, ?_⟩
    have z : (bx - ax) * (py - ay - t * (by' - ay)) = 0 := by grind
    have := rat_cancel (show bx - ax ≠ 0 by grind) z
    grind
  · have e1 : ax = px := by grind
    have e2' : px = bx := by grind
    by_cases hy : ay < by'
    · obtain ⟨t, t0, t1, ht⟩ := share_num (n := py - ay) (d := by' - ay) (by grind) (by grind) (by grind)
      exact ⟨t, t0, t1, by grind, by grind⟩
    · exact ⟨0, by grind, by grind, by grind, by grind⟩
/-- what lies between is in the box -/
theorem share_in {a b p t M : Rat} (t0 : 0 ≤ t) (t1 : t ≤ 1) (h : p = a + t * (b - a)) (ha : a ≤ M) (hb : b ≤ M) : p ≤ M := by
  have q1 := Rat.mul_nonneg t0 (show 0 ≤ M - b by grind)
  have q2 := Rat.mul_nonneg (show 0 ≤ 1 - t by grind) (show 0 ≤ M - a by grind)
  grind
theorem share_in' {a b p t M : Rat} (t0 : 0 ≤ t) (t1 : t ≤ 1) (h : p = a + t * (b - a)) (ha : M ≤ a) (hb : M ≤ b) : M ≤ p := by
  have q1 := Rat.mul_nonneg t0 (show 0 ≤ b - M by grind)
  have q2 := Rat.mul_nonneg (show 0 ≤ 1 - t by grind) (show 0 ≤ a - M by grind)
  grind
/-- ends of one side of a line: nothing between them lies on the line -/
theorem share_side {ax ay bx by' cx cy dx dy px py t : Rat} (t0 : 0 ≤ t) (t1 : t ≤ 1) (hx : px = cx + t * (dx - cx)) (hy : py = cy + t * (dy - cy)) (h : 0 < sgnR (crR ax ay bx by' cx cy) * sgnR (crR ax ay bx by' dx dy)) : crR ax ay bx by' px py ≠ 0 := by
  have e : crR ax ay bx by' px py = (1 - t) * crR ax ay bx by' cx cy + t * crR ax ay bx by' dx dy := by
    subst hx; subst hy
    unfold crR
    grind
  have b1 := sgnR_in (crR ax ay bx by' cx cy)
  have b2 := sgnR_in (crR ax ay bx by' dx dy)
  have k : (sgnR (crR ax ay bx by' cx cy) = 1 ∧ sgnR (crR ax ay bx by' dx dy) = 1) ∨ (sgnR (crR ax ay bx by' cx cy) = -1 ∧ sgnR (crR ax ay bx by' dx dy) = -1) := by
    generalize sgnR (crR ax ay bx by' cx cy) = p at *
    generalize sgnR (crR ax ay bx by' dx dy) = q at *
    rcases (show p = -1 ∨ p = 0 ∨ p = 1 by omega) with rfl | rfl | rfl <;> omega
  rw [e]
  generalize crR ax ay bx by' cx cy = P at *
  generalize crR ax ay bx by' dx dy = Q at *
  intro hz
  rcases k with ⟨k1, k2⟩ | ⟨k1, k2⟩
  · have p1 := sgnR_of_pos k1
    have p2 := sgnR_of_pos k2
    by_cases ht : t = 0
    · subst ht; grind
    · have r1 := Rat.mul_pos (show 0 < t by grind) p2
      have r2 := Rat.mul_nonneg (show 0 ≤ 1 - t by grind) (Rat.le_of_lt p1)
      grind
  · have p1 := sgnR_of_ng k1
    have p2 := sgnR_of_ng k2
    by_cases ht : t = 0
    · subst ht; grind
    · have r1 := Rat.mul_pos (show 0 < t by grind) (show 0 < -Q by grind)
      have r2 := Rat.mul_nonneg (show 0 ≤ 1 - t by grind) (show 0 ≤ -P by grind)
      grind
end Go.Proofs.YtienpliknhkbjaaGreatDoor

/- Two stretches with two places in common lie on one line; ends that are common (for package seg). -/
namespace Go.Proofs.YtienpliknhkbjaaGreatDoor
open Na Ar
set_option linter.unusedVariables false
theorem two_places {ax ay bx by' cx cy dx dy px py qx qy t1 t2 u1 u2 : Rat} (p1 : px = ax + t1 * (bx - ax)) (p2 : py = ay + t1 * (by' - ay)) (p3 : px = cx + u1 * (dx - cx)) (p4 : py = cy + u1 * (dy - cy))
    (q1 : qx = ax + t2 * (bx - ax)) (q2 : qy = ay + t2 * (by' - ay)) (q3 : qx = cx + u2 * (dx - cx)) (q4 : qy = cy + u2 * (dy - cy)) (hne : ¬ (px = qx ∧ py = qy)) :
    crR ax ay bx by' cx cy = 0 ∧ crR ax ay bx by' dx dy = 0 ∧ crR cx cy dx dy ax ay = 0 ∧ crR cx cy dx dy bx by' = 0 := by
  have ht : t2 - t1 ≠ 0 := by
    intro h
    have : t2 = t1 := by grind
    subst this
    exact hne ⟨by rw [p1, q1], by rw [p2, q2]⟩
  have ex : (t2 - t1) * (bx - ax) = (u2 - u1) * (dx - cx) := by grind
  have ey : (t2 - t1) * (by' - ay) = (u2 - u1) * (dy - cy) := by grind
  have K0 : (bx - ax) * (dy - cy) - (by' - ay) * (dx - cx) = 0 := by
    refine rat_cancel ht ?_
    have e : (t2 - t1) * ((bx - ax) * (dy - cy) - (by' - ay) * (dx - cx)) = ((t2 - t1) * (bx - ax)) * (dy - cy) - ((t2 - t1) * (by' - ay)) * (dx - cx) := by grind
    rw [e, ex, ey]
    grind
  have a1 : cx - ax = t1 * (bx - ax) - u1 * (dx - cx) := by grind
  have a2 : cy - ay = t1 * (by' - ay) - u1 * (dy - cy) := by grind
  refine ⟨?_, ?_, ?_, ?_⟩
  · have e : crR ax ay bx by' cx cy = -u1 * ((bx - ax) * (dy - cy) - (by' - ay) * (dx - cx)) := by
      unfold crR
      rw [a1, a2]
      grind
    rw [e, K0, Rat.mul_zero]
  · have b1 : dx - ax = t1 * (bx - ax) + (1 - u1) * (dx - cx) := by grind
    have b2 : dy - ay = t1 * (by' - ay) + (1 - u1) * (dy - cy) := by grind
    have e : crR ax ay bx by' dx dy = (1 - u1) * ((bx - ax) * (dy - cy) - (by' - ay) * (dx - cx)) := by
      unfold crR
      rw [b1, b2]
      grind
    rw [e, K0, Rat.mul_zero]
  · have b1 : ax - cx = u1 * (dx - cx) - t1 * (bx - ax) := by grind
    have b2 : ay - cy = u1 * (dy - cy) - t1 * (by' - ay) := by grind
    have e : crR cx cy dx dy ax ay = t1 * ((bx - ax) * (dy - cy) - (by' - ay) * (dx - cx)) := by
      unfold crR
      rw [b1, b2]
      grind
    rw [e, K0, Rat.mul_zero]
  · have b1 : bx - cx = u1 * (dx - cx) + (1 - t1) * (bx - ax) := by grind
    have b2 : by' - cy = u1 * (dy - cy) + (1 - t1) * (by' - ay) := by grind
    have e : crR cx cy dx dy bx by' = (t1 - 1) * ((bx - ax) * (dy - cy) - (by' - ay) * (dx - cx)) := by
      unfold crR
      rw [b1, b2]
      grind
    rw [e, K0, Rat.mul_zero]
end Go.Proofs.YtienpliknhkbjaaGreatDoor

/- Ranks: their numbers and their order (for package seg). -/
namespace Go.Proofs.YtienpliknhkbjaaGreatDoor
open Go.ChangeShapes Go.WideShapes Go.ChangeAt Go.RowKit
open Na Ar
set_option linter.unusedVariables false
/-- a finite pattern's rank -/
def rOk (r : Int) : Prop := -9218868437227405311 ≤ r ∧ r ≤ 9218868437227405311
/-- its number -/
def vR (r : Int) : Rat := valR (atW r)
theorem at_neg {r : Int} (h : rOk r) (hr : r < 0) : atW r = -r + 9223372036854775808 := by
  unfold rOk at h
  unfold atW
  rw [if_neg (by omega), if_neg (by omega), if_pos hr]
  omega
theorem at_pos {r : Int} (h : rOk r) (hr : 0 ≤ r) : atW r = r := by
  unfold rOk at h
  unfold atW
  rw [if_neg (by omega), if_neg (by omega), if_neg (by omega)]
theorem rOk.neg {r : Int} (h : rOk r) : rOk (-r) := by unfold rOk at *; omega
theorem at_fin {r : Int} (h : rOk r) : U (atW r) ∧ ef (atW r) ≠ 2047 := by
  by_cases hr : r < 0
  · rw [at_neg h hr]
    unfold rOk at h
    unfold U ef
    omega
  · rw [at_pos h (by omega)]
    unfold rOk at h
    unfold U ef
    omega
theorem sgn_low {d : Int} (h0 : 0 ≤ d) (h1 : d ≤ mostP) : valR (d + 9223372036854775808) = - valR d := by
  obtain ⟨u1, f1, m1⟩ := size_fin h0 h1
  have h1' : d ≤ 9218868437227405311 := h1
  have u : U (d + 9223372036854775808) := by unfold U; omega
  have f : ef (d + 9223372036854775808) ≠ 2047 := by unfold ef; omega
  have m : mg (d + 9223372036854775808) = d := by unfold mg; omega
  have n : numW (d + 9223372036854775808) = numW d := (num_ord u u1 f f1).2 (by rw [m, m1])
  have s1 : spS (d + 9223372036854775808) = true := by unfold spS; rw [if_neg f]; simp; omega
  rw [valR_num u f, s1, valR_low h0 h1, n]
  unfold mkR
  have : sg true (numW d) = - sg false (numW d) := rfl
  rw [this, Rat.neg_mkRat]
theorem vR_zero : vR 0 = 0 := valR_zero
theorem vR_neg {r : Int} (h : rOk r) : vR (-r) = - vR r := by
  have hm : mostP = 9218868437227405311 := rfl
  unfold vR
  rcases Int.lt_trichotomy r 0 with hr | hr | hr
  · rw [at_neg h hr, at_pos h.neg (by omega), sgn_low (by omega) (by unfold rOk at h; omega)]
    grind
  · subst hr
    have := vR_zero
    unfold vR at this
    show valR (atW 0) = _
    rw [this]; grind
  · rw [at_pos h (by omega), at_neg h.neg (by omega), Int.neg_neg, sgn_low (by omega) (by unfold rOk at h; omega)]
theorem vR_pos {r : Int} (h : rOk r) (hr : 0 < r) : 0 < vR r := by
  have hm : mostP = 9218868437227405311 := rfl
  have := valR_lt (p := 0) (q := r) (by omega) hr (by unfold rOk at h; omega)
  unfold vR
  rw [at_pos h (by omega)]
  rw [valR_zero] at this
  exact this
theorem vR_lt {r s : Int} (h : rOk r) (h' : rOk s) (hl : r < s) : vR r < vR s := by
  have hm : mostP = 9218868437227405311 := rfl
  by_cases hr : 0 ≤ r
  · unfold vR
    rw [at_pos h hr, at_pos h' (by omega)]
    exact valR_lt hr hl (by unfold rOk at h'; omega)
  · by_cases hs : 0 ≤ s
    · have p := vR_pos h.neg (by omega)
      rw [vR_neg h] at p
      by_cases h0 : s = 0
      · subst h0; rw [vR_zero]; grind
      · have q := vR_pos h' (by omega)
        grind
    · have p : vR (-s) < vR (-r) := by
        unfold vR
        rw [at_pos h.neg (by omega), at_pos h'.neg (by omega)]
        exact valR_lt (by omega) (by omega) (by have := h.neg; unfold rOk at this; omega)
      rw [vR_neg h, vR_neg h'] at p
      grind
theorem ord_vR {r s : Int} (h : rOk r) (h' : rOk s) : ordR (vR r) (vR s) = ord r s := by
  unfold ord
  rcases Int.lt_trichotomy r s with hl | hl | hl
  · rw [if_pos hl, ordR_lt (vR_lt h h' hl)]
  · subst hl
    rw [if_neg (by omega), if_neg (by omega), ordR_self]
  · rw [if_neg (by omega), if_pos hl, ordR_swap, ordR_lt (vR_lt h' h hl)]
    rfl
theorem rk_ok {b : Int} (hu : U b) (hf : ef b ≠ 2047) : rOk (rk0 b) := by
  unfold U at hu
  unfold ef at hf
  unfold rOk rk0
  split <;> omega
theorem vR_rk {b : Int} (hu : U b) (hf : ef b ≠ 2047) : vR (rk0 b) = valR b := by
  have hr := rk_ok hu hf
  have hm : mostP = 9218868437227405311 := rfl
  by_cases hb : b < 9223372036854775808
  · have e : rk0 b = b := by unfold rk0; rw [if_pos hb]
    rw [e] at hr ⊢
    unfold U at hu
    unfold vR
    rw [at_pos hr (by omega)]
  · obtain ⟨d, rfl⟩ : ∃ d, b = d + 9223372036854775808 := ⟨b - 9223372036854775808, by omega⟩
    have e : rk0 (d + 9223372036854775808) = -d := by unfold rk0; rw [if_neg hb]; omega
    rw [e] at hr ⊢
    have hd : rOk d := by have := hr.neg; rw [Int.neg_neg] at this; exact this
    unfold rOk at hr
    rw [vR_neg hd, sgn_low (by omega) (by omega)]
    unfold vR
    rw [at_pos hd (by omega)]
theorem rkW_fin {b : Int} (hf : ef b ≠ 2047) : rkW b = rk0 b := by unfold rkW; rw [if_neg hf]
theorem fiE_fin {b : Int} (hf : ef b ≠ 2047) : fiE b = 0 := by unfold fiE; rw [if_neg hf]
theorem fiE_inf {b : Int} (hf : ef b = 2047) : fiE b = 60 := by unfold fiE; rw [if_pos hf]
end Go.Proofs.YtienpliknhkbjaaGreatDoor

/- How two stretches meet, by ranks (for package seg). -/
namespace Go.Proofs.YtienpliknhkbjaaGreatDoor
open Na Ar
set_option linter.unusedVariables false
def pOk (p : Int × Int) : Prop := rOk p.1 ∧ rOk p.2
def orP (p q : Int × Int) : Int := if ord p.1 q.1 = 0 then ord p.2 q.2 else ord p.1 q.1
theorem orP_S {p q : Int × Int} (h : pOk p) (h' : pOk q) : orP p q = ordS (vR p.1) (vR p.2) (vR q.1) (vR q.2) := by
  unfold orP ordS
  rw [ord_vR h.1 h'.1, ord_vR h.2 h'.2]
theorem orP_zero {p q : Int × Int} : orP p q = 0 ↔ p = q := by
  obtain ⟨a, b⟩ := p
  obtain ⟨c, d⟩ := q
  unfold orP
  simp only [Prod.mk.injEq]
  rcases ord_cases a c with ⟨h, e⟩ | ⟨h, e⟩ | ⟨h, e⟩ <;> rcases ord_cases b d with ⟨h', e'⟩ | ⟨h', e'⟩ | ⟨h', e'⟩ <;> rw [e, e'] <;> simp <;> omega
theorem orP_swap (p q : Int × Int) : orP q p = - orP p q := by
  obtain ⟨a, b⟩ := p
  obtain ⟨c, d⟩ := q
  unfold orP
  have s1 : ord c a = - ord a c := by unfold ord; (repeat' split) <;> omega
  have s2 : ord d b = - ord b d := by unfold ord; (repeat' split) <;> omega
  simp only [s1, s2]
  split <;> split <;> omega
theorem orP_le {p q : Int × Int} : orP p q ≤ 0 ↔ p.1 < q.1 ∨ (p.1 = q.1 ∧ p.2 ≤ q.2) := by
  obtain ⟨a, b⟩ := p
  obtain ⟨c, d⟩ := q
  unfold orP
  simp only
  rcases ord_cases a c with ⟨h, e⟩ | ⟨h, e⟩ | ⟨h, e⟩ <;> rcases ord_cases b d with ⟨h', e'⟩ | ⟨h', e'⟩ | ⟨h', e'⟩ <;> rw [e, e'] <;> simp <;> omega
theorem orP_trans {p q r : Int × Int} (h : orP p q ≤ 0) (h' : orP q r ≤ 0) : orP p r ≤ 0 := by
  rw [orP_le] at *
  omega
theorem orP_anti {p q : Int × Int} (h : orP p q ≤ 0) (h' : orP q p ≤ 0) : p = q := by
  rw [orP_swap] at h'
  exact orP_zero.mp (by omega)
/-- on which side of the line from a to b a place lies -/
def sdP (a b p : Int × Int) : Int := sgnR (crR (vR a.1) (vR a.2) (vR b.1) (vR b.2) (vR p.1) (vR p.2))
theorem sdP_in (a b p : Int × Int) : -1 ≤ sdP a b p ∧ sdP a b p ≤ 1 := sgnR_in _
theorem crR_end (a b c d : Rat) : crR a b c d c d = 0 := by unfold crR; grind
theorem sgnR_eq0 {x : Rat} : sgnR x = 0 ↔ x = 0 := by
  rcases tri0 x with h | h | h
  · rw [sgnR_ng h]; constructor
    · intro h'; omega
    · intro h'; rw [h'] at h; exact absurd h (by grind)
  · rw [h, sgnR_zero]; simp
  · rw [sgnR_pos h]; constructor
    · intro h'; omega
    · intro h'; rw [h'] at h; exact absurd h (by grind)
def spP (a b p : Int × Int) : Bool := decide (orP a p ≤ 0) && decide (orP p b ≤ 0)
def onP (a b p : Int × Int) : Bool := (sdP a b p == 0) && spP a b p
theorem onP_iff {a b p : Int × Int} : onP a b p = true ↔ sdP a b p = 0 ∧ orP a p ≤ 0 ∧ orP p b ≤ 0 := by
  unfold onP spP
  simp
/-- the ends that lie on the other stretch, as meet finds them -/
def endsP (a b c d : Int × Int) : List (Int × Int) := (if onP a b c then [c] else []) ++ ((if onP c d a then [a] else []) ++ ((if onP a b d then [d] else []) ++ (if onP c d b then [b] else [])))
def prP (a b c d : Int × Int) : Prop := sdP a b c * sdP a b d < 0 ∧ sdP c d a * sdP c d b < 0
instance (a b c d : Int × Int) : Decidable (prP a b c d) := inferInstanceAs (Decidable (_ ∧ _))
theorem ends_nil {a b c d : Int × Int} (h1 : onP a b c = false) (h2 : onP c d a = false) (h3 : onP a b d = false) (h4 : onP c d b = false) : endsP a b c d = [] := by
  unfold endsP
  rw [h1, h2, h3, h4]
  rfl
theorem ends_mem {a b c d x : Int × Int} : x ∈ endsP a b c d ↔ (onP a b c = true ∧ x = c) ∨ (onP c d a = true ∧ x = a) ∨ (onP a b d = true ∧ x = d) ∨ (onP c d b = true ∧ x = b) := by
  unfold endsP
  simp only [List.mem_append]
  have m : ∀ (t : Bool) (y : Int × Int), x ∈ (if t = true then [y] else []) ↔ t = true ∧ x = y := by
    intro t y
    cases t <;> simp
  rw [m, m, m, m]
/-- a place of a stretch is a share of the way -/
theorem on_share {a b p : Int × Int} (ha : pOk a) (hb : pOk b) (hp : pOk p) (h : onP a b p = true) : ∃ t : Rat, 0 ≤ t ∧ t ≤ 1 ∧ vR p.1 = vR a.1 + t * (vR b.1 - vR a.1) ∧ vR p.2 = vR a.2 + t * (vR b.2 - vR a.2) := by
  rw [onP_iff] at h
  obtain ⟨h1, h2, h3⟩ := h
  rw [orP_S ha hp] at h2
  rw [orP_S hp hb] at h3
  exact share_of h2 h3 (sgnR_eq0.mp h1)
theorem vR_le {r s : Int} (h : rOk r) (h' : rOk s) (hl : r ≤ s) : vR r ≤ vR s := by
  rcases Int.lt_or_eq_of_le hl with hl | hl
  · exact Rat.le_of_lt (vR_lt h h' hl)
  · subst hl; exact Rat.le_refl
/-- boxes that are apart -/
def apP (a b c d : Int × Int) : Prop := b.1 < c.1 ∨ d.1 < a.1 ∨ (max a.2 b.2 < min c.2 d.2) ∨ (max c.2 d.2 < min a.2 b.2)
theorem on_x {a b p : Int × Int} {m : Int} (hm : rOk m) (ha : pOk a) (hb : pOk b) (hp : pOk p) (h : onP a b p = true) (h1 : a.1 ≤ m) (h2 : b.1 ≤ m) : p.1 ≤ m := by
  obtain ⟨t, t0, t1, e1, e2⟩ := on_share ha hb hp h
  have := share_in t0 t1 e1 (vR_le ha.1 hm h1) (vR_le hb.1 hm h2)
  by_cases hq : p.1 ≤ m
  · exact hq
  · have := vR_lt hm hp.1 (by omega)
    grind
theorem on_x' {a b p : Int × Int} {m : Int} (hm : rOk m) (ha : pOk a) (hb : pOk b) (hp : pOk p) (h : onP a b p = true) (h1 : m ≤ a.1) (h2 : m ≤ b.1) : m ≤ p.1 := by
  obtain ⟨t, t0, t1, e1, e2⟩ := on_share ha hb hp h
  have := share_in' t0 t1 e1 (vR_le hm ha.1 h1) (vR_le hm hb.1 h2)
  by_cases hq : m ≤ p.1
  · exact hq
  · have := vR_lt hp.1 hm (by omega)
    grind
theorem on_y {a b p : Int × Int} {m : Int} (hm : rOk m) (ha : pOk a) (hb : pOk b) (hp : pOk p) (h : onP a b p = true) (h1 : a.2 ≤ m) (h2 : b.2 ≤ m) : p.2 ≤ m := by
  obtain ⟨t, t0, t1, e1, e2⟩ := on_share ha hb hp h
  have := share_in t0 t1 e2 (vR_le ha.2 hm h1) (vR_le hb.2 hm h2)
  by_cases hq : p.2 ≤ m
  · exact hq
  · have := vR_lt hm hp.2 (by omega)
    grind
theorem on_y' {a b p : Int × Int} {m : Int} (hm : rOk m) (ha : pOk a) (hb : pOk b) (hp : pOk p) (h : onP a b p = true) (h1 : m ≤ a.2) (h2 : m ≤ b.2) : m ≤ p.2 := by
  obtain ⟨t, t0, t1, e1, e2⟩ := on_share ha hb hp h
  have := share_in' t0 t1 e2 (vR_le hm ha.2 h1) (vR_le hm hb.2 h2)
  by_cases hq : m ≤ p.2
  · exact hq
  · have := vR_lt hp.2 hm (by omega)
    grind
theorem not_on {a b p : Int × Int} (h : ¬ onP a b p = true) : onP a b p = false := by simpa using h
theorem max_ok {x y : Int} (hx : rOk x) (hy : rOk y) : rOk (max x y) ∧ rOk (min x y) := by unfold rOk at *; omega
theorem prP_Proper {a b c d : Int × Int} (h : prP a b c d) : Proper (vR a.1) (vR a.2) (vR b.1) (vR b.2) (vR c.1) (vR c.2) (vR d.1) (vR d.2) := ⟨h.2, h.1⟩
theorem ap_none {a b c d : Int × Int} (ha : pOk a) (hb : pOk b) (hc : pOk c) (hd : pOk d) (h1 : orP a b ≤ 0) (h2 : orP c d ≤ 0) (h : apP a b c d) : endsP a b c d = [] ∧ ¬ prP a b c d := by
  have l1 : a.1 ≤ b.1 := by rw [orP_le] at h1; omega
  have l2 : c.1 ≤ d.1 := by rw [orP_le] at h2; omega
  rcases h with h | h | h | h
  · refine ⟨ends_nil (not_on fun k => ?_) (not_on fun k => ?_) (not_on fun k => ?_) (not_on fun k => ?_), fun k => ?_⟩
    · have := on_x hb.1 ha hb hc k l1 (by omega); omega
    · have := on_x' hc.1 hc hd ha k (by omega) l2; omega
    · have := on_x hb.1 ha hb hd k l1 (by omega); omega
    · have := on_x' hc.1 hc hd hb k (by omega) l2; omega
    · exact (prP_Proper k).x (vR_le ha.1 hb.1 l1) Rat.le_refl (vR_lt hb.1 hc.1 h) (vR_lt hb.1 hd.1 (by omega))
  · refine ⟨ends_nil (not_on fun k => ?_) (not_on fun k => ?_) (not_on fun k => ?_) (not_on fun k => ?_), fun k => ?_⟩
    · have := on_x' ha.1 ha hb hc k (by omega) l1; omega
    · have := on_x hd.1 hc hd ha k l2 (by omega); omega
    · have := on_x' ha.1 ha hb hd k (by omega) l1; omega
    · have := on_x hd.1 hc hd hb k l2 (by omega); omega
    · exact (prP_Proper k).swap.x (vR_le hc.1 hd.1 l2) Rat.le_refl (vR_lt hd.1 ha.1 h) (vR_lt hd.1 hb.1 (by omega))
  · have m1 := (max_ok ha.2 hb.2).1
    have m2 := (max_ok hc.2 hd.2).2
    refine ⟨ends_nil (not_on fun k => ?_) (not_on fun k => ?_) (not_on fun k => ?_) (not_on fun k => ?_), fun k => ?_⟩
    · have := on_y m1 ha hb hc k (by omega) (by omega); omega
    · have := on_y' m2 hc hd ha k (by omega) (by omega); omega
    · have := on_y m1 ha hb hd k (by omega) (by omega); omega
    · have := on_y' m2 hc hd hb k (by omega) (by omega); omega
    · exact (prP_Proper k).y (vR_le ha.2 m1 (by omega)) (vR_le hb.2 m1 (by omega)) (vR_lt m1 hc.2 (by omega)) (vR_lt m1 hd.2 (by omega))
  · have m1 := (max_ok hc.2 hd.2).1
    have m2 := (max_ok ha.2 hb.2).2
    refine ⟨ends_nil (not_on fun k => ?_) (not_on fun k => ?_) (not_on fun k => ?_) (not_on fun k => ?_), fun k => ?_⟩
    · have := on_y' m2 ha hb hc k (by omega) (by omega); omega
    · have := on_y m1 hc hd ha k (by omega) (by omega); omega
    · have := on_y' m2 ha hb hd k (by omega) (by omega); omega
    · have := on_y m1 hc hd hb k (by omega) (by omega); omega
    · exact (prP_Proper k).swap.y (vR_le hc.2 m1 (by omega)) (vR_le hd.2 m1 (by omega)) (vR_lt m1 ha.2 (by omega)) (vR_lt m1 hb.2 (by omega))
theorem side_none {a b c d : Int × Int} (ha : pOk a) (hb : pOk b) (hc : pOk c) (hd : pOk d) (h : 0 < sdP a b c * sdP a b d) : endsP a b c d = [] ∧ ¬ prP a b c d := by
  refine ⟨ends_nil (not_on fun k => ?_) (not_on fun k => ?_) (not_on fun k => ?_) (not_on fun k => ?_), fun k => ?_⟩
  · rw [onP_iff] at k; rw [k.1, Int.zero_mul] at h; omega
  · obtain ⟨t, t0, t1, e1, e2⟩ := on_share hc hd ha k
    exact share_side t0 t1 e1 e2 h (crR_self _ _ _ _)
  · rw [onP_iff] at k; rw [k.1, Int.mul_zero] at h; omega
  · obtain ⟨t, t0, t1, e1, e2⟩ := on_share hc hd hb k
    exact share_side t0 t1 e1 e2 h (crR_end _ _ _ _)
  · have := k.1; omega
/-- the least and the greatest of places -/
def leastP (m : Int × Int) : List (Int × Int) → Int × Int
  | [] => m
  | x :: l => leastP (if orP x m < 0 then x else m) l
def greatP (m : Int × Int) : List (Int × Int) → Int × Int
  | [] => m
  | x :: l => greatP (if 0 < orP x m then x else m) l
theorem leastP_spec : ∀ (l : List (Int × Int)) (m : Int × Int), (leastP m l = m ∨ leastP m l ∈ l) ∧ orP (leastP m l) m ≤ 0 ∧ ∀ x, x ∈ l → orP (leastP m l) x ≤ 0 := by
  intro l
  induction l with
  | nil => intro m; exact ⟨Or.inl rfl, by rw [orP_zero.mpr (show leastP m [] = m from rfl)]; omega, fun x hx => absurd hx (by simp)⟩
  | cons y l ih =>
    intro m
    obtain ⟨i1, i2, i3⟩ := ih (if orP y m < 0 then y else m)
    have e : leastP m (y :: l) = leastP (if orP y m < 0 then y else m) l := rfl
    rw [e]
    by_cases h : orP y m < 0
    · rw [if_pos h] at *
      refine ⟨Or.inr ?_, orP_trans i2 (by omega), fun x hx => ?_⟩
      · rcases i1 with i1 | i1
        · rw [i1]; simp
        · exact List.mem_cons_of_mem _ i1
      · rcases List.mem_cons.mp hx with rfl | hx
        · exact i2
        · exact i3 x hx
    · rw [if_neg h] at *
      refine ⟨?_, i2, fun x hx => ?_⟩
      · rcases i1 with i1 | i1
        · exact Or.inl i1
        · exact Or.inr (List.mem_cons_of_mem _ i1)
      · rcases List.mem_cons.mp hx with rfl | hx
        · exact orP_trans i2 (by have := orP_swap m x; rw [orP_swap]; omega)
        · exact i3 x hx
theorem greatP_spec : ∀ (l : List (Int × Int)) (m : Int × Int), (greatP m l = m ∨ greatP m l ∈ l) ∧ orP m (greatP m l) ≤ 0 ∧ ∀ x, x ∈ l → orP x (greatP m l) ≤ 0 := by
  intro l
  induction l with
  | nil => intro m; exact ⟨Or.inl rfl, by rw [orP_zero.mpr (show m = greatP m [] from rfl)]; omega, fun x hx => absurd hx (by simp)⟩
  | cons y l ih =>
    intro m
    obtain ⟨i1, i2, i3⟩ := ih (if 0 < orP y m then y else m)
    have e : greatP m (y :: l) = greatP (if 0 < orP y m then y else m) l := rfl
    rw [e]
    by_cases h : 0 < orP y m
    · rw [if_pos h] at *
      refine ⟨Or.inr ?_, orP_trans (by rw [orP_swap]; omega) i2, fun x hx => ?_⟩
      · rcases i1 with i1 | i1
        · rw [i1]; simp
        · exact List.mem_cons_of_mem _ i1
      · rcases List.mem_cons.mp hx with rfl | hx
        · exact i2
        · exact i3 x hx
    · rw [if_neg h] at *
      refine ⟨?_, i2, fun x hx => ?_⟩
      · rcases i1 with i1 | i1
        · exact Or.inl i1
        · exact Or.inr (List.mem_cons_of_mem _ i1)
      · rcases List.mem_cons.mp hx with rfl | hx
        · exact orP_trans (by omega) i2
        · exact i3 x hx
/-- a place's point -/
def ptP (p : Int × Int) : Int × Int := (atW p.1, atW p.2)
/-- what meet answers: kind, proper, P, Q -/
def mtP (a b c d : Int × Int) : (Int × Bool) × (Int × Int) × (Int × Int) :=
  if prP a b c d then ((1, true), (0, 0), (0, 0))
  else match endsP a b c d with
    | [] => ((0, false), (0, 0), (0, 0))
    | m :: l => if leastP m l = greatP m l then ((1, false), ptP (leastP m l), (0, 0)) else ((2, false), ptP (leastP m l), ptP (greatP m l))
theorem mtP_proper {a b c d : Int × Int} (h : prP a b c d) : mtP a b c d = ((1, true), (0, 0), (0, 0)) := by unfold mtP; rw [if_pos h]
theorem mtP_none {a b c d : Int × Int} (h : endsP a b c d = [] ∧ ¬ prP a b c d) : mtP a b c d = ((0, false), (0, 0), (0, 0)) := by unfold mtP; rw [if_neg h.2, h.1]
theorem mtP_one {a b c d m : Int × Int} {l : List (Int × Int)} (h : ¬ prP a b c d) (he : endsP a b c d = m :: l) (hq : leastP m l = greatP m l) : mtP a b c d = ((1, false), ptP (leastP m l), (0, 0)) := by unfold mtP; rw [if_neg h, he]; simp only; rw [if_pos hq]
theorem mtP_many {a b c d m : Int × Int} {l : List (Int × Int)} (h : ¬ prP a b c d) (he : endsP a b c d = m :: l) (hq : leastP m l ≠ greatP m l) : mtP a b c d = ((2, false), ptP (leastP m l), ptP (greatP m l)) := by unfold mtP; rw [if_neg h, he]; simp only; rw [if_neg hq]
end Go.Proofs.YtienpliknhkbjaaGreatDoor

/- package seg: cmp.Compare, cmp.Or; order, between, point. -/
namespace Go.Proofs.YtienpliknhkbjaaGreatDoor
open Go.ChangeShapes Go.WideShapes Go.ChangeAt Go.RowKit
open Na Ar
set_option linter.unusedVariables false
theorem isNaNi_any (x : Int) (w : World) : Calls Tryz.prog 90 #[.int .i64 x] w fun e w' => e = .returned (.bool false) ∧ w = w' := by
  go_enter Tryz.func90, Tryz.ntmps90
  go_wp2
  go_ret
  exact ⟨by simp, rfl⟩
theorem cmpi_any (a b : Int) (w : World) : Calls Tryz.prog 53 #[.int .i64 a, .int .i64 b] w fun e w' => e = .returned (.int .i64 (ord a b)) ∧ w = w' := by
  have hn := isNaNi_any
  rcases ord_cases a b with ⟨h, e⟩ | ⟨h, e⟩ | ⟨h, e⟩
  · rw [e]
    go_enter Tryz.func53, Tryz.ntmps53
    go_wp2_with (go_at_call 90; refine (hn _ _).mono ?_; rintro e w' ⟨rfl, rfl⟩)
    go_ret
    exact ⟨rfl, rfl⟩
  · rw [e]
    have h1 : ¬ a < b := by omega
    have h2 : ¬ b < a := by omega
    clear h
    go_enter Tryz.func53, Tryz.ntmps53
    go_wp2_with (go_at_call 90; refine (hn _ _).mono ?_; rintro e w' ⟨rfl, rfl⟩)
    go_ret
    exact ⟨rfl, rfl⟩
  · rw [e]
    have h1 : ¬ a < b := by omega
    go_enter Tryz.func53, Tryz.ntmps53
    go_wp2_with (go_at_call 90; refine (hn _ _).mono ?_; rintro e w' ⟨rfl, rfl⟩)
    go_ret
    exact ⟨rfl, rfl⟩
/-- the first of two that is not 0 -/
def or2 (x y : Int) : Int := if x = 0 then y else x
theorem or2_any {w : World} {g : Nat} {x y : Int} (h0 : w.cell? ⟨g, 0, none⟩ = some (.int .i64 x)) (h1 : w.cell? ⟨g, 1, none⟩ = some (.int .i64 y)) :
    Calls Tryz.prog 106 #[.slice (some ⟨g, 0, none⟩) 2 2] w fun e w' => e = .returned (.int .i64 (or2 x y)) ∧ w = w' := by
  unfold or2
  by_cases hx : x = 0
  · subst hx
    rw [if_pos rfl]
    by_cases hy : y = 0
    · subst hy
      go_enter Tryz.func106, Tryz.ntmps106
      go_wp2
      refine wp_loop_rounds 3 ?_
      rw [rounds_succ]; go_wp2
      rw [rounds_succ]; go_wp2
      rw [rounds_succ]; go_wp2
      go_ret
      exact ⟨rfl, rfl⟩
    · have t : (y != 0) = true := by simp; exact hy
      go_enter Tryz.func106, Tryz.ntmps106
      go_wp2
      refine wp_loop_rounds 3 ?_
      rw [rounds_succ]; go_wp2
      rw [rounds_succ]; go_wp2
      go_ret
      exact ⟨rfl, rfl⟩
  · rw [if_neg hx]
    have t : (x != 0) = true := by simp; exact hx
    go_enter Tryz.func106, Tryz.ntmps106
    go_wp2
    refine wp_loop_rounds 3 ?_
    rw [rounds_succ]; go_wp2
    go_ret
    exact ⟨rfl, rfl⟩
theorem or2_new (w : World) (x y : Int) : Calls Tryz.prog 106 #[.slice (some ⟨w.heap.size, 0, none⟩) 2 2] (w.alloc (.cells #[.int .i64 x, .int .i64 y] 3)).drew fun e w' => e = .returned (.int .i64 (or2 x y)) ∧ Below w.heap.size w w' := by
  have p : Pb ((w.alloc (.cells #[.int .i64 x, .int .i64 y] 3)).drew) w.heap.size 3 #[.int .i64 x, .int .i64 y] := Pb.new w 3 #[.int .i64 x, .int .i64 y]
  refine (or2_any (p.cell 0 rfl) (p.cell 1 rfl)).mono ?_
  rintro e w' ⟨rfl, rfl⟩
  exact ⟨rfl, below_drewN (n := 1) (alloc_below _)⟩
set_option maxHeartbeats 3200000 in
set_option maxRecDepth 100000 in
theorem order23_any (p q : Int × Int) (w : World) :
    Calls Tryz.prog 73 #[.agg #[.int .i64 p.1, .int .i64 p.2], .agg #[.int .i64 q.1, .int .i64 q.2]] w fun e w' => e = .returned (.int .i64 (orP p q)) ∧ Below w.heap.size w w' := by
  obtain ⟨w0, hw0⟩ : ∃ w0, w0 = (w.alloc (.cells #[.int .i64 p.1, .int .i64 p.2] 78)).alloc (.cells #[.int .i64 q.1, .int .i64 q.2] 78) := ⟨_, rfl⟩
  obtain ⟨u1, u2, hb0⟩ : Pb w0 w.heap.size 78 #[.int .i64 p.1, .int .i64 p.2] ∧ Pb w0 (w.heap.size + 1) 78 #[.int .i64 q.1, .int .i64 q.2] ∧ Below w.heap.size w w0 := by
    subst hw0
    exact pb_two' _ _ _ _ _
  have HO : Hid (or2 (ord p.1 q.1) (ord p.2 q.2) = orP p q) := rfl
  generalize orP p q = R at *
  generalize p.1 = a at *
  generalize p.2 = b at *
  generalize q.1 = c at *
  generalize q.2 = d at *
  obtain ⟨g, hg⟩ : ∃ g, g = w.heap.size := ⟨_, rfl⟩
  have HG : Hid (w.heap.size = g) := hg.symm
  rw [← hg] at u1 u2 hb0
  have x0 := u1.cell 0 rfl
  have x1 := u1.cell 1 rfl
  have y0 := u2.cell 0 rfl
  have y1 := u2.cell 1 rfl
  have hc := compare6_any
  go_enter Tryz.func73, Tryz.ntmps73
  go_wp2_with fail
  rw [← hw0, ← hg]
  clear hw0 hg
  have hcl : ∀ w', Below w0.heap.size w0 w' → w'.cell? ⟨g, 0, none⟩ = some (.int .i64 a) ∧ w'.cell? ⟨g, 1, none⟩ = some (.int .i64 b) ∧ w'.cell? ⟨g + 1, 0, none⟩ = some (.int .i64 c) ∧ w'.cell? ⟨g + 1, 1, none⟩ = some (.int .i64 d) := fun w' h => ⟨(u1.later h).cell 0 rfl, (u1.later h).cell 1 rfl, (u2.later h).cell 0 rfl, (u2.later h).cell 1 rfl⟩
  go_region_held3 (fun w' => w'.cell? ⟨g, 0, none⟩ = some (.int .i64 a) ∧ w'.cell? ⟨g, 1, none⟩ = some (.int .i64 b) ∧ w'.cell? ⟨g + 1, 0, none⟩ = some (.int .i64 c) ∧ w'.cell? ⟨g + 1, 1, none⟩ = some (.int .i64 d)) (go_keep) (first | (go_at_call 107; refine (hc _ _ _).mono ?_; rintro e wX ⟨rfl, rfl⟩) | (go_at_call 106; refine (or2_new _ _ _).mono ?_; rintro e wX ⟨rfl, hbX⟩; obtain ⟨x0, x1, y0, y1⟩ := hcl wX hbX))
  go_wp2
  go_ret
  rw [HG.out]
  have hz : g ≤ w0.heap.size := by have := hb0.size; rw [HG.out] at this; exact this
  exact ⟨by rw [HO.out]; rfl, hb0.trans (hbX.mono hz)⟩
end Go.Proofs.YtienpliknhkbjaaGreatDoor

/- package seg: point, spans, between, apart. -/
namespace Go.Proofs.YtienpliknhkbjaaGreatDoor
open Go.ChangeShapes Go.WideShapes Go.ChangeAt Go.RowKit
open Na Ar
set_option linter.unusedVariables false
set_option maxHeartbeats 3200000 in
set_option maxRecDepth 100000 in
theorem point23_any (p : Int × Int) (w : World) :
    Calls Tryz.prog 75 #[.agg #[.int .i64 p.1, .int .i64 p.2]] w fun e w' => e = .returned (.agg #[.int .u64 (atW p.1), .int .u64 (atW p.2)]) ∧ Below w.heap.size w w' := by
  obtain ⟨w0, hw0⟩ : ∃ w0, w0 = (w.alloc (.cells #[.int .i64 p.1, .int .i64 p.2] 78)).alloc (.cells #[.int .u64 0, .int .u64 0] 24) := ⟨_, rfl⟩
  obtain ⟨u1, u2, hb0⟩ : Pb w0 w.heap.size 78 #[.int .i64 p.1, .int .i64 p.2] ∧ Pb w0 (w.heap.size + 1) 24 #[.int .u64 0, .int .u64 0] ∧ Below w.heap.size w w0 := by
    subst hw0
    exact pb_two' _ _ _ _ _
  have c1 := f6At_any p.1
  have c2 := f6At_any p.2
  generalize atW p.1 = X at *
  generalize atW p.2 = Y at *
  generalize atE p.1 = e1 at *
  generalize atE p.2 = e2 at *
  generalize p.1 = a at *
  generalize p.2 = b at *
  have x0 := u1.cell 0 rfl
  have x1 := u1.cell 1 rfl
  have y0 := u2.cell 0 rfl
  have y1 := u2.cell 1 rfl
  have f0 := u2.frozen 0
  have f1 := u2.frozen 1
  obtain ⟨g, hg⟩ : ∃ g, g = w.heap.size := ⟨_, rfl⟩
  have HG : Hid (w.heap.size = g) := hg.symm
  rw [← hg] at u1 u2 hb0 x0 x1 y0 y1 f0 f1
  go_enter Tryz.func75, Tryz.ntmps75
  go_wp2_with fail
  rw [← hw0, ← hg]
  clear hw0 hg
  refine (c1 _).mono ?_
  rintro e w' ⟨rfl, rfl⟩
  go_wp2_with fail
  refine (c2 _).mono ?_
  rintro e w' ⟨rfl, rfl⟩
  go_wp2
  have T9 := ((u2.set 0 (.int .u64 X)).set 1 (.int .u64 Y))
  have I9 : In (g + 1) (g + 1 + 1) w0 ((w0.setCell ⟨g + 1, 0, none⟩ (.int .u64 X)).setCell ⟨g + 1, 1, none⟩ (.int .u64 Y)) := ((In.refl (g + 1) (g + 1 + 1) w0).set1 0 _).set1 1 _
  have t0 := T9.cell 0 (v := .int .u64 X) (by simp)
  have t1 := T9.cell 1 (v := .int .u64 Y) (by simp)
  refine bodyPost_ret (v := .agg #[.int .u64 X, .int .u64 Y]) (by simp [results, Tryz.results75, go_sem, t0, t1]) rfl ?_
  rw [HG.out]
  exact ⟨rfl, below_in hb0 I9 (by omega) (Nat.le_of_eq HG.out.symm)⟩
theorem point23_at {w w0 : World} (p : Int × Int) (h : Below w0.heap.size w0 w) :
    Calls Tryz.prog 75 #[.agg #[.int .i64 p.1, .int .i64 p.2]] w fun e w' => e = .returned (.agg #[.int .u64 (atW p.1), .int .u64 (atW p.2)]) ∧ Below w0.heap.size w0 w' := by
  refine (point23_any p w).mono ?_
  rintro e w' ⟨rfl, hb⟩
  exact ⟨rfl, h.trans (hb.mono h.size)⟩
theorem order23_at {w w0 : World} (p q : Int × Int) (h : Below w0.heap.size w0 w) :
    Calls Tryz.prog 73 #[.agg #[.int .i64 p.1, .int .i64 p.2], .agg #[.int .i64 q.1, .int .i64 q.2]] w fun e w' => e = .returned (.int .i64 (orP p q)) ∧ Below w0.heap.size w0 w' := by
  refine (order23_any p q w).mono ?_
  rintro e w' ⟨rfl, hb⟩
  exact ⟨rfl, h.trans (hb.mono h.size)⟩
/-- four cells, two cells -/
theorem Pb.four {w : World} {g : Nat} {t : TypeId} {x0 x1 x2 x3 : Value} (h : Pb w g t #[x0, x1, x2, x3]) : w.cell? ⟨g, 0, none⟩ = some x0 ∧ w.cell? ⟨g, 1, none⟩ = some x1 ∧ w.cell? ⟨g, 2, none⟩ = some x2 ∧ w.cell? ⟨g, 3, none⟩ = some x3 := ⟨h.cell 0 rfl, h.cell 1 rfl, h.cell 2 rfl, h.cell 3 rfl⟩
theorem Pb.two {w : World} {g : Nat} {t : TypeId} {x0 x1 : Value} (h : Pb w g t #[x0, x1]) : w.cell? ⟨g, 0, none⟩ = some x0 ∧ w.cell? ⟨g, 1, none⟩ = some x1 := ⟨h.cell 0 rfl, h.cell 1 rfl⟩
set_option maxHeartbeats 3200000 in
set_option maxRecDepth 100000 in
theorem spans23_any (a b p : Int × Int) (w : World) :
    Calls Tryz.prog 71 #[.agg #[.int .i64 a.1, .int .i64 a.2, .int .i64 b.1, .int .i64 b.2], .agg #[.int .i64 p.1, .int .i64 p.2]] w fun e w' => e = .returned (.bool (spP a b p)) ∧ Below w.heap.size w w' := by
  obtain ⟨w0, hw0⟩ : ∃ w0, w0 = (w.alloc (.cells #[.int .i64 a.1, .int .i64 a.2, .int .i64 b.1, .int .i64 b.2] 80)).alloc (.cells #[.int .i64 p.1, .int .i64 p.2] 78) := ⟨_, rfl⟩
  obtain ⟨u1, u2, hb0⟩ : Pb w0 w.heap.size 80 #[.int .i64 a.1, .int .i64 a.2, .int .i64 b.1, .int .i64 b.2] ∧ Pb w0 (w.heap.size + 1) 78 #[.int .i64 p.1, .int .i64 p.2] ∧ Below w.heap.size w w0 := by
    subst hw0
    exact pb_two' _ _ _ _ _
  have c1 := fun w' h => order23_at (w0 := w0) (w := w') a p h
  have c2 := fun w' h => order23_at (w0 := w0) (w := w') p b h
  unfold spP
  generalize orP a p = X at *
  generalize orP p b = Y at *
  obtain ⟨x0, x1, x2, x3⟩ := u1.four
  obtain ⟨y0, y1⟩ := u2.two
  obtain ⟨g, hg⟩ : ∃ g, g = w.heap.size := ⟨_, rfl⟩
  have HG : Hid (w.heap.size = g) := hg.symm
  rw [← hg] at u1 u2 hb0 x0 x1 x2 x3 y0 y1
  by_cases hX : X ≤ 0
  · have HE : Hid ((decide (X ≤ 0) && decide (Y ≤ 0)) = decide (Y ≤ 0)) := by show _ = _; rw [decide_eq_true hX, Bool.true_and]
    rw [HE.out]
    go_enter Tryz.func71, Tryz.ntmps71
    go_wp2_with fail
    rw [← hw0, ← hg]
    clear hw0 hg
    refine (c1 _ (Below.refl _ _)).mono ?_
    rintro e wA ⟨rfl, hbA⟩
    obtain ⟨x0, x1, x2, x3⟩ := (u1.later hbA).four
    obtain ⟨y0, y1⟩ := (u2.later hbA).two
    have cc := c2 wA hbA
    clear c1 c2 u1 u2
    go_wp2_with fail
    refine cc.mono ?_
    rintro e wB ⟨rfl, hbB⟩
    go_wp2
    go_ret
    rw [HG.out]
    exact ⟨rfl, hb0.trans (hbB.mono (by have := hb0.size; rw [HG.out] at this; exact this))⟩
  · have HE : Hid ((decide (X ≤ 0) && decide (Y ≤ 0)) = false) := by show _ = _; rw [decide_eq_false hX, Bool.false_and]
    rw [HE.out]
    go_enter Tryz.func71, Tryz.ntmps71
    go_wp2_with fail
    rw [← hw0, ← hg]
    clear hw0 hg
    refine (c1 _ (Below.refl _ _)).mono ?_
    rintro e wA ⟨rfl, hbA⟩
    clear c1 c2 u1 u2
    go_wp2
    go_ret
    rw [HG.out]
    exact ⟨rfl, hb0.trans (hbA.mono (by have := hb0.size; rw [HG.out] at this; exact this))⟩
/-- the stretch between two places -/
def loP (p q : Int × Int) : Int × Int := if 0 < orP p q then q else p
def hiP (p q : Int × Int) : Int × Int := if 0 < orP p q then p else q
set_option maxHeartbeats 3200000 in
set_option maxRecDepth 100000 in
theorem between23_any (p q : Int × Int) (w : World) :
    Calls Tryz.prog 36 #[.agg #[.int .i64 p.1, .int .i64 p.2], .agg #[.int .i64 q.1, .int .i64 q.2]] w fun e w' => e = .returned (.agg #[.int .i64 (loP p q).1, .int .i64 (loP p q).2, .int .i64 (hiP p q).1, .int .i64 (hiP p q).2]) ∧ Below w.heap.size w w' := by
  obtain ⟨w0, hw0⟩ : ∃ w0, w0 = ((w.alloc (.cells #[.int .i64 p.1, .int .i64 p.2] 78)).alloc (.cells #[.int .i64 q.1, .int .i64 q.2] 78)).alloc (.cells #[.int .i64 0, .int .i64 0, .int .i64 0, .int .i64 0] 80) := ⟨_, rfl⟩
  obtain ⟨u1, u2, u3, hb0, _⟩ : Pb w0 w.heap.size 78 #[.int .i64 p.1, .int .i64 p.2] ∧ Pb w0 (w.heap.size + 1) 78 #[.int .i64 q.1, .int .i64 q.2] ∧ Pb w0 (w.heap.size + 1 + 1) 80 #[.int .i64 0, .int .i64 0, .int .i64 0, .int .i64 0] ∧ Below w.heap.size w w0 ∧ w0.heap.size = w.heap.size + 1 + 1 + 1 := by
    subst hw0
    exact pb_three _ _ _ _ _
  have c1 := order23_at (w0 := w0) (w := w0) p q (Below.refl _ _)
  unfold loP hiP
  generalize orP p q = X at *
  obtain ⟨g, hg⟩ : ∃ g, g = w.heap.size := ⟨_, rfl⟩
  have HG : Hid (w.heap.size = g) := hg.symm
  rw [← hg] at u1 u2 u3 hb0
  have t9 : ∀ (w1 : World) (r s : Int × Int), Pb w1 (g + 1 + 1) 80 #[.int .i64 0, .int .i64 0, .int .i64 0, .int .i64 0] → Pb ((((w1.setCell ⟨g + 1 + 1, 0, none⟩ (.int .i64 r.1)).setCell ⟨g + 1 + 1, 1, none⟩ (.int .i64 r.2)).setCell ⟨g + 1 + 1, 2, none⟩ (.int .i64 s.1)).setCell ⟨g + 1 + 1, 3, none⟩ (.int .i64 s.2)) (g + 1 + 1) 80 #[.int .i64 r.1, .int .i64 r.2, .int .i64 s.1, .int .i64 s.2] := fun w1 r s h => (((h.set 0 (.int .i64 r.1)).set 1 (.int .i64 r.2)).set 2 (.int .i64 s.1)).set 3 (.int .i64 s.2)
  have i9 : ∀ (w1 : World) (r s : Int × Int), In (g + 1 + 1) (g + 1 + 1 + 1) w1 ((((w1.setCell ⟨g + 1 + 1, 0, none⟩ (.int .i64 r.1)).setCell ⟨g + 1 + 1, 1, none⟩ (.int .i64 r.2)).setCell ⟨g + 1 + 1, 2, none⟩ (.int .i64 s.1)).setCell ⟨g + 1 + 1, 3, none⟩ (.int .i64 s.2)) := fun w1 r s => ((((In.refl _ _ w1).set1 0 _).set1 1 _).set1 2 _).set1 3 _
  by_cases hX : 0 < X
  · rw [if_pos hX, if_pos hX]
    go_enter Tryz.func36, Tryz.ntmps36
    obtain ⟨x0, x1⟩ := u1.two
    obtain ⟨y0, y1⟩ := u2.two
    go_wp2_with fail
    rw [← hw0, ← hg]
    clear hw0 hg
    refine c1.mono ?_
    rintro e wA ⟨rfl, hbA⟩
    obtain ⟨x0, x1⟩ := (u1.later hbA).two
    obtain ⟨y0, y1⟩ := (u2.later hbA).two
    have u4 := u3.later hbA
    obtain ⟨z0, z1, z2, z3⟩ := u4.four
    have f0 := u4.frozen 0
    have f1 := u4.frozen 1
    have f2 := u4.frozen 2
    have f3 := u4.frozen 3
    have HB : Hid (Below g w wA) := hb0.trans (hbA.mono (by have := hb0.size; rw [HG.out] at this; exact this))
    have HU : Hid _ := u4
    have HT : Hid _ := t9
    have HI : Hid _ := i9
    clear c1 hb0 hbA u1 u2 u3 u4 t9 i9
    go_wp2
    obtain ⟨r0, r1, r2, r3⟩ := (HT.out wA q p HU.out).four
    refine bodyPost_ret (v := .agg #[.int .i64 q.1, .int .i64 q.2, .int .i64 p.1, .int .i64 p.2]) (by simp [results, Tryz.results36, go_sem, r0, r1, r2, r3]) rfl ?_
    rw [HG.out]
    exact ⟨rfl, below_in HB.out (HI.out wA q p) (by omega) (Nat.le_of_eq HG.out.symm)⟩
  · rw [if_neg hX, if_neg hX]
    go_enter Tryz.func36, Tryz.ntmps36
    obtain ⟨x0, x1⟩ := u1.two
    obtain ⟨y0, y1⟩ := u2.two
    go_wp2_with fail
    rw [← hw0, ← hg]
    clear hw0 hg
    refine c1.mono ?_
    rintro e wA ⟨rfl, hbA⟩
    obtain ⟨x0, x1⟩ := (u1.later hbA).two
    obtain ⟨y0, y1⟩ := (u2.later hbA).two
    have u4 := u3.later hbA
    obtain ⟨z0, z1, z2, z3⟩ := u4.four
    have f0 := u4.frozen 0
    have f1 := u4.frozen 1
    have f2 := u4.frozen 2
    have f3 := u4.frozen 3
    have HB : Hid (Below g w wA) := hb0.trans (hbA.mono (by have := hb0.size; rw [HG.out] at this; exact this))
    have HU : Hid _ := u4
    have HT : Hid _ := t9
    have HI : Hid _ := i9
    clear c1 hb0 hbA u1 u2 u3 u4 t9 i9
    go_wp2
    obtain ⟨r0, r1, r2, r3⟩ := (HT.out wA p q HU.out).four
    refine bodyPost_ret (v := .agg #[.int .i64 p.1, .int .i64 p.2, .int .i64 q.1, .int .i64 q.2]) (by simp [results, Tryz.results36, go_sem, r0, r1, r2, r3]) rfl ?_
    rw [HG.out]
    exact ⟨rfl, below_in HB.out (HI.out wA p q) (by omega) (Nat.le_of_eq HG.out.symm)⟩
theorem loP_ok {p q : Int × Int} (hp : pOk p) (hq : pOk q) : pOk (loP p q) ∧ pOk (hiP p q) ∧ orP (loP p q) (hiP p q) ≤ 0 := by
  unfold loP hiP
  by_cases h : 0 < orP p q
  · rw [if_pos h, if_pos h]; exact ⟨hq, hp, by rw [orP_swap]; omega⟩
  · rw [if_neg h, if_neg h]; exact ⟨hp, hq, by omega⟩
instance (a b c d : Int × Int) : Decidable (apP a b c d) := inferInstanceAs (Decidable (_ ∨ _))
end Go.Proofs.YtienpliknhkbjaaGreatDoor


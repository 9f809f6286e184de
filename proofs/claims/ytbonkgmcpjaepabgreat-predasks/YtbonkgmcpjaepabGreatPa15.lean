import Derived.WalkKit
import Derived.ProofKit
import Derived.OpenShut
import Derived.ShutString
import Derived.ChangeOld
import Derived.Deep.RegionHeld3
import Derived.Deep.QuietTactic
import Derived.BigQuiet
import Derived.Below
import Derived.Deep.DeepCutAuto
import Derived.Deep.DeepFit
import Derived.Deep.LoopGhost
import Derived.Deep.RegionWith
import Derived.Defers
import Derived.KernelRfl
import Derived.Laws.BitsAllLaws
import Derived.Laws.CopyRow
import Derived.Laws.EntriesVeiled
import Derived.Laws.IdiomCopy
import Derived.Laws.IdiomRangeMap
import Derived.Orders
import Derived.OwnWalk
import Derived.Recover
import Derived.Scope
import Derived.WalkLawsBesides
import Derived.WalkMore
import Derived.WalkSpells
import Derived.Test.YtbonkgmcpjaepabGreatPa1
import Derived.Test.YtbonkgmcpjaepabGreatPa9
import Derived.Test.YtbonkgmcpjaepabGreatPa10
import Derived.Test.YtbonkgmcpjaepabGreatPa14
/- plumblaw07: exact. -/
namespace Go.Proofs.YtbonkgmcpjaepabGreat
open Go.ChangeShapes Go.WideShapes Go.ChangeAt Go.RowKit
open Na Ar
set_option linter.unusedVariables false
theorem GrVar.inn {w w' : World} {g : Nat} (h : GrVar w) (hi : In g (g + 1) w w') (hne : ¬ 0 = g) : GrVar w' := by
  have hl := h.lt
  have hbk := hi.block 0 hl (by omega)
  have hc : ∀ i, w'.cell? ⟨0, i, none⟩ = w.cell? ⟨0, i, none⟩ := fun i => by unfold World.cell?; simp only [hbk]
  unfold GrVar at *
  simp only [hc]
  exact h
end Go.Proofs.YtbonkgmcpjaepabGreat

/- plumblaw07: size, value, above. -/
namespace Go.Proofs.YtbonkgmcpjaepabGreat
open Go.ChangeShapes Go.WideShapes Go.ChangeAt Go.RowKit
open Na Ar
set_option linter.unusedVariables false
section
variable {w : World} {s1 : Bool} {a1 b1 : Option Addr} {n1 c1 m1 d1 : Nat} {k : Nat}
/-- a pattern's number -/
def valR (b : Int) : Rat := mkR (spS b) (spM b * e2 (spX b)) (e2 (-(spX b)))
theorem valR_num {b : Int} (h : U b) (hf : ef b ≠ 2047) : valR b = mkR (spS b) (numW b) (e2 1074) := by
  obtain ⟨p, e1, e2', e3, e4, e5, e6, e7⟩ := num_parts h hf
  unfold valR
  have hx : -1074 ≤ spX b := by omega
  rw [mk_eq (Int.mul_nonneg e3 (Int.le_of_lt (e2_pos _))) (e2_pos _) (by rw [e7]; exact Int.mul_nonneg e3 (Int.le_of_lt (p2pos _))) (e2_pos _)]
  have key : spM b * e2 (spX b) * e2 1074 = numW b * e2 (-(spX b)) := by
    rw [e7, ← e2_nat p, ← e1]
    by_cases hx0 : 0 ≤ spX b
    · rw [e2_zero (k := -(spX b)) (by omega), Int.mul_one, Int.mul_assoc, ← e2_add hx0 (by omega)]
    · rw [e2_zero (k := spX b) (by omega), Int.mul_one, Int.mul_assoc, ← e2_add (by omega) (by omega)]
      congr 2; omega
  have sgm : ∀ s x y, sg s x * y = sg s (x * y) := fun s x y => by unfold sg; split <;> simp [Int.neg_mul]
  rw [sgm, sgm, key]
theorem value_size {b : Int} (h : U b) (hf : ef b ≠ 2047) : Sz (valR b) 20 := by
  obtain ⟨p, e1, e2', e3, e4, e5, e6, e7⟩ := num_parts h hf
  unfold valR
  have l1 : Lt (spM b * e2 (spX b)) 20 := ((Lt.word (x := spM b) ⟨e3, by omega⟩).pow2 (t := (spX b).toNat)).mono (by omega)
  have l2 : Lt (e2 (-(spX b))) 20 := by
    have := (Lt.word (x := 1) (by omega)).pow2 (t := (-(spX b)).toNat)
    rw [Int.one_mul] at this
    exact this.mono (by omega)
  exact Sz.mkR l1 l2 (e2_pos _)
end
end Go.Proofs.YtbonkgmcpjaepabGreat

/- package near: withoutTwos, binary, Value. -/
namespace Go.Proofs.YtbonkgmcpjaepabGreat
open Go.ChangeShapes Go.WideShapes Go.ChangeAt Go.RowKit
open Na Ar
set_option linter.unusedVariables false
namespace Na
theorem two_form {M : Int} (h : 0 < M) : ∃ (k : Nat) (o : Int), M = o * 2 ^ k ∧ o % 2 = 1 ∧ 0 < o ∧ zerosN M = k ∧ M / 2 ^ k = o := by
  obtain ⟨k, m, hk⟩ := odd_part M.toNat (by omega)
  have e : M = (2 * (m : Int) + 1) * 2 ^ k := by
    have a : M = ((2 ^ (k + 1) * m + 2 ^ k : Nat) : Int) := by omega
    rw [a, Int.natCast_add, Int.natCast_mul, p2cast, p2cast, Int.pow_succ]
    generalize (2 : Int) ^ k = P
    grind
  have p := p2pos k
  refine ⟨k, 2 * (m : Int) + 1, e, by omega, by omega, ?_, ?_⟩
  · unfold zerosN
    rw [hk, show 2 ^ (k + 1) * m + 2 ^ k = 2 ^ k * (2 * m + 1) by rw [Nat.pow_succ]; grind, ctz_pow]
  · rw [e]; exact Int.mul_ediv_cancel _ (by omega)
theorem odd_gcd {o : Int} (h : o % 2 = 1) (h0 : 0 < o) (x : Int) : Int.gcd (o * e2 x) (e2 (-x)) = 1 := by
  by_cases hx : 0 ≤ x
  · rw [e2_zero (show -x ≤ 0 by omega)]
    exact Int.gcd_one_right _
  · rw [e2_zero (show x ≤ 0 by omega), Int.mul_one]
    unfold e2
    obtain ⟨n, rfl⟩ : ∃ n : Nat, o = (n : Int) := ⟨o.toNat, by omega⟩
    have c : Nat.Coprime n (2 ^ (-x).toNat) := Nat.Coprime.pow_right _ (by
      rw [Nat.Coprime, Nat.gcd_comm, Nat.gcd_rec, show n % 2 = 1 by omega]; rfl)
    rw [← p2cast]
    exact c
/-- m times two to the x -/
def binQ (s : Bool) (m x : Int) : Rat := mkR s (m * e2 x) (e2 (-x))
theorem binQ_odd {o : Int} (h : o % 2 = 1) (h0 : 0 < o) (s : Bool) (x : Int) : ((binQ s o x).num.natAbs : Int) = o * e2 x ∧ ((binQ s o x).den : Int) = e2 (-x) ∧ decide ((binQ s o x).num < 0) = s := by
  have p1 := e2_pos x
  have p2 := e2_pos (-x)
  have pA : 0 < o * e2 x := Int.mul_pos h0 p1
  have g := odd_gcd h h0 x
  unfold binQ
  refine ⟨?_, ?_, ?_⟩
  · rw [rat_abs (by omega) p2, g]; simp
  · rw [rat_den (by omega) p2, g]; simp
  · rw [rat_neg (by omega) p2, g]
    simp
    intro _
    omega
theorem e2_step (X : Int) (k : Nat) : 2 ^ k * e2 X * e2 (-(X + k)) = e2 (X + k) * e2 (-X) := by
  rw [← e2_nat]
  by_cases h0 : 0 ≤ X
  · rw [e2_zero (show -(X + k) ≤ 0 by omega), e2_zero (show -X ≤ 0 by omega), e2_add h0 (by omega)]
    generalize e2 X = a
    generalize e2 (k : Int) = b
    grind
  · by_cases h1 : 0 ≤ X + k
    · rw [e2_zero (show X ≤ 0 by omega), e2_zero (show -(X + k) ≤ 0 by omega), show (k : Int) = (X + k) + (-X) by omega, e2_add (by omega) (by omega)]
      rw [show X + (X + ↑k + -X) = X + k by omega]
      generalize e2 (X + k) = a
      generalize e2 (-X) = b
      grind
    · rw [e2_zero (show X ≤ 0 by omega), e2_zero (show X + k ≤ 0 by omega), show -X = (k : Int) + -(X + k) by omega, e2_add (by omega) (by omega)]
      generalize e2 (k : Int) = a
      generalize e2 (-(X + k)) = b
      grind
theorem binQ_move (s : Bool) {o : Int} (h0 : 0 ≤ o) (k : Nat) (x : Int) : binQ s (o * 2 ^ k) x = binQ s o (x + k) := by
  unfold binQ
  have p1 := e2_pos x
  have p2 := e2_pos (-x)
  have p3 := e2_pos (x + k)
  have p4 := e2_pos (-(x + k))
  have p := p2pos k
  rw [mk_eq (Int.mul_nonneg (Int.mul_nonneg h0 (by omega)) (by omega)) p2 (Int.mul_nonneg h0 (by omega)) p4]
  have e := e2_step x k
  have q : o * 2 ^ k * e2 x * e2 (-(x + k)) = o * e2 (x + k) * e2 (-x) := by
    rw [Int.mul_assoc, Int.mul_assoc, ← Int.mul_assoc (2 ^ k), e, Int.mul_assoc]
  unfold sg
  cases s
  · exact q
  · simp only [if_true]
    rw [Int.neg_mul, Int.neg_mul, q]
theorem binQ_zero (s : Bool) (x : Int) : binQ s 0 x = ((0 : Int) : Rat) := by
  unfold binQ mkR sg
  rw [Int.zero_mul]
  cases s <;> simp
theorem binQ_val (b : Int) : valR b = binQ (spS b) (spM b) (spX b) := rfl
end Na
section
variable {w : World} {a b : Option Addr} {n m c1 c2 : Nat} {xs ys : List Int} {A : Int} {k : Nat}
theorem shlO (hr1 : RowC w a n c1 xs) (h1 : Nm xs A) {t : Nat} {T : Int} (hT : T = t) (ht : t ≤ 400000000) (hL : Lt (A * 2 ^ t) k) (hk : k ≤ 4096) :
    Calls Tryz.prog 106 #[.slice a n c1, .int .i64 T] w fun e w' => ∃ v, e = .returned (.tuple #[v, .int .i64 0]) ∧ Own .u64 w' w.heap.size 32 v (words (A * 2 ^ t)) ∧ Below w.heap.size w w' := by
  subst hT
  have l1 := hr1.1.1
  have h := natShl_any hr1 h1.ws (by have := h1.len; omega) (t : Int) (by omega)
  have e1 : shlE A (t : Int) = 0 := by unfold shlE; rw [if_neg (by omega)]; simp; exact (hL.fits hk).2
  have e2 : shlL A (t : Int) = words (A * 2 ^ t) := by unfold shlL; rw [if_neg (by omega)]; simp; exact (hL.fits hk).1
  rw [h1.num, e1, e2] at h
  exact h
theorem twos_any {K : Nat} {o : Int} (hr1 : RowC w a n c1 xs) (h1 : Nm xs A) (hL : Lt A k) (hk : k ≤ 4096) (hz : zerosN A = K) (hK : K ≤ 400000000) (ho : A / 2 ^ K = o) :
    Calls Tryz.prog 104 #[.slice a n c1] w fun e w' => ∃ a' n' c' l', e = .returned (.tuple #[.slice a' n' c', .int .i64 (K : Int)]) ∧ RowC w' a' n' c' l' ∧ Nm l' o ∧ Below w.heap.size w w' := by
  have hZ := natZeros_any hr1 h1.ws (by have := h1.len; have := hr1.1.1; omega)
  rw [h1.num, hz] at hZ
  have hS := fun w' (hb : Below w.heap.size w w') => shrQ (S := decide (A % 2 ^ K ≠ 0)) (hr1.later hb) h1 K hK hL hk rfl
  rw [ho] at hS
  generalize decide (A % 2 ^ K ≠ 0) = S at hS
  clear hz ho
  go_enter Tryz.func104, Tryz.ntmps104
  go_wp2_with fail
  refine hZ.mono ?_
  rintro e w1 ⟨rfl, hb1⟩
  go_wp2_with fail
  refine (hS _ hb1).mono ?_
  rintro e w2 ⟨a', n', c', l', rfl, r, nm, _, hb⟩
  have hB := hb1.trans (hb.mono hb1.size)
  clear hZ hS
  go_wp2
  go_ret2
  exact ⟨a', n', c', l', rfl, r, nm, hB⟩
end
theorem bin_rto {w : World} {base : Nat} {v1 v2 : Value} {neg : Bool} {o x : Int} {t1 t2 : Nat} (h : o % 2 = 1) (h0 : 0 < o) (e1 : e2 x = 2 ^ t1) (e3 : e2 (-x) = 2 ^ t2) (o1 : Own .u64 w base 32 v1 (words (o * 2 ^ t1))) (o2 : Own .u64 w base 32 v2 (words (1 * 2 ^ t2))) (ap : Apart v1 v2) :
    RtO w base neg v1 v2 (binQ neg o x) := by
  obtain ⟨a1, a2, a3⟩ := binQ_odd h h0 neg x
  refine ⟨a3.symm, ?_, ?_, ap⟩
  · rw [a1, e1]; exact o1
  · rw [a2, e3, ← Int.one_mul (2 ^ t2)]; exact o2
set_option maxHeartbeats 3200000 in
set_option maxRecDepth 100000 in
theorem binary_any {neg : Bool} {m x : Int} (hm : U m) (hx0 : -1100 ≤ x) (hx1 : x ≤ 1100) (w : World) :
    Calls Tryz.prog 82 #[.bool neg, .int .u64 m, .int .i64 x] w fun e w' => ∃ s v1 v2, e = .returned (.agg #[.bool s, v1, v2]) ∧ RtO w' w.heap.size s v1 v2 (binQ neg m x) ∧ Below w.heap.size w w' := by
  have t0 := st_new w (.bool false) (.slice none 0 0) (.slice none 0 0) 43
  have HB0 := alloc_below (w := w) (.cells #[.bool false, .slice none 0 0, .slice none 0 0] 43)
  have e0 : w.heap.size + 1 ≤ (w.alloc (.cells #[.bool false, .slice none 0 0, .slice none 0 0] 43)).heap.size := by simp
  obtain ⟨g, hg⟩ : ∃ g, g = w.heap.size := ⟨_, rfl⟩
  have HG : Hid (w.heap.size = g) := hg.symm
  rw [← hg] at t0 e0
  by_cases hz : m = 0
  · have d1 : (m == 0) = true := beq_of hz
    have HQ : Hid (binQ neg m x = ((0 : Int) : Rat)) := by show _ = _; rw [hz, binQ_zero]
    have hI := fun w => rInt_any (v := 0) (by omega) (by omega) w
    clear hz
    go_enter Tryz.func82, Tryz.ntmps82
    go_wp2_with fail
    rw [← hg]
    generalize w.alloc (.cells #[.bool false, .slice none 0 0, .slice none 0 0] 43) = w0 at *
    clear hg
    refine (hI _).mono ?_
    rintro e w1 ⟨s9, v1, v2, rfl, hR, hb1⟩
    obtain ⟨a9, n9, c9, b9, m9, d9, rfl, rfl, _⟩ := hR.opens
    have t1 := t0.later hb1
    have HB1 := HB0.trans (hb1.mono HB0.size)
    obtain ⟨x0, x1, x2⟩ := t1.cells
    obtain ⟨z0, z1, z2⟩ := t1.frozen
    clear hI t0 HB0
    go_wp2
    have i9 := in3 w1 g (.bool s9) (.slice a9 n9 c9) (.slice b9 m9 d9)
    have T9 := t1.set (.bool s9) (.slice a9 n9 c9) (.slice b9 m9 d9)
    have R9 := ((hR.lower (base' := g + 1) (by omega)).inn i9 (by omega)).lower (base' := w.heap.size) (by rw [HG.out]; omega)
    have B9 := below_in HB1 i9 (by rw [HG.out]; omega) (Nat.le_refl _)
    obtain ⟨j0, j1, j2⟩ := T9.cells
    refine bodyPost_ret (v := .agg #[.bool s9, .slice a9 n9 c9, .slice b9 m9 d9]) (by simp [results, Tryz.results82, go_sem, j0, j1, j2]) rfl ?_
    exact ⟨_, _, _, rfl, by rw [HQ.out]; exact R9, B9⟩
  · have d1 : (m == 0) = false := beq_no hz
    obtain ⟨K, o, hmo, ho2, ho0, hzn, hdv⟩ := two_form (M := m) (by have := hm.1; omega)
    have hK : K ≤ 63 := by
      apply Decidable.byContradiction
      intro q
      have a : (2 : Int) ^ 64 ≤ 2 ^ K := p2mono (by omega)
      have b : 1 * 2 ^ K ≤ o * 2 ^ K := Int.mul_le_mul_of_nonneg_right (by omega) (Int.le_of_lt (p2pos K))
      have c := hm.2
      rw [show (2 : Int) ^ 64 = 18446744073709551616 by decide] at a
      omega
    have hol : o ≤ m := by
      have b : o * 1 ≤ o * 2 ^ K := Int.mul_le_mul_of_nonneg_left (by have := p2pos K; omega) (by omega)
      omega
    have HQ : Hid (binQ neg m x = binQ neg o (x + K)) := by show _ = _; rw [hmo]; exact binQ_move neg (by omega) K x
    obtain ⟨t1, T1, mx1, H1, E1, l1⟩ : ∃ (t1 : Nat) (T1 : Int), (if x + (K : Int) < 0 then 0 else x + (K : Int)) = T1 ∧ Hid (T1 = (t1 : Int)) ∧ e2 (x + K) = 2 ^ t1 ∧ t1 ≤ 1200 :=
      ⟨(x + K).toNat, _, rfl, (by show _ = _; split <;> omega), rfl, by omega⟩
    obtain ⟨t2, T2, mx2, H2, E2, l2⟩ : ∃ (t2 : Nat) (T2 : Int), (if -(x + (K : Int)) < 0 then 0 else -(x + (K : Int))) = T2 ∧ Hid (T2 = (t2 : Int)) ∧ e2 (-(x + K)) = 2 ^ t2 ∧ t2 ≤ 1200 :=
      ⟨(-(x + K)).toNat, _, rfl, (by show _ = _; split <;> omega), rfl, by omega⟩
    have mx3 : (if 0 < x + (K : Int) then 0 else -(x + (K : Int))) = T2 := by rw [← mx2]; split <;> split <;> omega
    have HE1 : Hid (e2 (x + K) = 2 ^ t1) := E1
    have HE2 : Hid (e2 (-(x + K)) = 2 ^ t2) := E2
    have lm := Lt.word hm
    have lo : Lt o 1 := lm.le (by omega) hol
    have l3 : Lt (o * 2 ^ t1) 30 := (lo.pow2 (t := t1)).mono (by omega)
    have l4 : Lt (1 * 2 ^ t2) 30 := (lt_one.pow2 (t := t2)).mono (by omega)
    have HZ : Hid (zerosN m = (K : Int)) := hzn
    have HD : Hid (m / 2 ^ K = o) := hdv
    have f1 := fun w => natFrom_any (v := m) hm w
    have f2 := fun w => natFrom_any (v := 1) (by omega) w
    clear hmo hzn hdv E1 E2 hz hol
    go_enter Tryz.func82, Tryz.ntmps82
    go_wp2_with fail
    rw [← hg]
    generalize w.alloc (.cells #[.bool false, .slice none 0 0, .slice none 0 0] 43) = w0 at *
    clear hg
    refine (f1 _).mono ?_
    rintro e w1 ⟨v, rfl, ov, hb⟩
    have s1 := t0.later hb
    have HB := HB0.trans (hb.mono HB0.size)
    obtain ⟨va, vn, vc, vl, rfl, rv, nv, _⟩ := ov.opens lm (by omega)
    clear ov hb t0 HB0 f1
    go_wp2_with fail
    refine (twos_any rv nv lm (by omega) HZ.out (by omega) HD.out).mono ?_
    rintro e w2 ⟨ua, un, uc, us, rfl, ru, nu, hb⟩
    have s1 := s1.later hb
    have HB := HB.trans (hb.mono HB.size)
    clear hb rv nv
    go_wp2_with fail
    refine (shlO ru nu H1.out (by omega) l3 (by omega)).mono ?_
    rintro e w3 ⟨v1, rfl, o1, hb⟩
    have sz := s1.lt
    have s1 := s1.later hb
    have HB := HB.trans (hb.mono HB.size)
    have sz2 := hb.size
    obtain ⟨pa, pc, rfl, rp⟩ := o1.readsC
    have o1 := o1.wider (base' := g + 1) (by omega)
    clear hb ru nu
    go_wp2_with fail
    refine (f2 _).mono ?_
    rintro e w4 ⟨v, rfl, ov, hb⟩
    have s1 := s1.later hb
    have HB := HB.trans (hb.mono HB.size)
    have o1' := o1
    have o1 := o1.later hb
    obtain ⟨va, vn, vc, vl, rfl, rv, nv, _⟩ := ov.opens lt_one (by omega)
    have sz3 := hb.size
    clear ov hb f2
    go_wp2_with fail
    refine (shlO rv nv H2.out (by omega) l4 (by omega)).mono ?_
    rintro e w5 ⟨v2, rfl, o2, hb⟩
    have s1 := s1.later hb
    have HB := HB.trans (hb.mono HB.size)
    have o1 := o1.later hb
    have ap := apart_later o1' o2 sz3
    obtain ⟨qa, qc, rfl, rq⟩ := o2.readsC
    have o2 := o2.wider (base' := g + 1) (by omega)
    have R := bin_rto (neg := neg) ho2 ho0 HE1.out HE2.out o1 o2 ap
    obtain ⟨x0, x1, x2⟩ := s1.cells
    obtain ⟨z0, z1, z2⟩ := s1.frozen
    clear hb rv nv o1 o2 o1' ap rp rq
    generalize (words (o * 2 ^ t1)).length = n9 at *
    generalize (words (1 * 2 ^ t2)).length = m9 at *
    go_wp2
    have i9 := in3 w5 g (.bool neg) (.slice pa n9 pc) (.slice qa m9 qc)
    have T9 := s1.set (.bool neg) (.slice pa n9 pc) (.slice qa m9 qc)
    have R9 := (R.inn i9 (by omega)).lower (base' := w.heap.size) (by rw [HG.out]; omega)
    have B9 := below_in HB i9 (by rw [HG.out]; omega) (Nat.le_refl _)
    obtain ⟨j0, j1, j2⟩ := T9.cells
    refine bodyPost_ret (v := .agg #[.bool neg, .slice pa n9 pc, .slice qa m9 qc]) (by simp [results, Tryz.results82, go_sem, j0, j1, j2]) rfl ?_
    exact ⟨_, _, _, rfl, by rw [HQ.out]; exact R9, B9⟩
end Go.Proofs.YtbonkgmcpjaepabGreat

/- package near: Value; what no number is; the statements' value of such a pattern; a pattern's own number, rounded. -/
namespace Go.Proofs.YtbonkgmcpjaepabGreat
open Go.ChangeShapes Go.WideShapes Go.ChangeAt Go.RowKit
open Na Ar
set_option linter.unusedVariables false
set_option maxHeartbeats 3200000 in
set_option maxRecDepth 100000 in
theorem nearValue_fin {b : Int} (hu : U b) (hf : ef b ≠ 2047) (w : World) :
    Calls Tryz.prog 50 #[.int .u64 b] w fun e w' => ∃ s v1 v2, e = .returned (.tuple #[.agg #[.bool s, v1, v2], .int .i64 0]) ∧ RtO w' w.heap.size s v1 v2 (valR b) ∧ Below w.heap.size w w' := by
  obtain ⟨p, e1, e2', e3, e4, e5, e6, e7⟩ := num_parts hu hf
  have hE : fiE b = 0 := by unfold fiE; rw [if_neg hf]
  have hSp := fun w => f6Split_any hu w
  rw [hE] at hSp
  have hBn := fun w => binary_any (neg := spS b) (m := spM b) (x := spX b) ⟨e3, by omega⟩ (by omega) (by omega) w
  rw [← binQ_val] at hBn
  have t0 := st_new w (.bool false) (.slice none 0 0) (.slice none 0 0) 43
  have HB0 := alloc_below (w := w) (.cells #[.bool false, .slice none 0 0, .slice none 0 0] 43)
  have e0 : w.heap.size + 1 ≤ (w.alloc (.cells #[.bool false, .slice none 0 0, .slice none 0 0] 43)).heap.size := by simp
  obtain ⟨g, hg⟩ : ∃ g, g = w.heap.size := ⟨_, rfl⟩
  have HG : Hid (w.heap.size = g) := hg.symm
  rw [← hg] at t0 e0
  generalize valR b = V at *
  generalize spS b = sS at *
  generalize spM b = sM at *
  generalize spX b = sX at *
  clear hE e1 e2' e3 e4 e5 e6 e7 hf
  go_enter Tryz.func50, Tryz.ntmps50
  go_wp2_with fail
  rw [← hg]
  generalize w.alloc (.cells #[.bool false, .slice none 0 0, .slice none 0 0] 43) = w0 at *
  clear hg
  refine (hSp _).mono ?_
  rintro e w1 ⟨rfl, rfl⟩
  go_wp2_with fail
  refine (hBn _).mono ?_
  rintro e w1 ⟨s9, v1, v2, rfl, hR, hb1⟩
  obtain ⟨a9, n9, c9, b9, m9, d9, rfl, rfl, _⟩ := hR.opens
  have t1 := t0.later hb1
  have HB1 := HB0.trans (hb1.mono HB0.size)
  obtain ⟨x0, x1, x2⟩ := t1.cells
  obtain ⟨z0, z1, z2⟩ := t1.frozen
  clear hSp hBn t0 HB0
  go_wp2
  have i9 := in3 w1 g (.bool s9) (.slice a9 n9 c9) (.slice b9 m9 d9)
  have T9 := t1.set (.bool s9) (.slice a9 n9 c9) (.slice b9 m9 d9)
  have R9 := ((hR.lower (base' := g + 1) (by omega)).inn i9 (by omega)).lower (base' := w.heap.size) (by rw [HG.out]; omega)
  have B9 := below_in HB1 i9 (by rw [HG.out]; omega) (Nat.le_refl _)
  obtain ⟨j0, j1, j2⟩ := T9.cells
  refine bodyPost_ret (v := .tuple #[.agg #[.bool s9, .slice a9 n9 c9, .slice b9 m9 d9], .int .i64 0]) (by simp [results, Tryz.results50, go_sem, j0, j1, j2]) rfl ?_
  exact ⟨_, _, _, rfl, R9, B9⟩
set_option maxHeartbeats 3200000 in
set_option maxRecDepth 100000 in
theorem nearValue_inf {b : Int} (hu : U b) (hf : ef b = 2047) (w : World) :
    Calls Tryz.prog 50 #[.int .u64 b] w fun e w' => e = .returned (.tuple #[.agg #[.bool false, .slice none 0 0, .slice none 0 0], .int .i64 60]) ∧ Below w.heap.size w w' := by
  have hE : fiE b = 60 := by unfold fiE; rw [if_pos hf]
  have hSp := fun w => f6Split_any hu w
  rw [hE] at hSp
  have HB0 := alloc_below (w := w) (.cells #[.bool false, .slice none 0 0, .slice none 0 0] 43)
  generalize spS b = sS at *
  generalize spM b = sM at *
  generalize spX b = sX at *
  clear hE hf
  go_enter Tryz.func50, Tryz.ntmps50
  go_wp2_with fail
  refine (hSp _).mono ?_
  rintro e w1 ⟨rfl, rfl⟩
  go_wp2
  refine bodyPost_ret (v := .tuple #[.agg #[.bool false, .slice none 0 0, .slice none 0 0], .int .i64 60]) (by simp [results, Tryz.results50, go_sem]) rfl ?_
  exact ⟨rfl, HB0⟩
namespace Na
end Na
section
variable {w : World} {s : Bool} {a b' : Option Addr} {n c m d : Nat}
end
end Go.Proofs.YtbonkgmcpjaepabGreat

/- package pred: a Rat's value in memory of its own; opposite, from. -/
namespace Go.Proofs.YtbonkgmcpjaepabGreat
open Go.ChangeShapes Go.WideShapes Go.ChangeAt Go.RowKit
open Na Ar
set_option linter.unusedVariables false
/-- a block of cells -/
def Pb (w : World) (g : Nat) (t : TypeId) (vs : Array Value) : Prop := w.heap[g]? = some (.cells vs t (0, 0))
theorem Pb.lt {w : World} {g : Nat} {t : TypeId} {vs : Array Value} (h : Pb w g t vs) : g < w.heap.size := by
  by_cases hlt : g < w.heap.size
  · exact hlt
  · unfold Pb at h; simp [Array.getElem?_eq_none (Nat.le_of_not_lt hlt)] at h
theorem Pb.later {w w' : World} {g : Nat} {t : TypeId} {vs : Array Value} (h : Pb w g t vs) (hb : Below w.heap.size w w') : Pb w' g t vs := by
  have := h.lt
  unfold Pb
  rw [hb.block g this]; exact h
theorem Pb.new (w : World) (t : TypeId) (vs : Array Value) : Pb (w.alloc (.cells vs t)) w.heap.size t vs := heap_alloc_new _ _
theorem Pb.cell {w : World} {g : Nat} {t : TypeId} {vs : Array Value} (h : Pb w g t vs) (i : Nat) {v : Value} (hv : vs[i]? = some v) : w.cell? ⟨g, i, none⟩ = some v := by
  unfold Pb at h
  simp [World.cell?, h, hv]
theorem Pb.frozen {w : World} {g : Nat} {t : TypeId} {vs : Array Value} (h : Pb w g t vs) (i : Nat) : w.frozen? ⟨g, i, none⟩ = false := by
  unfold Pb at h
  simp [World.frozen?, h]
theorem Pb.set {w : World} {g : Nat} {t : TypeId} {vs : Array Value} (h : Pb w g t vs) (i : Nat) (v : Value) : Pb (w.setCell ⟨g, i, none⟩ v) g t (vs.setIfInBounds i v) := set_block h
theorem Pb.inn {w w' : World} {g g' : Nat} {t : TypeId} {vs : Array Value} (h : Pb w g t vs) (hi : In g' (g' + 1) w w') (hne : g ≠ g') : Pb w' g t vs := by
  have := h.lt
  unfold Pb
  rw [hi.block g this (by omega)]; exact h
theorem Pb.six {w : World} {g : Nat} {t : TypeId} {x0 x1 x2 x3 x4 x5 : Value} (h : Pb w g t #[x0, x1, x2, x3, x4, x5]) :
    (w.cell? ⟨g, 0, none⟩ = some x0 ∧ w.cell? ⟨g, 1, none⟩ = some x1 ∧ w.cell? ⟨g, 2, none⟩ = some x2 ∧ w.cell? ⟨g, 3, none⟩ = some x3 ∧ w.cell? ⟨g, 4, none⟩ = some x4 ∧ w.cell? ⟨g, 5, none⟩ = some x5) ∧
    (w.frozen? ⟨g, 0, none⟩ = false ∧ w.frozen? ⟨g, 1, none⟩ = false ∧ w.frozen? ⟨g, 2, none⟩ = false ∧ w.frozen? ⟨g, 3, none⟩ = false ∧ w.frozen? ⟨g, 4, none⟩ = false ∧ w.frozen? ⟨g, 5, none⟩ = false) :=
  ⟨⟨h.cell 0 rfl, h.cell 1 rfl, h.cell 2 rfl, h.cell 3 rfl, h.cell 4 rfl, h.cell 5 rfl⟩, h.frozen 0, h.frozen 1, h.frozen 2, h.frozen 3, h.frozen 4, h.frozen 5⟩
theorem pb_tri {w : World} {g : Nat} {t : TypeId} {x0 x1 x2 : Value} (h : Pb w g t #[x0, x1, x2]) : w.cell? ⟨g, 0, none⟩ = some x0 ∧ w.cell? ⟨g, 1, none⟩ = some x1 ∧ w.cell? ⟨g, 2, none⟩ = some x2 :=
  ⟨h.cell 0 rfl, h.cell 1 rfl, h.cell 2 rfl⟩
theorem Pb.set6 {w : World} {g : Nat} {t : TypeId} {x0 x1 x2 x3 x4 x5 : Value} (h : Pb w g t #[x0, x1, x2, x3, x4, x5]) (a b c d e f : Value) :
    Pb ((((((w.setCell ⟨g, 0, none⟩ a).setCell ⟨g, 1, none⟩ b).setCell ⟨g, 2, none⟩ c).setCell ⟨g, 3, none⟩ d).setCell ⟨g, 4, none⟩ e).setCell ⟨g, 5, none⟩ f) g t #[a, b, c, d, e, f] :=
  (((((h.set 0 a).set 1 b).set 2 c).set 3 d).set 4 e).set 5 f
theorem in6p (w : World) (g : Nat) (a b c d e f : Value) : In g (g + 1) w ((((((w.setCell ⟨g, 0, none⟩ a).setCell ⟨g, 1, none⟩ b).setCell ⟨g, 2, none⟩ c).setCell ⟨g, 3, none⟩ d).setCell ⟨g, 4, none⟩ e).setCell ⟨g, 5, none⟩ f) :=
  ((((((In.refl g (g + 1) w).set1 0 _).set1 1 _).set1 2 _).set1 3 _).set1 4 _).set1 5 _
theorem RtO.rt22 {w : World} {base : Nat} {s : Bool} {a b : Option Addr} {n c m d : Nat} {q : Rat} (h : RtO w base s (.slice a n c) (.slice b m d) q) : Rt w s a n c b m d q := by
  obtain ⟨a', n', c', b', m', d', e1, e2, r⟩ := h.opens
  simp only [Value.slice.injEq] at e1 e2
  obtain ⟨rfl, rfl, rfl⟩ := e1
  obtain ⟨rfl, rfl, rfl⟩ := e2
  exact r
theorem neg_sgn {q : Rat} {s : Bool} (h : s = decide (q.num < 0)) : (!s && decide (q.num ≠ 0)) = decide ((-q).num < 0) := by
  subst h
  rw [Rat.neg_num]
  by_cases h : q.num < 0
  · rw [decide_eq_true h, decide_eq_false (show ¬ -q.num < 0 by omega)]; rfl
  · by_cases h0 : q.num = 0
    · rw [h0]; rfl
    · rw [decide_eq_false h, decide_eq_true (show -q.num < 0 by omega), decide_eq_true h0]; rfl
theorem Sz.neg {q : Rat} {k : Nat} (h : Sz q k) : Sz (-q) k := by
  obtain ⟨a, b⟩ := h
  exact ⟨by rw [Rat.neg_num, Int.natAbs_neg]; exact a, by rw [Rat.neg_den]; exact b⟩
theorem Rt.neg {w : World} {s : Bool} {a b : Option Addr} {n c m d : Nat} {q : Rat} (h : Rt w s a n c b m d q) : Rt w (!s && decide (q.num ≠ 0)) a n c b m d (-q) :=
  ⟨neg_sgn h.sgn, by rw [Rat.neg_num, Int.natAbs_neg]; exact h.nu, by rw [Rat.neg_den]; exact h.de⟩
theorem pb_three (w : World) (A B C : Array Value) (t : TypeId) {t2 t3 : TypeId} : Pb (((w.alloc (.cells A t)).alloc (.cells B t2)).alloc (.cells C t3)) w.heap.size t A ∧ Pb (((w.alloc (.cells A t)).alloc (.cells B t2)).alloc (.cells C t3)) (w.heap.size + 1) t2 B ∧ Pb (((w.alloc (.cells A t)).alloc (.cells B t2)).alloc (.cells C t3)) (w.heap.size + 1 + 1) t3 C ∧ Below w.heap.size w (((w.alloc (.cells A t)).alloc (.cells B t2)).alloc (.cells C t3)) ∧ (((w.alloc (.cells A t)).alloc (.cells B t2)).alloc (.cells C t3)).heap.size = w.heap.size + 1 + 1 + 1 := by
  have b1 := alloc_below (w := w) (.cells A t)
  have b2 := alloc_below (w := w.alloc (.cells A t)) (.cells B t2)
  have b3 := alloc_below (w := (w.alloc (.cells A t)).alloc (.cells B t2)) (.cells C t3)
  have e1 : (w.alloc (.cells A t)).heap.size = w.heap.size + 1 := by simp
  have e2 : ((w.alloc (.cells A t)).alloc (.cells B t2)).heap.size = w.heap.size + 1 + 1 := by simp
  have p1 := Pb.new w t A
  have p2 := Pb.new (w.alloc (.cells A t)) t2 B
  have p3 := Pb.new ((w.alloc (.cells A t)).alloc (.cells B t2)) t3 C
  rw [e1] at p2
  rw [e2] at p3
  exact ⟨(p1.later b2).later b3, p2.later b3, p3, b1.trans ((b2.trans (b3.mono b2.size)).mono b1.size), by simp⟩
theorem pb_two (w : World) (A : Array Value) (x y z : Value) (t : TypeId) {t' : TypeId} : Pb ((w.alloc (.cells A t')).alloc (.cells #[x, y, z] t)) w.heap.size t' A ∧ St ((w.alloc (.cells A t')).alloc (.cells #[x, y, z] t)) (w.heap.size + 1) t x y z ∧ Below w.heap.size w ((w.alloc (.cells A t')).alloc (.cells #[x, y, z] t)) ∧ ((w.alloc (.cells A t')).alloc (.cells #[x, y, z] t)).heap.size = w.heap.size + 1 + 1 := by
  have b1 := alloc_below (w := w) (.cells A t')
  have b2 := alloc_below (w := w.alloc (.cells A t')) (.cells #[x, y, z] t)
  have e1 : (w.alloc (.cells A t')).heap.size = w.heap.size + 1 := by simp
  have p1 := Pb.new w t' A
  have p2 := st_new (w.alloc (.cells A t')) x y z t
  rw [e1] at p2
  exact ⟨p1.later b2, p2, b1.trans (b2.mono b1.size), by simp⟩
theorem pb_two' (w : World) (A B : Array Value) (t : TypeId) (t' : TypeId) : Pb ((w.alloc (.cells A t)).alloc (.cells B t')) w.heap.size t A ∧ Pb ((w.alloc (.cells A t)).alloc (.cells B t')) (w.heap.size + 1) t' B ∧ Below w.heap.size w ((w.alloc (.cells A t)).alloc (.cells B t')) := by
  have b1 := alloc_below (w := w) (.cells A t)
  have b2 := alloc_below (w := w.alloc (.cells A t)) (.cells B t')
  have e1 : (w.alloc (.cells A t)).heap.size = w.heap.size + 1 := by simp
  have p1 := Pb.new w t A
  have p2 := Pb.new (w.alloc (.cells A t)) t' B
  rw [e1] at p2
  exact ⟨p1.later b2, p2, b1.trans (b2.mono b1.size)⟩
section
variable {w : World} {s1 s2 s3 s4 : Bool} {a1 b1 a2 b2 a3 b3 a4 b4 : Option Addr} {n1 c1 m1 d1 n2 c2 m2 d2 n3 c3 m3 d3 n4 c4 m4 d4 : Nat} {p q r t : Rat} {k l : Nat}
set_option maxHeartbeats 3200000 in
set_option maxRecDepth 100000 in
theorem opp22_any (h1 : Rt w s1 a1 n1 c1 b1 m1 d1 p) (hn : n1 ≤ 4000000) :
    Calls Tryz.prog 70 #[.agg #[.bool s1, .slice a1 n1 c1, .slice b1 m1 d1]] w fun e w' => e = .returned (.agg #[.bool (!s1 && decide (p.num ≠ 0)), .slice a1 n1 c1, .slice b1 m1 d1]) ∧ Below w.heap.size w w' := by
  obtain ⟨t1, t2, hb0⟩ := st_two w (.bool s1) (.slice a1 n1 c1) (.slice b1 m1 d1) (.bool false) (.slice none 0 0) (.slice none 0 0) 43 43
  obtain ⟨w0, hw0⟩ : ∃ w0, w0 = (w.alloc (.cells #[.bool s1, .slice a1 n1 c1, .slice b1 m1 d1] 43)).alloc (.cells #[.bool false, .slice none 0 0, .slice none 0 0] 43) := ⟨_, rfl⟩
  rw [← hw0] at t1 t2 hb0
  have e0 : w.heap.size + 2 ≤ w0.heap.size := by rw [hw0]; simp
  obtain ⟨g, hg⟩ : ∃ g, g = w.heap.size := ⟨_, rfl⟩
  have HG : Hid (w.heap.size = g) := hg.symm
  rw [← hg] at t1 t2 hb0 e0
  have hsg := fun w1 (h : Below w0.heap.size w0 w1) => rSign_any (K := sgnR p) ((h1.later (by rw [hg] at hb0; exact hb0)).later h) hn rfl
  have ht : (sgnR p != 0) = decide (p.num ≠ 0) := by
    unfold sgnR
    by_cases h : p.num = 0
    · rw [if_pos h]; simp [h]
    · rw [if_neg h]; split <;> simp [h]
  generalize sgnR p = K at *
  generalize decide (p.num ≠ 0) = B at *
  clear h1 hn
  cases s1
  · go_enter Tryz.func70, Tryz.ntmps70
    go_wp2_with fail
    rw [← hw0, ← hg]
    refine (hsg _ (Below.refl _ _)).mono ?_
    rintro e wA ⟨rfl, hbA⟩
    have HA := hb0.trans (hbA.mono (by omega))
    have T1 := t1.later hbA
    have T2 := t2.later hbA
    obtain ⟨x0, x1, x2⟩ := T1.cells
    obtain ⟨z0, z1, z2⟩ := T1.frozen
    obtain ⟨y0, y1, y2⟩ := T2.cells
    obtain ⟨u0, u1, u2⟩ := T2.frozen
    have ne1 : ¬ g = g + 1 := by omega
    clear hsg hw0 hg t1 t2 hbA hb0
    cases B
    · go_wp2
      have i1 : In g (g + 1) wA (wA.setCell ⟨g, 0, none⟩ (.bool false)) := in1 _ g _
      have j1 := in3 (wA.setCell ⟨g, 0, none⟩ (.bool false)) (g + 1) (.bool false) (.slice a1 n1 c1) (.slice b1 m1 d1)
      have T9 := ((T2.inn i1 (by omega)).set (.bool false) (.slice a1 n1 c1) (.slice b1 m1 d1)).cells
      refine bodyPost_ret (v := .agg #[.bool false, .slice a1 n1 c1, .slice b1 m1 d1]) (by simp [results, Tryz.results70, go_sem, T9]) rfl ?_
      refine ⟨rfl, ?_⟩
      rw [HG.out]
      exact below_in (below_in HA i1 (by omega) (by rw [HG.out]; exact Nat.le_refl _)) j1 (by omega) (by rw [HG.out]; exact Nat.le_refl _)
    · go_wp2
      have i1 : In g (g + 1) wA (wA.setCell ⟨g, 0, none⟩ (.bool true)) := in1 _ g _
      have j1 := in3 (wA.setCell ⟨g, 0, none⟩ (.bool true)) (g + 1) (.bool true) (.slice a1 n1 c1) (.slice b1 m1 d1)
      have T9 := ((T2.inn i1 (by omega)).set (.bool true) (.slice a1 n1 c1) (.slice b1 m1 d1)).cells
      refine bodyPost_ret (v := .agg #[.bool true, .slice a1 n1 c1, .slice b1 m1 d1]) (by simp [results, Tryz.results70, go_sem, T9]) rfl ?_
      refine ⟨rfl, ?_⟩
      rw [HG.out]
      exact below_in (below_in HA i1 (by omega) (by rw [HG.out]; exact Nat.le_refl _)) j1 (by omega) (by rw [HG.out]; exact Nat.le_refl _)
  · have hb1 := (alloc_below (w := w) (.cells #[.bool false, .slice a1 n1 c1, .slice b1 m1 d1] 43))
    have hb2 := hb1.trans ((alloc_below (w := w.alloc (.cells #[.bool false, .slice a1 n1 c1, .slice b1 m1 d1] 43)) (.cells #[.bool false, .slice a1 n1 c1, .slice b1 m1 d1] 43)).mono hb1.size)
    obtain ⟨_, T2, _⟩ := st_two w (.bool false) (.slice a1 n1 c1) (.slice b1 m1 d1) (.bool false) (.slice a1 n1 c1) (.slice b1 m1 d1) 43 43
    have T9 := T2.cells
    clear hw0 hg t1 t2 hb0 hsg
    go_enter Tryz.func70, Tryz.ntmps70
    go_wp2
    refine bodyPost_ret (v := .agg #[.bool false, .slice a1 n1 c1, .slice b1 m1 d1]) (by simp [results, Tryz.results70, go_sem, T9]) rfl ?_
    exact ⟨by simp, hb2⟩
theorem opp22_at {w0 : World} (h1 : Rt w0 s1 a1 n1 c1 b1 m1 d1 p) (hn : n1 ≤ 4000000) (h : Below w0.heap.size w0 w) :
    Calls Tryz.prog 70 #[.agg #[.bool s1, .slice a1 n1 c1, .slice b1 m1 d1]] w fun e w' => ∃ s, e = .returned (.agg #[.bool s, .slice a1 n1 c1, .slice b1 m1 d1]) ∧ Rt w' s a1 n1 c1 b1 m1 d1 (-p) ∧ Below w0.heap.size w0 w' := by
  refine (opp22_any (h1.later h) hn).mono ?_
  rintro e w' ⟨rfl, hb⟩
  exact ⟨_, rfl, ((h1.later h).later hb).neg, h.trans (hb.mono h.size)⟩
set_option maxHeartbeats 3200000 in
set_option maxRecDepth 100000 in
theorem from22_any (h1 : Rt w s1 a1 n1 c1 b1 m1 d1 p) (h2 : Rt w s2 a2 n2 c2 b2 m2 d2 q) (h3 : Rt w s3 a3 n3 c3 b3 m3 d3 r) (h4 : Rt w s4 a4 n4 c4 b4 m4 d4 t) (z1 : Sz p k) (z2 : Sz q k) (z3 : Sz r k) (z4 : Sz t k) (hk : k + k + 1 ≤ 4096) :
    Calls Tryz.prog 40 #[.agg #[.bool s1, .slice a1 n1 c1, .slice b1 m1 d1, .bool s2, .slice a2 n2 c2, .slice b2 m2 d2], .agg #[.bool s3, .slice a3 n3 c3, .slice b3 m3 d3, .bool s4, .slice a4 n4 c4, .slice b4 m4 d4]] w fun e w' => ∃ s a n c b m d s' a' n' c' b' m' d', e = .returned (.agg #[.bool s, .slice a n c, .slice b m d, .bool s', .slice a' n' c', .slice b' m' d']) ∧ RtO w' w.heap.size s (.slice a n c) (.slice b m d) (r - p) ∧ RtO w' w.heap.size s' (.slice a' n' c') (.slice b' m' d') (t - q) ∧ Sz (r - p) (k + k + 1) ∧ Sz (t - q) (k + k + 1) ∧ Below w.heap.size w w' := by
  obtain ⟨w0, hw0⟩ : ∃ w0, w0 = ((w.alloc (.cells #[.bool s1, .slice a1 n1 c1, .slice b1 m1 d1, .bool s2, .slice a2 n2 c2, .slice b2 m2 d2] 77)).alloc (.cells #[.bool s3, .slice a3 n3 c3, .slice b3 m3 d3, .bool s4, .slice a4 n4 c4, .slice b4 m4 d4] 77)).alloc (.cells #[.bool false, .slice none 0 0, .slice none 0 0, .bool false, .slice none 0 0, .slice none 0 0] 77) := ⟨_, rfl⟩
  obtain ⟨u1, u2, u3, hb0, e0⟩ : Pb w0 w.heap.size 77 #[.bool s1, .slice a1 n1 c1, .slice b1 m1 d1, .bool s2, .slice a2 n2 c2, .slice b2 m2 d2] ∧ Pb w0 (w.heap.size + 1) 77 #[.bool s3, .slice a3 n3 c3, .slice b3 m3 d3, .bool s4, .slice a4 n4 c4, .slice b4 m4 d4] ∧ Pb w0 (w.heap.size + 1 + 1) 77 #[.bool false, .slice none 0 0, .slice none 0 0, .bool false, .slice none 0 0, .slice none 0 0] ∧ Below w.heap.size w w0 ∧ w0.heap.size = w.heap.size + 1 + 1 + 1 := by
    subst hw0
    exact pb_three _ _ _ _ _
  obtain ⟨g, hg⟩ : ∃ g, g = w.heap.size := ⟨_, rfl⟩
  have HG : Hid (w.heap.size = g) := hg.symm
  have r1 := h1.later hb0
  have r2 := h2.later hb0
  have r3 := h3.later hb0
  have r4 := h4.later hb0
  rw [← hg] at u1 u2 u3 hb0 e0
  have HE0 : Hid (w0.heap.size = g + 1 + 1 + 1) := e0
  have hE0 : g + 3 ≤ w0.heap.size := by omega
  clear e0
  go_enter Tryz.func40, Tryz.ntmps40
  go_wp2_with fail
  rw [← hw0, ← hg]
  refine (rSub_ok r3 r1 z3 z1 hk).mono ?_
  rintro e wA ⟨sA, vA1, vA2, rfl, hRA, hzA, hbA⟩
  obtain ⟨aA, nA, cA, bA, mA, dA, rfl, rfl, _⟩ := hRA.opens
  have HA := hb0.trans (hbA.mono (by omega))
  have sA' := hbA.size
  have alA := alloc_below (w := wA) (.cells #[.bool sA, .slice aA nA cA, .slice bA mA dA] 43)
  have pA := Pb.new wA 43 #[.bool sA, .slice aA nA cA, .slice bA mA dA]
  have szA : (wA.alloc (.cells #[.bool sA, .slice aA nA cA, .slice bA mA dA] 43)).heap.size = wA.heap.size + 1 := by simp
  have x2 := ((u1.later hbA).later alA).six.1
  have x4 := ((u2.later hbA).later alA).six.1
  have u3' := (u3.later hbA).later alA
  have r2' := (r2.later hbA).later alA
  have r4' := (r4.later hbA).later alA
  have hRA' := hRA.later alA
  obtain ⟨i0, i1, i2, i3, i4, i5⟩ := x2
  obtain ⟨j0, j1, j2, j3, j4, j5⟩ := x4
  clear hw0 hg u1 u2 u3 r1 r2 r3 r4 h1 h2 h3 h4 hRA
  go_wp2_with fail
  generalize wA.alloc (.cells #[.bool sA, .slice aA nA cA, .slice bA mA dA] 43) = wA1 at *
  refine (rSub_ok r4' r2' z4 z2 hk).mono ?_
  rintro e wB ⟨sB, vB1, vB2, rfl, hRB, hzB, hbB⟩
  obtain ⟨aB, nB, cB, bB, mB, dB, rfl, rfl, _⟩ := hRB.opens
  have sB' := hbB.size
  have alB := alloc_below (w := wB) (.cells #[.bool sB, .slice aB nB cB, .slice bB mB dB] 43)
  have pB := Pb.new wB 43 #[.bool sB, .slice aB nB cB, .slice bB mB dB]
  have szB : (wB.alloc (.cells #[.bool sB, .slice aB nB cB, .slice bB mB dB] 43)).heap.size = wB.heap.size + 1 := by simp
  have pA' := (pA.later hbB).later alB
  obtain ⟨q0, q1, q2⟩ := pb_tri pA'
  have u3'' := (u3'.later hbB).later alB
  have hRA'' := (hRA'.later hbB).later alB
  have hRB'' := hRB.later alB
  obtain ⟨⟨k0, k1, k2, k3, k4, k5⟩, ⟨f0, f1, f2, f3, f4, f5⟩⟩ := u3''.six
  have HB := HA.trans ((alA.trans ((hbB.trans (alB.mono sB')).mono (by omega))).mono (by omega))
  have ne1 : ¬ wA.heap.size = wB.heap.size := by omega
  clear i0 i1 i2 i3 i4 i5 j0 j1 j2 j3 j4 j5 r2' r4' pA u3' hRA' hRB alA alB hbA hbB hb0 HA
  go_wp2
  have i9 := in6p (wB.alloc (.cells #[.bool sB, .slice aB nB cB, .slice bB mB dB] 43)) (g + 1 + 1) (.bool sA) (.slice aA nA cA) (.slice bA mA dA) (.bool sB) (.slice aB nB cB) (.slice bB mB dB)
  have T9 := (u3''.set6 (.bool sA) (.slice aA nA cA) (.slice bA mA dA) (.bool sB) (.slice aB nB cB) (.slice bB mB dB)).six.1
  have RA := (hRA''.inn i9 (by omega)).lower (base' := g) (by omega)
  have RB := (hRB''.inn i9 (by omega)).lower (base' := g) (by omega)
  have B9 := below_in HB i9 (by omega) (by rw [HG.out]; exact Nat.le_refl _)
  refine bodyPost_ret (v := .agg #[.bool sA, .slice aA nA cA, .slice bA mA dA, .bool sB, .slice aB nB cB, .slice bB mB dB]) (by simp [results, Tryz.results40, go_sem, T9]) rfl ?_
  rw [HG.out]
  exact ⟨_, _, _, _, _, _, _, _, _, _, _, _, _, _, rfl, RA, RB, hzA, hzB, B9⟩
theorem from22_at {w0 : World} (h1 : Rt w0 s1 a1 n1 c1 b1 m1 d1 p) (h2 : Rt w0 s2 a2 n2 c2 b2 m2 d2 q) (h3 : Rt w0 s3 a3 n3 c3 b3 m3 d3 r) (h4 : Rt w0 s4 a4 n4 c4 b4 m4 d4 t) (z1 : Sz p k) (z2 : Sz q k) (z3 : Sz r k) (z4 : Sz t k) (hk : k + k + 1 ≤ 4096) (h : Below w0.heap.size w0 w) :
    Calls Tryz.prog 40 #[.agg #[.bool s1, .slice a1 n1 c1, .slice b1 m1 d1, .bool s2, .slice a2 n2 c2, .slice b2 m2 d2], .agg #[.bool s3, .slice a3 n3 c3, .slice b3 m3 d3, .bool s4, .slice a4 n4 c4, .slice b4 m4 d4]] w fun e w' => ∃ s a n c b m d s' a' n' c' b' m' d', e = .returned (.agg #[.bool s, .slice a n c, .slice b m d, .bool s', .slice a' n' c', .slice b' m' d']) ∧ RtO w' w0.heap.size s (.slice a n c) (.slice b m d) (r - p) ∧ RtO w' w0.heap.size s' (.slice a' n' c') (.slice b' m' d') (t - q) ∧ Sz (r - p) (k + k + 1) ∧ Sz (t - q) (k + k + 1) ∧ Below w.heap.size w w' ∧ Below w0.heap.size w0 w' := by
  refine (from22_any (h1.later h) (h2.later h) (h3.later h) (h4.later h) z1 z2 z3 z4 hk).mono ?_
  rintro e w' ⟨s, a, n, c, b, m, d, s', a', n', c', b', m', d', rfl, hR, hR', hz, hz', hb⟩
  exact ⟨s, a, n, c, b, m, d, s', a', n', c', b', m', d', rfl, hR.lower h.size, hR'.lower h.size, hz, hz', hb, h.trans (hb.mono h.size)⟩
end
end Go.Proofs.YtbonkgmcpjaepabGreat

/- plumblaw22.Four (four points) among the inputs, opened. -/
namespace Go.Proofs.YtbonkgmcpjaepabGreat
open Go.ChangeShapes Go.WideShapes Go.ChangeAt Go.RowKit
open Na Ar
set_option linter.unusedVariables false
theorem cells_u64f : Tryz.prog.cellsOf 32 = 1 := by kernel_rfl
theorem cells_pointf : Tryz.prog.cellsOf 34 = 2 := by kernel_rfl
theorem cells_four : Tryz.prog.cellsOf 36 = 8 := by kernel_rfl
set_option maxRecDepth 100000 in
theorem trod_u64f {H : Type} {enc : TypeId × Value → H} {w : World} {base m : Nat} {spare : Nat → Bool} {held : Bool} {cs : Value} {x : DataW H × List MemPlace}
    (hf : DataW.trod enc Tryz.prog w base spare held m 32 [cs] = some x) : ∃ s, cs = .int .u64 s ∧ U s := by
  obtain ⟨s, e0, _, hw⟩ := DataW.trod_int Tryz.underlying32 hf
  simp at e0
  simp only [Lit.wf, Bool.and_eq_true, decide_eq_true_eq] at hw
  have h1 : IntKind.u64.min = 0 := rfl
  have h2 : IntKind.u64.max = 18446744073709551615 := rfl
  exact ⟨s, e0, by unfold U; omega⟩
set_option maxRecDepth 100000 in
theorem trod_pointf {H : Type} {enc : TypeId × Value → H} {w : World} {base m : Nat} {spare : Nat → Bool} {held : Bool} {c0 c1 : Value} {x : DataW H × List MemPlace}
    (hf : DataW.trod enc Tryz.prog w base spare held m 34 [c0, c1] = some x) : ∃ s t, c0 = .int .u64 s ∧ c1 = .int .u64 t ∧ U s ∧ U t := by
  obtain ⟨xs, m, _, _, hl, hx, hi⟩ := DataW.trod_struct Tryz.underlying34 hf
  have i0 := hi 0 _ rfl
  have i1 := hi 1 _ rfl
  match xs, hx with
  | [x0, x1], _ =>
    simp [cells_u64f] at i0 i1
    obtain ⟨s, rfl, k0⟩ := trod_u64f i0
    obtain ⟨t, rfl, k1⟩ := trod_u64f i1
    exact ⟨s, t, rfl, rfl, k0, k1⟩
set_option maxRecDepth 100000 in
theorem open_four {H : Type} {enc : TypeId × Value → H} {w : World} {r : Reach} {base b0 : Nat} {spare : Nat → Bool} {held : Bool} {v : Value} {d : DataW H} {p : List MemPlace}
    (hv : Value.okWide Tryz.prog w r b0 36 v) (h : DataW.Trod enc Tryz.prog w base spare held 36 v d p) :
    ∃ x0 x1 x2 x3 x4 x5 x6 x7, v = .agg #[.int .u64 x0, .int .u64 x1, .int .u64 x2, .int .u64 x3, .int .u64 x4, .int .u64 x5, .int .u64 x6, .int .u64 x7] ∧ U x0 ∧ U x1 ∧ U x2 ∧ U x3 ∧ U x4 ∧ U x5 ∧ U x6 ∧ U x7 := by
  obtain ⟨cs, rfl, hsz⟩ := okWide_struct Tryz.underlying36 hv
  obtain ⟨fuel, hf⟩ := h
  obtain ⟨xs, m, _, _, hl, hx, hi⟩ := DataW.trod_struct Tryz.underlying36 hf
  rw [cells_four] at hsz
  obtain ⟨c0, c1, c2, c3, c4, c5, c6, c7, rfl⟩ : ∃ c0 c1 c2 c3 c4 c5 c6 c7, cs = #[c0, c1, c2, c3, c4, c5, c6, c7] := by
    match cs, hsz with
    | ⟨[c0, c1, c2, c3, c4, c5, c6, c7]⟩, _ => exact ⟨c0, c1, c2, c3, c4, c5, c6, c7, rfl⟩
  have i0 := hi 0 _ rfl
  have i1 := hi 1 _ rfl
  have i2 := hi 2 _ rfl
  have i3 := hi 3 _ rfl
  match xs, hx with
  | [x0, x1, x2, x3], _ =>
    simp [Value.cells, cells_pointf] at i0 i1 i2 i3
    obtain ⟨y0, y1, rfl, rfl, k0, k1⟩ := trod_pointf i0
    obtain ⟨y2, y3, rfl, rfl, k2, k3⟩ := trod_pointf i1
    obtain ⟨y4, y5, rfl, rfl, k4, k5⟩ := trod_pointf i2
    obtain ⟨y6, y7, rfl, rfl, k6, k7⟩ := trod_pointf i3
    exact ⟨y0, y1, y2, y3, y4, y5, y6, y7, rfl, k0, k1, k2, k3, k4, k5, k6, k7⟩
end Go.Proofs.YtbonkgmcpjaepabGreat

/- The sign of a whole number. -/
namespace Go.Proofs.YtbonkgmcpjaepabGreat
open Go.ChangeShapes Go.WideShapes Go.ChangeAt Go.RowKit
open Na Ar
set_option linter.unusedVariables false
/-- the sign of a whole number -/
def sgI (v : Int) : Int := if v < 0 then -1 else if 0 < v then 1 else 0
theorem sgI_pos {v : Int} (h : 0 < v) : sgI v = 1 := by unfold sgI; rw [if_neg (by omega), if_pos h]
theorem sgI_ng {v : Int} (h : v < 0) : sgI v = -1 := by unfold sgI; rw [if_pos h]
theorem sgI_zero : sgI 0 = 0 := by unfold sgI; rfl
theorem sgI_eq {v : Int} : sgI v = 0 ↔ v = 0 := by unfold sgI; (repeat' split) <;> omega
theorem sgI_in (v : Int) : -1 ≤ sgI v ∧ sgI v ≤ 1 := by unfold sgI; (repeat' split) <;> omega
theorem sgI_neg (v : Int) : sgI (-v) = - sgI v := by unfold sgI; (repeat' split) <;> omega
theorem sgI_mul (x y : Int) : sgI (x * y) = sgI x * sgI y := by
  rcases Int.lt_trichotomy x 0 with hx | hx | hx <;> rcases Int.lt_trichotomy y 0 with hy | hy | hy
  · rw [sgI_ng hx, sgI_ng hy, sgI_pos (Int.mul_pos_of_neg_of_neg hx hy)]; rfl
  · subst hy; rw [Int.mul_zero, sgI_zero, Int.mul_zero]
  · rw [sgI_ng hx, sgI_pos hy, sgI_ng (Int.mul_neg_of_neg_of_pos hx hy)]; rfl
  · subst hx; rw [Int.zero_mul, sgI_zero, Int.zero_mul]
  · subst hx; rw [Int.zero_mul, sgI_zero, Int.zero_mul]
  · subst hx; rw [Int.zero_mul, sgI_zero, Int.zero_mul]
  · rw [sgI_pos hx, sgI_ng hy, sgI_ng (Int.mul_neg_of_pos_of_neg hx hy)]; rfl
  · subst hy; rw [Int.mul_zero, sgI_zero, Int.mul_zero]
  · rw [sgI_pos hx, sgI_pos hy, sgI_pos (Int.mul_pos hx hy)]; rfl
end Go.Proofs.YtbonkgmcpjaepabGreat

/- package pred: sum. -/
namespace Go.Proofs.YtbonkgmcpjaepabGreat
open Go.ChangeShapes Go.WideShapes Go.ChangeAt Go.RowKit
open Na Ar
set_option linter.unusedVariables false
/-- the product number i of a row in memory -/
def PrAt (w : World) (g i : Nat) (p q : Rat) (K : Nat) : Prop := ∃ s1 a1 n1 c1 b1 m1 d1 s2 a2 n2 c2 b2 m2 d2,
  (w.cell? ⟨g, i * 6, none⟩ = some (.bool s1) ∧ w.cell? ⟨g, i * 6 + 1, none⟩ = some (.slice a1 n1 c1) ∧ w.cell? ⟨g, i * 6 + 2, none⟩ = some (.slice b1 m1 d1) ∧ w.cell? ⟨g, i * 6 + 3, none⟩ = some (.bool s2) ∧ w.cell? ⟨g, i * 6 + 4, none⟩ = some (.slice a2 n2 c2) ∧ w.cell? ⟨g, i * 6 + 5, none⟩ = some (.slice b2 m2 d2)) ∧
  Rt w s1 a1 n1 c1 b1 m1 d1 p ∧ Rt w s2 a2 n2 c2 b2 m2 d2 q ∧ Sz p K ∧ Sz q K ∧ g < w.heap.size
theorem PrAt.later {w w' : World} {g i : Nat} {p q : Rat} {K : Nat} (h : PrAt w g i p q K) (hb : Below w.heap.size w w') : PrAt w' g i p q K := by
  obtain ⟨s1, a1, n1, c1, b1, m1, d1, s2, a2, n2, c2, b2, m2, d2, ⟨x0, x1, x2, x3, x4, x5⟩, r1, r2, z1, z2, hg⟩ := h
  exact ⟨s1, a1, n1, c1, b1, m1, d1, s2, a2, n2, c2, b2, m2, d2, ⟨(hb.cell (p := ⟨g, _, none⟩) hg).trans x0, (hb.cell (p := ⟨g, _, none⟩) hg).trans x1, (hb.cell (p := ⟨g, _, none⟩) hg).trans x2, (hb.cell (p := ⟨g, _, none⟩) hg).trans x3, (hb.cell (p := ⟨g, _, none⟩) hg).trans x4, (hb.cell (p := ⟨g, _, none⟩) hg).trans x5⟩, r1.later hb, r2.later hb, z1, z2, Nat.lt_of_lt_of_le hg hb.size⟩
/-- a Rat is answered, in memory of its own -/
def RvQ (w : World) (q : Rat) (K : Nat) (e : Ending) (w' : World) : Prop := ∃ s a n c b m d, e = .returned (.agg #[.bool s, .slice a n c, .slice b m d]) ∧ RtO w' w.heap.size s (.slice a n c) (.slice b m d) q ∧ Sz q K ∧ Below w.heap.size w w'
def psum (p q : Rat) (L : List (Rat × Rat)) : Nat → Rat
  | 0 => p * q
  | k + 1 => psum p q L k + (L.getD k (0, 0)).1 * (L.getD k (0, 0)).2
section
variable {w : World} {s1 s2 : Bool} {a1 b1 a2 b2 : Option Addr} {n1 c1 m1 d1 n2 c2 m2 d2 : Nat} {p q : Rat} {k K : Nat}
set_option maxHeartbeats 6400000 in
set_option maxRecDepth 100000 in
theorem sum22_any {L : List (Rat × Rat)} {gm cm N : Nat} (h1 : Rt w s1 a1 n1 c1 b1 m1 d1 p) (h2 : Rt w s2 a2 n2 c2 b2 m2 d2 q) (z1 : Sz p K) (z2 : Sz q K) (hL : ∀ i, i < L.length → PrAt w gm i (L.getD i (0, 0)).1 (L.getD i (0, 0)).2 K) (hN : L.length = N) (hN0 : N ≤ 2) (hK : K ≤ 600) :
    Calls Tryz.prog 41 #[.agg #[.bool s1, .slice a1 n1 c1, .slice b1 m1 d1, .bool s2, .slice a2 n2 c2, .slice b2 m2 d2], .slice (some ⟨gm, 0, none⟩) N cm] w fun e w' => RvQ w (psum p q L N) (K + K + N * (K + K + 1)) e w' := by
  obtain ⟨w0, hw0⟩ : ∃ w0, w0 = (w.alloc (.cells #[.bool s1, .slice a1 n1 c1, .slice b1 m1 d1, .bool s2, .slice a2 n2 c2, .slice b2 m2 d2] 87)).alloc (.cells #[.bool false, .slice none 0 0, .slice none 0 0] 43) := ⟨_, rfl⟩
  obtain ⟨u1, u2, hb0, e0⟩ : Pb w0 w.heap.size 87 #[.bool s1, .slice a1 n1 c1, .slice b1 m1 d1, .bool s2, .slice a2 n2 c2, .slice b2 m2 d2] ∧ St w0 (w.heap.size + 1) 43 (.bool false) (.slice none 0 0) (.slice none 0 0) ∧ Below w.heap.size w w0 ∧ w0.heap.size = w.heap.size + 1 + 1 := by
    subst hw0
    exact pb_two _ _ _ _ _ _
  obtain ⟨g, hg⟩ : ∃ g, g = w.heap.size := ⟨_, rfl⟩
  have HG : Hid (w.heap.size = g) := hg.symm
  have r1 := h1.later hb0
  have r2 := h2.later hb0
  have hLw := fun (w' : World) (hw : Below g w w') i hi => (hL i hi).later (w' := w') (by rw [hg] at hw; exact hw)
  rw [← hg] at u1 u2 hb0 e0
  have HE0 : Hid (w0.heap.size = g + 1 + 1) := e0
  have hE0 : g + 2 ≤ w0.heap.size := by omega
  clear e0
  go_enter Tryz.func41, Tryz.ntmps41
  go_wp2_with fail
  rw [← hw0, ← hg]
  refine (rMul_ok r1 r2 z1 z2 (by omega)).mono ?_
  rintro e wA ⟨sA, vA1, vA2, rfl, hRA, hzA, hbA⟩
  obtain ⟨aA, nA, cA, bA, mA, dA, rfl, rfl, _⟩ := hRA.opens
  have HA := hb0.trans (hbA.mono (by omega))
  have sA' := hbA.size
  have alA := alloc_below (w := wA) (.cells #[.bool sA, .slice aA nA cA, .slice bA mA dA] 43)
  have pA := st_new wA (.bool sA) (.slice aA nA cA) (.slice bA mA dA) 43
  have szA : (wA.alloc (.cells #[.bool sA, .slice aA nA cA, .slice bA mA dA] 43)).heap.size = wA.heap.size + 1 := by simp
  have u2A := (u2.later hbA).later alA
  have hRA' := (hRA.later alA).lower (base' := g + 1 + 1) (by omega)
  have HB1 := HA.trans (alA.mono (by omega))
  clear hw0 hg u1 u2 r1 r2 h1 h2 hRA hL hb0 hbA HA
  go_wp2
  generalize wA.alloc (.cells #[.bool sA, .slice aA nA cA, .slice bA mA dA] 43) = wA1 at *
  obtain ⟨g5, hg5⟩ : ∃ g5, g5 = wA.heap.size := ⟨_, rfl⟩
  rw [← hg5] at pA szA ⊢
  have h5 : g + 1 < g5 := by omega
  clear hg5 alA sA'
  go_loopw [21] (fun i wr => ∃ (j : Nat) (s : Bool) (a b : Option Addr) (n c m d : Nat), j ≤ N ∧ i = .int .i64 j ∧ St wr g5 43 (.bool s) (.slice a n c) (.slice b m d) ∧ RtO wr (g + 1 + 1) s (.slice a n c) (.slice b m d) (psum p q L j) ∧ Sz (psum p q L j) (K + K + j * (K + K + 1)) ∧ St wr (g + 1) 43 (.bool false) (.slice none 0 0) (.slice none 0 0) ∧ Below g w wr) (fun i _ => N - (intOf i).toNat)
  case atStart => exact ⟨0, sA, aA, bA, nA, cA, mA, dA, Nat.zero_le _, rfl, pA, hRA', by simpa [psum] using hzA, u2A, HB1⟩
  case round =>
    obtain ⟨j, s, a, b, n, c, m, d, hj, rfl, hSt, hR, hz, hU, hB⟩ := hrel
    clear hRA' HB1 pA u2A hzA szA
    by_cases hlt : j < N
    · have i1 : (j : Int) < (N : Int) := by omega
      obtain ⟨t1, e1, y1, f1, g1, v1, k1, t2, e2, y2, f2, g2, v2, k2, ⟨x0, x1, x2, x3, x4, x5⟩, q1, q2, zz1, zz2, hgm⟩ := hLw wr hB j (by omega)
      have hi0 : (0 : Int) ≤ (j : Int) := by omega
      have al1 := alloc_below (w := wr) (.cells #[.bool t1, .slice e1 y1 f1, .slice g1 v1 k1, .bool t2, .slice e2 y2 f2, .slice g2 v2 k2] 87)
      have Q1 := q1.later al1
      have Q2 := q2.later al1
      have S1 := hSt.later al1
      have U1 := hU.later al1
      have lt5 := hSt.lt
      have hBs := hB.size
      have sz1 : wr.heap.size + 1 = (wr.alloc (.cells #[.bool t1, .slice e1 y1 f1, .slice g1 v1 k1, .bool t2, .slice e2 y2 f2, .slice g2 v2 k2] 87)).heap.size := by simp
      have R1 := hR.later al1
      have B1 := hB.trans (al1.mono (by rw [HG.out] at hBs; exact hBs))
      have hps : Hid (psum p q L (j + 1) = psum p q L j + (L.getD j (0, 0)).1 * (L.getD j (0, 0)).2) := rfl
      have hj4 : j + 1 ≤ 2 := by omega
      have hjK : j * (K + K + 1) ≤ 1 * (K + K + 1) := Nat.mul_le_mul_right _ (by omega)
      have hjs : (j + 1) * (K + K + 1) = j * (K + K + 1) + (K + K + 1) := Nat.succ_mul _ _
      clear hSt hR hU hB q1 q2
      go_wp2_with fail
      generalize wr.alloc (.cells #[.bool t1, .slice e1 y1 f1, .slice g1 v1 k1, .bool t2, .slice e2 y2 f2, .slice g2 v2 k2] 87) = w1 at *
      refine (rMul_ok Q1 Q2 zz1 zz2 (by omega)).mono ?_
      rintro e wX ⟨sX, vX1, vX2, rfl, hX, hzX, hbX⟩
      obtain ⟨aX, nX, cX, bX, mX, dX, rfl, rfl, _⟩ := hX.opens
      have al2 := alloc_below (w := wX) (.cells #[.bool sX, .slice aX nX cX, .slice bX mX dX] 43)
      have sX1 := hbX.size
      have sz2 : wX.heap.size + 1 = (wX.alloc (.cells #[.bool sX, .slice aX nX cX, .slice bX mX dX] 43)).heap.size := by simp
      have S2 := (S1.later hbX).later al2
      have U2 := (U1.later hbX).later al2
      have R2 := (R1.later hbX).later al2
      have X2 := hX.later al2
      have hb12 := hbX.trans (al2.mono sX1)
      have B2 := B1.trans (hb12.mono (by omega))
      obtain ⟨⟨m0, m1', m2'⟩, ⟨z0, z1', z2'⟩⟩ := And.intro S2.cells S2.frozen
      have ne5 : ¬ g5 = wX.heap.size := by omega
      clear S1 U1 R1 B1 hb12 x0 x1 x2 x3 x4 x5 Q1 Q2 hbX al1 al2
      go_wp2_with fail
      generalize wX.alloc (.cells #[.bool sX, .slice aX nX cX, .slice bX mX dX] 43) = w2 at *
      refine (rAdd_ok R2.rt22 X2.rt22 hz hzX (by omega)).mono ?_
      rintro e wC ⟨sC, vC1, vC2, rfl, hC, hzC, hbC⟩
      obtain ⟨aC, nC, cC, bC, mC, dC, rfl, rfl, _⟩ := hC.opens
      have sC1 := hbC.size
      have S3 := S2.later hbC
      have U3 := U2.later hbC
      have B3 := B2.trans (hbC.mono (by omega))
      obtain ⟨m0, m1', m2'⟩ := S3.cells
      obtain ⟨z0, z1', z2'⟩ := S3.frozen
      rw [← hps.out] at hC hzC
      have i9 := in3 wC g5 (.bool sC) (.slice aC nC cC) (.slice bC mC dC)
      have S9 := S3.set (.bool sC) (.slice aC nC cC) (.slice bC mC dC)
      have U9 := U3.inn i9 (by omega)
      have C9 := (hC.inn i9 (by omega)).lower (base' := g + 1 + 1) (by omega)
      have B9 := below_in B3 i9 (by omega) (by rw [HG.out]; exact Nat.le_refl _)
      clear S2 U2 R2 X2 B2 S3 U3 B3 hC hbC
      go_wp2
      go_roundw
      case rel => exact ⟨j + 1, sC, aC, bC, nC, cC, mC, dC, hlt, by go_num, S9, C9, hzC.mono (by omega), U9, B9⟩
      case measure => simp [intOf]; omega
    · have i1 : ¬ (j : Int) < (N : Int) := by omega
      have hjN : j = N := by omega
      subst hjN
      obtain ⟨m0, m1', m2'⟩ := hSt.cells
      obtain ⟨z0, z1', z2'⟩ := hU.frozen
      obtain ⟨y0, y1', y2'⟩ := hU.cells
      have hBs := hB.size
      go_wp2
      have i9 := in3 wr (g + 1) (.bool s) (.slice a n c) (.slice b m d)
      have T9 := (hU.set (.bool s) (.slice a n c) (.slice b m d)).cells
      refine bodyPost_ret (v := .agg #[.bool s, .slice a n c, .slice b m d]) (by simp [results, Tryz.results41, go_sem, T9]) rfl ?_
      refine ⟨s, a, n, c, b, m, d, rfl, ?_, hz, ?_⟩
      · rw [HG.out]
        exact (hR.inn i9 (by omega)).lower (by omega)
      · rw [HG.out]
        exact below_in hB i9 (by omega) (by rw [HG.out]; exact Nat.le_refl _)
end
end Go.Proofs.YtbonkgmcpjaepabGreat

/- package pred: square, cross. -/
namespace Go.Proofs.YtbonkgmcpjaepabGreat
open Go.ChangeShapes Go.WideShapes Go.ChangeAt Go.RowKit
open Na Ar
set_option linter.unusedVariables false
/-- one product in a block of its own -/
theorem prAt_one {w : World} {s1 s2 : Bool} {a1 b1 a2 b2 : Option Addr} {n1 c1 m1 d1 n2 c2 m2 d2 : Nat} {p q : Rat} {K g : Nat} {t : TypeId} (hg : Pb w g t #[.bool s1, .slice a1 n1 c1, .slice b1 m1 d1, .bool s2, .slice a2 n2 c2, .slice b2 m2 d2]) (h1 : Rt w s1 a1 n1 c1 b1 m1 d1 p) (h2 : Rt w s2 a2 n2 c2 b2 m2 d2 q) (z1 : Sz p K) (z2 : Sz q K) :
    ∀ i, i < [(p, q)].length → PrAt w g i ([(p, q)].getD i (0, 0)).1 ([(p, q)].getD i (0, 0)).2 K := by
  intro i hi
  have h0 : i = 0 := by simp at hi; exact hi
  subst h0
  obtain ⟨⟨x0, x1, x2, x3, x4, x5⟩, _⟩ := hg.six
  exact ⟨s1, a1, n1, c1, b1, m1, d1, s2, a2, n2, c2, b2, m2, d2, ⟨x0, x1, x2, x3, x4, x5⟩, h1, h2, z1, z2, hg.lt⟩
section
variable {w : World} {s1 s2 s3 s4 : Bool} {a1 b1 a2 b2 a3 b3 a4 b4 : Option Addr} {n1 c1 m1 d1 n2 c2 m2 d2 n3 c3 m3 d3 n4 c4 m4 d4 : Nat} {p q r t : Rat} {k K : Nat}
set_option maxHeartbeats 3200000 in
set_option maxRecDepth 100000 in
theorem square22_any (h1 : Rt w s1 a1 n1 c1 b1 m1 d1 p) (h2 : Rt w s2 a2 n2 c2 b2 m2 d2 q) (z1 : Sz p K) (z2 : Sz q K) (hK : K ≤ 600) :
    Calls Tryz.prog 42 #[.agg #[.bool s1, .slice a1 n1 c1, .slice b1 m1 d1, .bool s2, .slice a2 n2 c2, .slice b2 m2 d2]] w fun e w' => RvQ w (p * p + q * q) (K + K + (K + K + 1)) e w' := by
  obtain ⟨w0, hw0⟩ : ∃ w0, w0 = (w.alloc (.cells #[.bool s1, .slice a1 n1 c1, .slice b1 m1 d1, .bool s2, .slice a2 n2 c2, .slice b2 m2 d2] 77)).alloc (.cells #[.bool false, .slice none 0 0, .slice none 0 0] 43) := ⟨_, rfl⟩
  obtain ⟨u1, u2, hb0, e0⟩ : Pb w0 w.heap.size 77 #[.bool s1, .slice a1 n1 c1, .slice b1 m1 d1, .bool s2, .slice a2 n2 c2, .slice b2 m2 d2] ∧ St w0 (w.heap.size + 1) 43 (.bool false) (.slice none 0 0) (.slice none 0 0) ∧ Below w.heap.size w w0 ∧ w0.heap.size = w.heap.size + 1 + 1 := by
    subst hw0
    exact pb_two _ _ _ _ _ _
  obtain ⟨g, hg⟩ : ∃ g, g = w.heap.size := ⟨_, rfl⟩
  have HG : Hid (w.heap.size = g) := hg.symm
  rw [← hg] at u1 u2 hb0 e0
  have al := alloc_below (w := w0) (.cells #[.bool s2, .slice a2 n2 c2, .slice b2 m2 d2, .bool s2, .slice a2 n2 c2, .slice b2 m2 d2] 87)
  have pN := Pb.new w0 87 #[.bool s2, .slice a2 n2 c2, .slice b2 m2 d2, .bool s2, .slice a2 n2 c2, .slice b2 m2 d2]
  have szN : (w0.alloc (.cells #[.bool s2, .slice a2 n2 c2, .slice b2 m2 d2, .bool s2, .slice a2 n2 c2, .slice b2 m2 d2] 87)).heap.size = w0.heap.size + 1 := by simp
  have hb1 := hb0.trans (al.mono (by omega))
  have r1 := h1.later (by rw [hg] at hb1; exact hb1)
  have r2 := h2.later (by rw [hg] at hb1; exact hb1)
  have u2' := u2.later al
  rw [e0] at pN
  have hs := sum22_any (N := 1) (cm := 1) (L := [(q, q)]) r1 r1 z1 z1 (prAt_one pN r2 r2 z2 z2) rfl (by omega) hK
  have HE : Hid (psum p p [(q, q)] 1 = p * p + q * q) := rfl
  have HK : Hid (K + K + 1 * (K + K + 1) = K + K + (K + K + 1)) := by show _ = _; omega
  rw [HE.out, HK.out] at hs
  have sz0 : w0.heap.size = g + 2 := e0
  clear h1 h2 r1 r2 pN hb0 al u2 e0
  go_enter Tryz.func42, Tryz.ntmps42
  go_wp2_with fail
  rw [← hw0, ← hg]
  generalize w0.alloc (.cells #[.bool s2, .slice a2 n2 c2, .slice b2 m2 d2, .bool s2, .slice a2 n2 c2, .slice b2 m2 d2] 87) = w1 at *
  refine hs.mono ?_
  rintro e wA ⟨s, a, n, c, b, m, d, rfl, hR, hz, hbA⟩
  have u3 := u2'.later hbA
  have B3 := hb1.trans (hbA.mono (by omega))
  have sA := hbA.size
  obtain ⟨x0, x1, x2⟩ := u3.cells
  obtain ⟨z0, z1', z2'⟩ := u3.frozen
  clear hs hbA hb1 u2' u1 hw0 hg
  go_wp2
  have i9 := in3 wA (g + 1) (.bool s) (.slice a n c) (.slice b m d)
  have T9 := (u3.set (.bool s) (.slice a n c) (.slice b m d)).cells
  refine bodyPost_ret (v := .agg #[.bool s, .slice a n c, .slice b m d]) (by simp [results, Tryz.results42, go_sem, T9]) rfl ?_
  refine ⟨s, a, n, c, b, m, d, rfl, ?_, hz, ?_⟩
  · rw [HG.out]
    exact (hR.inn i9 (by omega)).lower (by omega)
  · rw [HG.out]
    exact below_in B3 i9 (by omega) (by rw [HG.out]; exact Nat.le_refl _)
theorem RvQ.to {q' : Rat} {K' : Nat} {e : Ending} {w' : World} (h : RvQ w q K e w') (hq : q = q') (hk : K ≤ K') : RvQ w q' K' e w' := by
  obtain ⟨s, a, n, c, b, m, d, e1, r, z, hb⟩ := h
  subst hq
  exact ⟨s, a, n, c, b, m, d, e1, r, z.mono hk, hb⟩
set_option maxHeartbeats 3200000 in
set_option maxRecDepth 100000 in
theorem cross22_any (h1 : Rt w s1 a1 n1 c1 b1 m1 d1 p) (h2 : Rt w s2 a2 n2 c2 b2 m2 d2 q) (h3 : Rt w s3 a3 n3 c3 b3 m3 d3 r) (h4 : Rt w s4 a4 n4 c4 b4 m4 d4 t) (z1 : Sz p K) (z2 : Sz q K) (z3 : Sz r K) (z4 : Sz t K) (hK : K ≤ 600) :
    Calls Tryz.prog 43 #[.agg #[.bool s1, .slice a1 n1 c1, .slice b1 m1 d1, .bool s2, .slice a2 n2 c2, .slice b2 m2 d2], .agg #[.bool s3, .slice a3 n3 c3, .slice b3 m3 d3, .bool s4, .slice a4 n4 c4, .slice b4 m4 d4]] w fun e w' => RvQ w (p * t + -q * r) (K + K + (K + K + 1)) e w' := by
  obtain ⟨w0, hw0⟩ : ∃ w0, w0 = ((w.alloc (.cells #[.bool s1, .slice a1 n1 c1, .slice b1 m1 d1, .bool s2, .slice a2 n2 c2, .slice b2 m2 d2] 77)).alloc (.cells #[.bool s3, .slice a3 n3 c3, .slice b3 m3 d3, .bool s4, .slice a4 n4 c4, .slice b4 m4 d4] 77)).alloc (.cells #[.bool false, .slice none 0 0, .slice none 0 0] 43) := ⟨_, rfl⟩
  obtain ⟨u1, u2, u3, hb0, e0⟩ : Pb w0 w.heap.size 77 #[.bool s1, .slice a1 n1 c1, .slice b1 m1 d1, .bool s2, .slice a2 n2 c2, .slice b2 m2 d2] ∧ Pb w0 (w.heap.size + 1) 77 #[.bool s3, .slice a3 n3 c3, .slice b3 m3 d3, .bool s4, .slice a4 n4 c4, .slice b4 m4 d4] ∧ Pb w0 (w.heap.size + 1 + 1) 43 #[.bool false, .slice none 0 0, .slice none 0 0] ∧ Below w.heap.size w w0 ∧ w0.heap.size = w.heap.size + 1 + 1 + 1 := by
    subst hw0
    exact pb_three _ _ _ _ _
  have u3 : St w0 (w.heap.size + 1 + 1) 43 (.bool false) (.slice none 0 0) (.slice none 0 0) := u3
  obtain ⟨g, hg⟩ : ∃ g, g = w.heap.size := ⟨_, rfl⟩
  have HG : Hid (w.heap.size = g) := hg.symm
  have r1 := h1.later hb0
  have r2 := h2.later hb0
  have r3 := h3.later hb0
  have r4 := h4.later hb0
  rw [← hg] at u1 u2 u3 hb0 e0
  have HE0 : Hid (w0.heap.size = g + 1 + 1 + 1) := e0
  have hE0 : g + 3 ≤ w0.heap.size := by omega
  clear e0
  obtain ⟨⟨i0, i1, i2, i3, i4, i5⟩, _⟩ := u1.six
  obtain ⟨⟨j0, j1, j2, j3, j4, j5⟩, _⟩ := u2.six
  have hop := fun (wx : World) (h : Below w0.heap.size w0 wx) => opp22_at r2 (by have := r2.le z2; omega) h
  go_enter Tryz.func43, Tryz.ntmps43
  go_wp2
  rw [← hw0, ← hg]
  clear hw0 hg
  have hcl : ∀ w1, Below w0.heap.size w0 w1 → w1.cell? ⟨g, 0, none⟩ = some (.bool s1) ∧ w1.cell? ⟨g, 1, none⟩ = some (.slice a1 n1 c1) ∧ w1.cell? ⟨g, 2, none⟩ = some (.slice b1 m1 d1) ∧ w1.cell? ⟨g, 3, none⟩ = some (.bool s2) ∧ w1.cell? ⟨g, 4, none⟩ = some (.slice a2 n2 c2) ∧ w1.cell? ⟨g, 5, none⟩ = some (.slice b2 m2 d2) ∧ w1.cell? ⟨g + 1, 0, none⟩ = some (.bool s3) ∧ w1.cell? ⟨g + 1, 1, none⟩ = some (.slice a3 n3 c3) ∧ w1.cell? ⟨g + 1, 2, none⟩ = some (.slice b3 m3 d3) ∧ w1.cell? ⟨g + 1, 3, none⟩ = some (.bool s4) ∧ w1.cell? ⟨g + 1, 4, none⟩ = some (.slice a4 n4 c4) ∧ w1.cell? ⟨g + 1, 5, none⟩ = some (.slice b4 m4 d4) := fun w1 h => by
    obtain ⟨⟨i0, i1, i2, i3, i4, i5⟩, _⟩ := (u1.later h).six
    obtain ⟨⟨j0, j1, j2, j3, j4, j5⟩, _⟩ := (u2.later h).six
    exact ⟨i0, i1, i2, i3, i4, i5, j0, j1, j2, j3, j4, j5⟩
  have ne1 : ¬ g = g + 1 + 1 := by omega
  have ne2 : ¬ g + 1 + 1 = g := by omega
  go_region_held3 (fun w' => w'.cell? ⟨g, 0, none⟩ = some (.bool s1) ∧ w'.cell? ⟨g, 1, none⟩ = some (.slice a1 n1 c1) ∧ w'.cell? ⟨g, 2, none⟩ = some (.slice b1 m1 d1) ∧ w'.cell? ⟨g, 3, none⟩ = some (.bool s2) ∧ w'.cell? ⟨g, 4, none⟩ = some (.slice a2 n2 c2) ∧ w'.cell? ⟨g, 5, none⟩ = some (.slice b2 m2 d2) ∧ w'.cell? ⟨g + 1, 0, none⟩ = some (.bool s3) ∧ w'.cell? ⟨g + 1, 1, none⟩ = some (.slice a3 n3 c3) ∧ w'.cell? ⟨g + 1, 2, none⟩ = some (.slice b3 m3 d3) ∧ w'.cell? ⟨g + 1, 3, none⟩ = some (.bool s4) ∧ w'.cell? ⟨g + 1, 4, none⟩ = some (.slice a4 n4 c4) ∧ w'.cell? ⟨g + 1, 5, none⟩ = some (.slice b4 m4 d4)) (go_keep) (first | (go_at_call 70; refine (hop _ (by first | exact Below.refl _ _ | exact below_drewN (Below.refl _ _) _)).mono ?_; rintro e wX ⟨so, rfl, rO, hbX⟩; obtain ⟨i0, i1, i2, i3, i4, i5, j0, j1, j2, j3, j4, j5⟩ := hcl wX hbX; have al := alloc_below (w := wX) (.cells #[.bool so, .slice a2 n2 c2, .slice b2 m2 d2, .bool s3, .slice a3 n3 c3, .slice b3 m3 d3] 87); have hbY := hbX.trans (al.mono hbX.size)) | (go_at_call 41; refine (sum22_any (N := 1) (cm := 1) (L := [(-q, r)]) (r1.later hbY) (r4.later hbY) z1 z4 (prAt_one (Pb.new wX 87 _) (rO.later al) (r3.later hbY) z2.neg z3) rfl (by omega) hK).mono ?_; rintro e wZ ⟨s, a, n, c, b, m, d, rfl, hR, hz, hbZ⟩; have hB := hbY.trans (hbZ.mono hbY.size); obtain ⟨i0, i1, i2, i3, i4, i5, j0, j1, j2, j3, j4, j5⟩ := hcl wZ hB; have u9 := u3.later hB; obtain ⟨x0, x1, x2⟩ := u9.cells; obtain ⟨y0, y1, y2⟩ := u9.frozen))
  go_wp2
  have i9 := in3 wZ (g + 1 + 1) (.bool s) (.slice a n c) (.slice b m d)
  have T9 := (u9.set (.bool s) (.slice a n c) (.slice b m d)).cells
  have B3 := hb0.trans (hB.mono (by omega))
  have sY := hbY.size
  refine bodyPost_ret (v := .agg #[.bool s, .slice a n c, .slice b m d]) (by simp [results, Tryz.results43, go_sem, T9]) rfl ?_
  have HK : Hid (K + K + 1 * (K + K + 1) = K + K + (K + K + 1)) := by show _ = _; omega
  refine ⟨s, a, n, c, b, m, d, rfl, ?_, hz.mono (by rw [HK.out]; exact Nat.le_refl _), ?_⟩
  · rw [HG.out]
    exact (hR.inn i9 (by omega)).lower (by omega)
  · rw [HG.out]
    exact below_in B3 i9 (by omega) (by rw [HG.out]; exact Nat.le_refl _)
end
end Go.Proofs.YtbonkgmcpjaepabGreat

/- package pred: area2, turn, order (written by genpdd.py). -/
namespace Go.Proofs.YtbonkgmcpjaepabGreat
open Go.ChangeShapes Go.WideShapes Go.ChangeAt Go.RowKit
open Na Ar
set_option linter.unusedVariables false
/-- twice the area, as the program puts it together -/
def crR (ax ay bx by' cx cy : Rat) : Rat := (bx - ax) * (cy - ay) + -(by' - ay) * (cx - ax)
theorem pb_four (w : World) (A B C : Array Value) (x y z : Value) (t : TypeId) {t4 : TypeId} : Pb ((((w.alloc (.cells A t)).alloc (.cells B t)).alloc (.cells C t)).alloc (.cells #[x, y, z] t4)) w.heap.size t A ∧ Pb ((((w.alloc (.cells A t)).alloc (.cells B t)).alloc (.cells C t)).alloc (.cells #[x, y, z] t4)) (w.heap.size + 1) t B ∧ Pb ((((w.alloc (.cells A t)).alloc (.cells B t)).alloc (.cells C t)).alloc (.cells #[x, y, z] t4)) (w.heap.size + 1 + 1) t C ∧ St ((((w.alloc (.cells A t)).alloc (.cells B t)).alloc (.cells C t)).alloc (.cells #[x, y, z] t4)) (w.heap.size + 1 + 1 + 1) t4 x y z ∧ Below w.heap.size w ((((w.alloc (.cells A t)).alloc (.cells B t)).alloc (.cells C t)).alloc (.cells #[x, y, z] t4)) ∧ ((((w.alloc (.cells A t)).alloc (.cells B t)).alloc (.cells C t)).alloc (.cells #[x, y, z] t4)).heap.size = w.heap.size + 1 + 1 + 1 + 1 := by
  obtain ⟨p1, p2, p3, b, e⟩ := pb_three w A B C t (t2 := t) (t3 := t)
  have b4 := alloc_below (w := ((w.alloc (.cells A t)).alloc (.cells B t)).alloc (.cells C t)) (.cells #[x, y, z] t4)
  have p4 := st_new (((w.alloc (.cells A t)).alloc (.cells B t)).alloc (.cells C t)) x y z t4
  rw [e] at p4
  exact ⟨p1.later b4, p2.later b4, p3.later b4, p4, b.trans (b4.mono b.size), by simp⟩
section
variable {w : World} {s1 s2 s3 s4 s5 s6 : Bool} {a1 b1 a2 b2 a3 b3 a4 b4 a5 b5 a6 b6 : Option Addr} {n1 c1 m1 d1 n2 c2 m2 d2 n3 c3 m3 d3 n4 c4 m4 d4 n5 c5 m5 d5 n6 c6 m6 d6 : Nat} {q1 q2 q3 q4 q5 q6 : Rat} {k K : Nat}
set_option maxHeartbeats 6400000 in
set_option maxRecDepth 100000 in
theorem area22_any (h1 : Rt w s1 a1 n1 c1 b1 m1 d1 q1) (h2 : Rt w s2 a2 n2 c2 b2 m2 d2 q2) (h3 : Rt w s3 a3 n3 c3 b3 m3 d3 q3) (h4 : Rt w s4 a4 n4 c4 b4 m4 d4 q4) (h5 : Rt w s5 a5 n5 c5 b5 m5 d5 q5) (h6 : Rt w s6 a6 n6 c6 b6 m6 d6 q6) (z1 : Sz q1 k) (z2 : Sz q2 k) (z3 : Sz q3 k) (z4 : Sz q4 k) (z5 : Sz q5 k) (z6 : Sz q6 k) (hk : k ≤ 60) :
    Calls Tryz.prog 36 #[.agg #[.bool s1, .slice a1 n1 c1, .slice b1 m1 d1, .bool s2, .slice a2 n2 c2, .slice b2 m2 d2], .agg #[.bool s3, .slice a3 n3 c3, .slice b3 m3 d3, .bool s4, .slice a4 n4 c4, .slice b4 m4 d4], .agg #[.bool s5, .slice a5 n5 c5, .slice b5 m5 d5, .bool s6, .slice a6 n6 c6, .slice b6 m6 d6]] w fun e w' => RvQ w (crR q1 q2 q3 q4 q5 q6) (8 * k + 5) e w' := by
  obtain ⟨w0, hw0⟩ : ∃ w0, w0 = (((w.alloc (.cells #[.bool s1, .slice a1 n1 c1, .slice b1 m1 d1, .bool s2, .slice a2 n2 c2, .slice b2 m2 d2] 77)).alloc (.cells #[.bool s3, .slice a3 n3 c3, .slice b3 m3 d3, .bool s4, .slice a4 n4 c4, .slice b4 m4 d4] 77)).alloc (.cells #[.bool s5, .slice a5 n5 c5, .slice b5 m5 d5, .bool s6, .slice a6 n6 c6, .slice b6 m6 d6] 77)).alloc (.cells #[.bool false, .slice none 0 0, .slice none 0 0] 43) := ⟨_, rfl⟩
  obtain ⟨u1, u2, u3, u4, hb0, e0⟩ : Pb w0 w.heap.size 77 #[.bool s1, .slice a1 n1 c1, .slice b1 m1 d1, .bool s2, .slice a2 n2 c2, .slice b2 m2 d2] ∧ Pb w0 (w.heap.size + 1) 77 #[.bool s3, .slice a3 n3 c3, .slice b3 m3 d3, .bool s4, .slice a4 n4 c4, .slice b4 m4 d4] ∧ Pb w0 (w.heap.size + 1 + 1) 77 #[.bool s5, .slice a5 n5 c5, .slice b5 m5 d5, .bool s6, .slice a6 n6 c6, .slice b6 m6 d6] ∧ St w0 (w.heap.size + 1 + 1 + 1) 43 (.bool false) (.slice none 0 0) (.slice none 0 0) ∧ Below w.heap.size w w0 ∧ w0.heap.size = w.heap.size + 1 + 1 + 1 + 1 := by
    subst hw0
    exact pb_four _ _ _ _ _ _ _ _
  obtain ⟨g, hg⟩ : ∃ g, g = w.heap.size := ⟨_, rfl⟩
  have HG : Hid (w.heap.size = g) := hg.symm
  have r1 := h1.later hb0
  have r2 := h2.later hb0
  have r3 := h3.later hb0
  have r4 := h4.later hb0
  have r5 := h5.later hb0
  have r6 := h6.later hb0
  rw [← hg] at u1 u2 u3 u4 hb0 e0
  have HE0 : Hid (w0.heap.size = g + 1 + 1 + 1 + 1) := e0
  have hE0 : g + 4 ≤ w0.heap.size := by omega
  clear e0 h1 h2 h3 h4 h5 h6
  have hcl : ∀ w', Below w0.heap.size w0 w' → w'.cell? ⟨g, 0, none⟩ = some (.bool s1) ∧ w'.cell? ⟨g, 1, none⟩ = some (.slice a1 n1 c1) ∧ w'.cell? ⟨g, 2, none⟩ = some (.slice b1 m1 d1) ∧ w'.cell? ⟨g, 3, none⟩ = some (.bool s2) ∧ w'.cell? ⟨g, 4, none⟩ = some (.slice a2 n2 c2) ∧ w'.cell? ⟨g, 5, none⟩ = some (.slice b2 m2 d2) ∧ w'.cell? ⟨g + 1, 0, none⟩ = some (.bool s3) ∧ w'.cell? ⟨g + 1, 1, none⟩ = some (.slice a3 n3 c3) ∧ w'.cell? ⟨g + 1, 2, none⟩ = some (.slice b3 m3 d3) ∧ w'.cell? ⟨g + 1, 3, none⟩ = some (.bool s4) ∧ w'.cell? ⟨g + 1, 4, none⟩ = some (.slice a4 n4 c4) ∧ w'.cell? ⟨g + 1, 5, none⟩ = some (.slice b4 m4 d4) ∧ w'.cell? ⟨g + 1 + 1, 0, none⟩ = some (.bool s5) ∧ w'.cell? ⟨g + 1 + 1, 1, none⟩ = some (.slice a5 n5 c5) ∧ w'.cell? ⟨g + 1 + 1, 2, none⟩ = some (.slice b5 m5 d5) ∧ w'.cell? ⟨g + 1 + 1, 3, none⟩ = some (.bool s6) ∧ w'.cell? ⟨g + 1 + 1, 4, none⟩ = some (.slice a6 n6 c6) ∧ w'.cell? ⟨g + 1 + 1, 5, none⟩ = some (.slice b6 m6 d6) := fun w' h => by
    obtain ⟨⟨i00, i01, i02, i03, i04, i05⟩, _⟩ := (u1.later h).six
    obtain ⟨⟨i10, i11, i12, i13, i14, i15⟩, _⟩ := (u2.later h).six
    obtain ⟨⟨i20, i21, i22, i23, i24, i25⟩, _⟩ := (u3.later h).six
    exact ⟨i00, i01, i02, i03, i04, i05, i10, i11, i12, i13, i14, i15, i20, i21, i22, i23, i24, i25⟩
  obtain ⟨i00, i01, i02, i03, i04, i05, i10, i11, i12, i13, i14, i15, i20, i21, i22, i23, i24, i25⟩ := hcl w0 (Below.refl _ _)
  have hf1 := fun (wx : World) (h : Below w0.heap.size w0 wx) => from22_at r1 r2 r3 r4 z1 z2 z3 z4 (by omega) h
  have hf2 := fun (wx : World) (h : Below w0.heap.size w0 wx) => from22_at r1 r2 r5 r6 z1 z2 z5 z6 (by omega) h
  have ne0 : ¬ g = g + 1 + 1 + 1 := by omega
  have ne1 : ¬ g + 1 + 1 + 1 = g := by omega
  have ne2 : ¬ g = g + 1 + 1 := by omega
  have ne3 : ¬ g + 1 + 1 = g := by omega
  have ne4 : ¬ g + 1 = g + 1 + 1 + 1 := by omega
  have ne5 : ¬ g + 1 + 1 + 1 = g + 1 := by omega
  go_enter Tryz.func36, Tryz.ntmps36
  go_wp2
  rw [← hw0, ← hg]
  clear hw0 hg
  go_region_held3 (fun w' => w'.cell? ⟨g, 0, none⟩ = some (.bool s1) ∧ w'.cell? ⟨g, 1, none⟩ = some (.slice a1 n1 c1) ∧ w'.cell? ⟨g, 2, none⟩ = some (.slice b1 m1 d1) ∧ w'.cell? ⟨g, 3, none⟩ = some (.bool s2) ∧ w'.cell? ⟨g, 4, none⟩ = some (.slice a2 n2 c2) ∧ w'.cell? ⟨g, 5, none⟩ = some (.slice b2 m2 d2) ∧ w'.cell? ⟨g + 1, 0, none⟩ = some (.bool s3) ∧ w'.cell? ⟨g + 1, 1, none⟩ = some (.slice a3 n3 c3) ∧ w'.cell? ⟨g + 1, 2, none⟩ = some (.slice b3 m3 d3) ∧ w'.cell? ⟨g + 1, 3, none⟩ = some (.bool s4) ∧ w'.cell? ⟨g + 1, 4, none⟩ = some (.slice a4 n4 c4) ∧ w'.cell? ⟨g + 1, 5, none⟩ = some (.slice b4 m4 d4) ∧ w'.cell? ⟨g + 1 + 1, 0, none⟩ = some (.bool s5) ∧ w'.cell? ⟨g + 1 + 1, 1, none⟩ = some (.slice a5 n5 c5) ∧ w'.cell? ⟨g + 1 + 1, 2, none⟩ = some (.slice b5 m5 d5) ∧ w'.cell? ⟨g + 1 + 1, 3, none⟩ = some (.bool s6) ∧ w'.cell? ⟨g + 1 + 1, 4, none⟩ = some (.slice a6 n6 c6) ∧ w'.cell? ⟨g + 1 + 1, 5, none⟩ = some (.slice b6 m6 d6)) (go_keep) (first | (go_at_call_of 40 a3; refine (hf1 _ (by first | exact Below.refl _ _ | exact below_drewN (Below.refl _ _) _)).mono ?_; rintro e wX ⟨t1, e1, x1, f1, y1, v1, g1, t2, e2, x2, f2, y2, v2, g2, rfl, R1, R2, Z1, Z2, _, hbX⟩; obtain ⟨i00, i01, i02, i03, i04, i05, i10, i11, i12, i13, i14, i15, i20, i21, i22, i23, i24, i25⟩ := hcl wX hbX) | (go_at_call_of 40 a5; refine (hf2 _ hbX).mono ?_; rintro e wY ⟨t3, e3, x3, f3, y3, v3, g3, t4, e4, x4, f4, y4, v4, g4, rfl, R3, R4, Z3, Z4, hbY, hBY⟩; obtain ⟨i00, i01, i02, i03, i04, i05, i10, i11, i12, i13, i14, i15, i20, i21, i22, i23, i24, i25⟩ := hcl wY hBY) | (go_at_call 43; refine (cross22_any (R1.rt22.later hbY) (R2.rt22.later hbY) R3.rt22 R4.rt22 Z1 Z2 Z3 Z4 (by omega)).mono ?_; rintro e wZ ⟨s, a, n, c, b, m, d, rfl, hR, hz, hbZ⟩; have hB := hBY.trans (hbZ.mono hBY.size); obtain ⟨i00, i01, i02, i03, i04, i05, i10, i11, i12, i13, i14, i15, i20, i21, i22, i23, i24, i25⟩ := hcl wZ hB; have u9 := u4.later hB; obtain ⟨o0, o1, o2⟩ := u9.cells; obtain ⟨p0, p1, p2⟩ := u9.frozen))
  go_wp2
  have i9 := in3 wZ (g + 1 + 1 + 1) (.bool s) (.slice a n c) (.slice b m d)
  have T9 := (u9.set (.bool s) (.slice a n c) (.slice b m d)).cells
  have B3 := hb0.trans (hB.mono (by omega))
  have sY := hBY.size
  refine bodyPost_ret (v := .agg #[.bool s, .slice a n c, .slice b m d]) (by simp [results, Tryz.results36, go_sem, T9]) rfl ?_
  refine ⟨s, a, n, c, b, m, d, rfl, ?_, hz.mono (by omega), ?_⟩
  · rw [HG.out]
    exact (hR.inn i9 (by omega)).lower (by omega)
  · rw [HG.out]
    exact below_in B3 i9 (by omega) (by rw [HG.out]; exact Nat.le_refl _)
set_option maxHeartbeats 6400000 in
set_option maxRecDepth 100000 in
theorem turn22_any (h1 : Rt w s1 a1 n1 c1 b1 m1 d1 q1) (h2 : Rt w s2 a2 n2 c2 b2 m2 d2 q2) (h3 : Rt w s3 a3 n3 c3 b3 m3 d3 q3) (h4 : Rt w s4 a4 n4 c4 b4 m4 d4 q4) (h5 : Rt w s5 a5 n5 c5 b5 m5 d5 q5) (h6 : Rt w s6 a6 n6 c6 b6 m6 d6 q6) (z1 : Sz q1 k) (z2 : Sz q2 k) (z3 : Sz q3 k) (z4 : Sz q4 k) (z5 : Sz q5 k) (z6 : Sz q6 k) (hk : k ≤ 60) :
    Calls Tryz.prog 35 #[.agg #[.bool s1, .slice a1 n1 c1, .slice b1 m1 d1, .bool s2, .slice a2 n2 c2, .slice b2 m2 d2], .agg #[.bool s3, .slice a3 n3 c3, .slice b3 m3 d3, .bool s4, .slice a4 n4 c4, .slice b4 m4 d4], .agg #[.bool s5, .slice a5 n5 c5, .slice b5 m5 d5, .bool s6, .slice a6 n6 c6, .slice b6 m6 d6]] w fun e w' => e = .returned (.int .i64 (sgnR (crR q1 q2 q3 q4 q5 q6))) ∧ Below w.heap.size w w' := by
  obtain ⟨w0, hw0⟩ : ∃ w0, w0 = ((w.alloc (.cells #[.bool s1, .slice a1 n1 c1, .slice b1 m1 d1, .bool s2, .slice a2 n2 c2, .slice b2 m2 d2] 77)).alloc (.cells #[.bool s3, .slice a3 n3 c3, .slice b3 m3 d3, .bool s4, .slice a4 n4 c4, .slice b4 m4 d4] 77)).alloc (.cells #[.bool s5, .slice a5 n5 c5, .slice b5 m5 d5, .bool s6, .slice a6 n6 c6, .slice b6 m6 d6] 77) := ⟨_, rfl⟩
  obtain ⟨_, _, _, hb0, _⟩ : Pb w0 w.heap.size 77 #[.bool s1, .slice a1 n1 c1, .slice b1 m1 d1, .bool s2, .slice a2 n2 c2, .slice b2 m2 d2] ∧ Pb w0 (w.heap.size + 1) 77 #[.bool s3, .slice a3 n3 c3, .slice b3 m3 d3, .bool s4, .slice a4 n4 c4, .slice b4 m4 d4] ∧ Pb w0 (w.heap.size + 1 + 1) 77 #[.bool s5, .slice a5 n5 c5, .slice b5 m5 d5, .bool s6, .slice a6 n6 c6, .slice b6 m6 d6] ∧ Below w.heap.size w w0 ∧ w0.heap.size = w.heap.size + 1 + 1 + 1 := by
    subst hw0
    exact pb_three _ _ _ _ _
  have ha := area22_any (h1.later hb0) (h2.later hb0) (h3.later hb0) (h4.later hb0) (h5.later hb0) (h6.later hb0) z1 z2 z3 z4 z5 z6 hk
  generalize crR q1 q2 q3 q4 q5 q6 = Q at *
  clear h1 h2 h3 h4 h5 h6 z1 z2 z3 z4 z5 z6
  go_enter Tryz.func35, Tryz.ntmps35
  go_wp2_with fail
  rw [← hw0]
  refine ha.mono ?_
  rintro e wA ⟨s, a, n, c, b, m, d, rfl, hR, hz, hbA⟩
  have hB := hb0.trans (hbA.mono hb0.size)
  clear ha hw0
  go_wp2_with fail
  refine (rSign_any hR.rt22 (by have := hR.rt22.le hz; omega) rfl).mono ?_
  rintro e wB ⟨rfl, hbB⟩
  go_wp2
  go_ret
  exact ⟨rfl, hB.trans (hbB.mono hB.size)⟩
end
end Go.Proofs.YtbonkgmcpjaepabGreat

/- package pred: order, spotsOf. -/
namespace Go.Proofs.YtbonkgmcpjaepabGreat
open Go.ChangeShapes Go.WideShapes Go.ChangeAt Go.RowKit
open Na Ar
set_option linter.unusedVariables false
/-- by x, then y -/
def ordS (ax ay bx by' : Rat) : Int := if ordR ax bx = 0 then ordR ay by' else ordR ax bx
section
variable {w : World} {s1 s2 s3 s4 : Bool} {a1 b1 a2 b2 a3 b3 a4 b4 : Option Addr} {n1 c1 m1 d1 n2 c2 m2 d2 n3 c3 m3 d3 n4 c4 m4 d4 : Nat} {p q r t : Rat} {k : Nat}
set_option maxHeartbeats 6400000 in
set_option maxRecDepth 100000 in
theorem order22_any (h1 : Rt w s1 a1 n1 c1 b1 m1 d1 p) (h2 : Rt w s2 a2 n2 c2 b2 m2 d2 q) (h3 : Rt w s3 a3 n3 c3 b3 m3 d3 r) (h4 : Rt w s4 a4 n4 c4 b4 m4 d4 t) (z1 : Sz p k) (z2 : Sz q k) (z3 : Sz r k) (z4 : Sz t k) (hk : k ≤ 600) :
    Calls Tryz.prog 47 #[.agg #[.bool s1, .slice a1 n1 c1, .slice b1 m1 d1, .bool s2, .slice a2 n2 c2, .slice b2 m2 d2], .agg #[.bool s3, .slice a3 n3 c3, .slice b3 m3 d3, .bool s4, .slice a4 n4 c4, .slice b4 m4 d4]] w fun e w' => e = .returned (.int .i64 (ordS p q r t)) ∧ Below w.heap.size w w' := by
  obtain ⟨w0, hw0⟩ : ∃ w0, w0 = (w.alloc (.cells #[.bool s1, .slice a1 n1 c1, .slice b1 m1 d1, .bool s2, .slice a2 n2 c2, .slice b2 m2 d2] 77)).alloc (.cells #[.bool s3, .slice a3 n3 c3, .slice b3 m3 d3, .bool s4, .slice a4 n4 c4, .slice b4 m4 d4] 77) := ⟨_, rfl⟩
  obtain ⟨u1, u2, hb0⟩ : Pb w0 w.heap.size 77 #[.bool s1, .slice a1 n1 c1, .slice b1 m1 d1, .bool s2, .slice a2 n2 c2, .slice b2 m2 d2] ∧ Pb w0 (w.heap.size + 1) 77 #[.bool s3, .slice a3 n3 c3, .slice b3 m3 d3, .bool s4, .slice a4 n4 c4, .slice b4 m4 d4] ∧ Below w.heap.size w w0 := by
    subst hw0
    exact pb_two' _ _ _ _ _
  have c1 := rCmp_ok (h1.later hb0) (h3.later hb0) z1 z3 (by omega) rfl
  have r2 := h2.later hb0
  have r4 := h4.later hb0
  clear h1 h2 h3 h4
  by_cases h0 : ordR p r = 0
  · have HE : Hid (ordR q t = ordS p q r t) := by show _ = _; unfold ordS; rw [if_pos h0]
    rw [h0] at c1
    clear h0
    go_enter Tryz.func47, Tryz.ntmps47
    go_wp2_with fail
    rw [← hw0]
    refine c1.mono ?_
    rintro e wA ⟨rfl, hbA⟩
    have hB := hb0.trans (hbA.mono hb0.size)
    obtain ⟨⟨i0, i1, i2, i3, i4, i5⟩, _⟩ := (u1.later hbA).six
    obtain ⟨⟨j0, j1, j2, j3, j4, j5⟩, _⟩ := (u2.later hbA).six
    have cc := rCmp_ok (r2.later hbA) (r4.later hbA) z2 z4 (by omega) HE.out
    clear c1 hw0
    go_wp2_with fail
    refine cc.mono ?_
    rintro e wB ⟨rfl, hbB⟩
    go_wp2
    go_ret
    exact ⟨rfl, hB.trans (hbB.mono hB.size)⟩
  · have HE : Hid (ordR p r = ordS p q r t) := by show _ = _; unfold ordS; rw [if_neg h0]
    have ht : (ordR p r == 0) = false := beq_no h0
    rw [HE.out] at c1 ht
    clear h0
    go_enter Tryz.func47, Tryz.ntmps47
    go_wp2_with fail
    rw [← hw0]
    refine c1.mono ?_
    rintro e wA ⟨rfl, hbA⟩
    have hB := hb0.trans (hbA.mono hb0.size)
    clear c1 hw0
    go_wp2
    go_ret
    exact ⟨rfl, hB⟩
end
theorem order22_at {w w0 : World} {s1 s2 s3 s4 : Bool} {a1 b1 a2 b2 a3 b3 a4 b4 : Option Addr} {n1 c1 m1 d1 n2 c2 m2 d2 n3 c3 m3 d3 n4 c4 m4 d4 : Nat} {p q r t : Rat} {k : Nat} (h1 : Rt w0 s1 a1 n1 c1 b1 m1 d1 p) (h2 : Rt w0 s2 a2 n2 c2 b2 m2 d2 q) (h3 : Rt w0 s3 a3 n3 c3 b3 m3 d3 r) (h4 : Rt w0 s4 a4 n4 c4 b4 m4 d4 t) (z1 : Sz p k) (z2 : Sz q k) (z3 : Sz r k) (z4 : Sz t k) (hk : k ≤ 600) (h : Below w0.heap.size w0 w) :
    Calls Tryz.prog 47 #[.agg #[.bool s1, .slice a1 n1 c1, .slice b1 m1 d1, .bool s2, .slice a2 n2 c2, .slice b2 m2 d2], .agg #[.bool s3, .slice a3 n3 c3, .slice b3 m3 d3, .bool s4, .slice a4 n4 c4, .slice b4 m4 d4]] w fun e w' => e = .returned (.int .i64 (ordS p q r t)) ∧ Below w0.heap.size w0 w' := by
  refine (order22_any (h1.later h) (h2.later h) (h3.later h) (h4.later h) z1 z2 z3 z4 hk).mono ?_
  rintro e w' ⟨rfl, hb⟩
  exact ⟨rfl, h.trans (hb.mono h.size)⟩
theorem turn22_at {w w0 : World} {s1 s2 s3 s4 s5 s6 : Bool} {a1 b1 a2 b2 a3 b3 a4 b4 a5 b5 a6 b6 : Option Addr} {n1 c1 m1 d1 n2 c2 m2 d2 n3 c3 m3 d3 n4 c4 m4 d4 n5 c5 m5 d5 n6 c6 m6 d6 : Nat} {q1 q2 q3 q4 q5 q6 : Rat} {k : Nat} (h1 : Rt w0 s1 a1 n1 c1 b1 m1 d1 q1) (h2 : Rt w0 s2 a2 n2 c2 b2 m2 d2 q2) (h3 : Rt w0 s3 a3 n3 c3 b3 m3 d3 q3) (h4 : Rt w0 s4 a4 n4 c4 b4 m4 d4 q4) (h5 : Rt w0 s5 a5 n5 c5 b5 m5 d5 q5) (h6 : Rt w0 s6 a6 n6 c6 b6 m6 d6 q6) (z1 : Sz q1 k) (z2 : Sz q2 k) (z3 : Sz q3 k) (z4 : Sz q4 k) (z5 : Sz q5 k) (z6 : Sz q6 k) (hk : k ≤ 60) (h : Below w0.heap.size w0 w) :
    Calls Tryz.prog 35 #[.agg #[.bool s1, .slice a1 n1 c1, .slice b1 m1 d1, .bool s2, .slice a2 n2 c2, .slice b2 m2 d2], .agg #[.bool s3, .slice a3 n3 c3, .slice b3 m3 d3, .bool s4, .slice a4 n4 c4, .slice b4 m4 d4], .agg #[.bool s5, .slice a5 n5 c5, .slice b5 m5 d5, .bool s6, .slice a6 n6 c6, .slice b6 m6 d6]] w fun e w' => e = .returned (.int .i64 (sgnR (crR q1 q2 q3 q4 q5 q6))) ∧ Below w0.heap.size w0 w' := by
  refine (turn22_any (h1.later h) (h2.later h) (h3.later h) (h4.later h) (h5.later h) (h6.later h) z1 z2 z3 z4 z5 z6 hk).mono ?_
  rintro e w' ⟨rfl, hb⟩
  exact ⟨rfl, h.trans (hb.mono h.size)⟩
theorem order22_any' {w0 : World} {s1 s2 s3 s4 : Bool} {a1 b1 a2 b2 a3 b3 a4 b4 : Option Addr} {n1 c1 m1 d1 n2 c2 m2 d2 n3 c3 m3 d3 n4 c4 m4 d4 : Nat} {p q r t : Rat} {k : Nat} (h1 : Rt w0 s1 a1 n1 c1 b1 m1 d1 p) (h2 : Rt w0 s2 a2 n2 c2 b2 m2 d2 q) (h3 : Rt w0 s3 a3 n3 c3 b3 m3 d3 r) (h4 : Rt w0 s4 a4 n4 c4 b4 m4 d4 t) (z1 : Sz p k) (z2 : Sz q k) (z3 : Sz r k) (z4 : Sz t k) (hk : k ≤ 600) : ∀ w, Below w0.heap.size w0 w →
    Calls Tryz.prog 47 #[.agg #[.bool s1, .slice a1 n1 c1, .slice b1 m1 d1, .bool s2, .slice a2 n2 c2, .slice b2 m2 d2], .agg #[.bool s3, .slice a3 n3 c3, .slice b3 m3 d3, .bool s4, .slice a4 n4 c4, .slice b4 m4 d4]] w fun e w' => e = .returned (.int .i64 (ordS p q r t)) ∧ Below w0.heap.size w0 w' := fun w h => order22_at h1 h2 h3 h4 z1 z2 z3 z4 hk h
theorem turn22_any' {w0 : World} {s1 s2 s3 s4 s5 s6 : Bool} {a1 b1 a2 b2 a3 b3 a4 b4 a5 b5 a6 b6 : Option Addr} {n1 c1 m1 d1 n2 c2 m2 d2 n3 c3 m3 d3 n4 c4 m4 d4 n5 c5 m5 d5 n6 c6 m6 d6 : Nat} {q1 q2 q3 q4 q5 q6 : Rat} {k : Nat} (h1 : Rt w0 s1 a1 n1 c1 b1 m1 d1 q1) (h2 : Rt w0 s2 a2 n2 c2 b2 m2 d2 q2) (h3 : Rt w0 s3 a3 n3 c3 b3 m3 d3 q3) (h4 : Rt w0 s4 a4 n4 c4 b4 m4 d4 q4) (h5 : Rt w0 s5 a5 n5 c5 b5 m5 d5 q5) (h6 : Rt w0 s6 a6 n6 c6 b6 m6 d6 q6) (z1 : Sz q1 k) (z2 : Sz q2 k) (z3 : Sz q3 k) (z4 : Sz q4 k) (z5 : Sz q5 k) (z6 : Sz q6 k) (hk : k ≤ 60) : ∀ w, Below w0.heap.size w0 w →
    Calls Tryz.prog 35 #[.agg #[.bool s1, .slice a1 n1 c1, .slice b1 m1 d1, .bool s2, .slice a2 n2 c2, .slice b2 m2 d2], .agg #[.bool s3, .slice a3 n3 c3, .slice b3 m3 d3, .bool s4, .slice a4 n4 c4, .slice b4 m4 d4], .agg #[.bool s5, .slice a5 n5 c5, .slice b5 m5 d5, .bool s6, .slice a6 n6 c6, .slice b6 m6 d6]] w fun e w' => e = .returned (.int .i64 (sgnR (crR q1 q2 q3 q4 q5 q6))) ∧ Below w0.heap.size w0 w' := fun w h => turn22_at h1 h2 h3 h4 h5 h6 z1 z2 z3 z4 z5 z6 hk h
/-- a list of points in memory: the patterns of the point number i -/
def PtAt (w : World) (g o : Nat) (P : Nat → Int × Int) (n : Nat) : Prop := ∀ i, i < n → w.cell? ⟨g, o + i * 2, none⟩ = some (.int .u64 (P i).1) ∧ w.cell? ⟨g, o + i * 2 + 1, none⟩ = some (.int .u64 (P i).2) ∧ U (P i).1 ∧ U (P i).2
/-- the Rat number t of a block of Rats -/
def RaAt (w : World) (base : Nat) (cs : Array Value) (t : Nat) (q : Rat) : Prop := ∃ s a n c b m d, cs[t * 3]? = some (.bool s) ∧ cs[t * 3 + 1]? = some (.slice a n c) ∧ cs[t * 3 + 2]? = some (.slice b m d) ∧ RtO w base s (.slice a n c) (.slice b m d) q
/-- the number of the pattern number t of a list of points -/
def numT (P : Nat → Int × Int) (t : Nat) : Int := if t % 2 = 0 then (P (t / 2)).1 else (P (t / 2)).2
theorem info_spot22 : (Tryz.prog.info? 77).map (fun i => (i.zero, i.size, i.bytes)) = some (some (.agg #[.bool false, .slice none 0 0, .slice none 0 0, .bool false, .slice none 0 0, .slice none 0 0]), 6, 112) := by kernel_rfl
theorem under_spot22 : Tryz.prog.underlying 58 = some (.slice 77) := by kernel_rfl
theorem make22 (w : World) (n : Nat) (hn : n ≤ 1000000) : ∃ cs, cs.size = n * 6 ∧ (Instr.makeSlice 58 (.int .i64 (n : Int)) (.int .i64 (n : Int))).run Tryz.prog w = .ok (.slice (some ⟨w.heap.size, 0, none⟩) n n) (w.alloc (.cells cs 77)) := by
  cases hi : Tryz.prog.info? 77 with
  | none => have h := info_spot22; rw [hi] at h; cases h
  | some i =>
    have h := info_spot22
    rw [hi] at h
    simp only [Option.map_some, Option.some.injEq, Prod.mk.injEq] at h
    obtain ⟨h1, h2, h3⟩ := h
    have hr := run_make (P := Tryz.prog) w 58 77 i _ under_spot22 hi h1 .i64 .i64 (n : Int) (n : Int) (by omega) (by omega) (by rw [h3]; omega) (by omega)
    refine ⟨_, ?_, by simpa using hr⟩
    rw [size_madeCells, h2]
theorem index22_0 (x y : Int) (w : World) : (Instr.index 92 (.agg #[.int .u64 x, .int .u64 y]) (.int .i64 0)).run Tryz.prog w = .ok (.int .u64 x) w := by kernel_rfl
theorem index22_1 (x y : Int) (w : World) : (Instr.index 92 (.agg #[.int .u64 x, .int .u64 y]) (.int .i64 1)).run Tryz.prog w = .ok (.int .u64 y) w := by kernel_rfl
theorem raAt_later {w w' : World} {base : Nat} {cs : Array Value} {t : Nat} {q : Rat} (h : RaAt w base cs t q) (hb : Below w.heap.size w w') : RaAt w' base cs t q := by
  obtain ⟨s, a, n, c, b, m, d, e1, e2, e3, r⟩ := h
  exact ⟨s, a, n, c, b, m, d, e1, e2, e3, r.later hb⟩
theorem three_at {w : World} {g : Nat} {t : TypeId} {cs : Array Value} (h : Pb w g t cs) (i : Nat) (hi : i + 2 < cs.size) : (∃ v, w.cell? ⟨g, i, none⟩ = some v) ∧ (∃ v, w.cell? ⟨g, i + 1, none⟩ = some v) ∧ (∃ v, w.cell? ⟨g, i + 2, none⟩ = some v) :=
  ⟨⟨cs[i], h.cell i (by simp [show i < cs.size by omega])⟩, ⟨cs[i + 1], h.cell (i + 1) (by simp [show i + 1 < cs.size by omega])⟩, ⟨cs[i + 2], h.cell (i + 2) (by simp [show i + 2 < cs.size by omega])⟩⟩
theorem three_free {w : World} {g : Nat} {t : TypeId} {cs : Array Value} (h : Pb w g t cs) (i : Nat) : w.frozen? ⟨g, i, none⟩ = false ∧ w.frozen? ⟨g, i + 1, none⟩ = false ∧ w.frozen? ⟨g, i + 2, none⟩ = false := ⟨h.frozen _, h.frozen _, h.frozen _⟩
theorem ra_set {w : World} {o k T base : Nat} {ty : TypeId} {cs : Array Value} {s : Bool} {a b : Option Addr} {n c m d : Nat} {q : Rat} (h : Pb w o ty cs) (hk : k = T * 3) (hT : k + 2 < cs.size) (hR : RtO w base s (.slice a n c) (.slice b m d) q) (hb : o < base) :
    ∃ cs', cs'.size = cs.size ∧ Pb ((((w.setCell ⟨o, k, none⟩ (.bool s)).setCell ⟨o, k + 1, none⟩ (.slice a n c)).setCell ⟨o, k + 2, none⟩ (.slice b m d)).drew) o ty cs' ∧ RaAt ((((w.setCell ⟨o, k, none⟩ (.bool s)).setCell ⟨o, k + 1, none⟩ (.slice a n c)).setCell ⟨o, k + 2, none⟩ (.slice b m d)).drew) base cs' T q ∧ (∀ t p, t ≠ T → RaAt w base cs t p → RaAt ((((w.setCell ⟨o, k, none⟩ (.bool s)).setCell ⟨o, k + 1, none⟩ (.slice a n c)).setCell ⟨o, k + 2, none⟩ (.slice b m d)).drew) base cs' t p) ∧ In o (o + 1) w ((((w.setCell ⟨o, k, none⟩ (.bool s)).setCell ⟨o, k + 1, none⟩ (.slice a n c)).setCell ⟨o, k + 2, none⟩ (.slice b m d)).drew) := by
  have hi : In o (o + 1) w ((((w.setCell ⟨o, k, none⟩ (.bool s)).setCell ⟨o, k + 1, none⟩ (.slice a n c)).setCell ⟨o, k + 2, none⟩ (.slice b m d)).drew) := ((((In.refl o (o + 1) w).set1 k _).set1 (k + 1) _).set1 (k + 2) _).trans (in_drew o _)
  refine ⟨((cs.setIfInBounds k (.bool s)).setIfInBounds (k + 1) (.slice a n c)).setIfInBounds (k + 2) (.slice b m d), by simp, ((h.set k _).set (k + 1) _).set (k + 2) _, ?_, ?_, hi⟩
  · subst hk
    refine ⟨s, a, n, c, b, m, d, ?_, ?_, ?_, hR.inn hi hb⟩
    · simp [show T * 3 < cs.size by omega]
    · simp [show T * 3 + 1 < cs.size by omega]
    · simp [show T * 3 + 2 < cs.size by omega]
  · rintro t p ht ⟨s', a', n', c', b', m', d', e1, e2, e3, r⟩
    subst hk
    refine ⟨s', a', n', c', b', m', d', ?_, ?_, ?_, r.inn hi hb⟩
    · rw [Array.getElem?_setIfInBounds_ne (by omega), Array.getElem?_setIfInBounds_ne (by omega), Array.getElem?_setIfInBounds_ne (by omega)]; exact e1
    · rw [Array.getElem?_setIfInBounds_ne (by omega), Array.getElem?_setIfInBounds_ne (by omega), Array.getElem?_setIfInBounds_ne (by omega)]; exact e2
    · rw [Array.getElem?_setIfInBounds_ne (by omega), Array.getElem?_setIfInBounds_ne (by omega), Array.getElem?_setIfInBounds_ne (by omega)]; exact e3
/-- what spotsOf answers -/
def SpQ (w : World) (n : Nat) (P : Nat → Int × Int) (e : Ending) (w' : World) : Prop :=
  ((∀ t, t < 2 * n → ef (numT P t) ≠ 2047) ∧ ∃ o cs, e = .returned (.tuple #[.slice (some ⟨o, 0, none⟩) n n, .int .i64 0]) ∧ Pb w' o 77 cs ∧ w.heap.size ≤ o ∧ cs.size = n * 6 ∧ (∀ t, t < 2 * n → RaAt w' (o + 1) cs t (valR (numT P t))) ∧ Below w.heap.size w w') ∨
  ((∃ t, t < 2 * n ∧ ef (numT P t) = 2047) ∧ e = .returned (.tuple #[.slice none 0 0, .int .i64 220]) ∧ Below w.heap.size w w')
set_option maxHeartbeats 6400000 in
set_option maxRecDepth 100000 in
theorem spots22_any {w : World} {g n c : Nat} {P : Nat → Int × Int} (hP : PtAt w g 0 P n) (hg : g < w.heap.size) (hn : n ≤ 1000000) :
    Calls Tryz.prog 24 #[.slice (some ⟨g, 0, none⟩) n c] w fun e w' => SpQ w n P e w' := by
  obtain ⟨cs0, hcs0, hmk⟩ := make22 w n hn
  have hb0 := alloc_below (w := w) (.cells cs0 77)
  have p0 := Pb.new w 77 cs0
  obtain ⟨o, ho⟩ : ∃ o, o = w.heap.size := ⟨_, rfl⟩
  have HO : Hid (w.heap.size = o) := ho.symm
  rw [← ho] at hmk p0
  clear ho
  go_enter Tryz.func24, Tryz.ntmps24
  go_wp2
  clear hmk
  generalize w.alloc (.cells cs0 77) = w0 at *
  go_loopw [16] (fun i wr => ∃ (j : Nat) (cs : Array Value), j ≤ n ∧ i = .int .i64 j ∧ Pb wr o 77 cs ∧ cs.size = n * 6 ∧ (∀ t, t < 2 * j → ef (numT P t) ≠ 2047 ∧ RaAt wr (o + 1) cs t (valR (numT P t))) ∧ Below w.heap.size w wr) (fun i _ => n - (intOf i).toNat)
  case atStart => exact ⟨0, cs0, Nat.zero_le _, rfl, p0, hcs0, fun t ht => absurd ht (by omega), hb0⟩
  case round =>
    obtain ⟨j, cs, hj, rfl, hPb, hcs, hT, hB⟩ := hrel
    clear p0 hb0
    by_cases hlt : j < n
    · have i1 : (j : Int) < (n : Int) := by omega
      have hi0 : (0 : Int) ≤ (j : Int) := by omega
      obtain ⟨x0, x1, ux, uy⟩ := hP j hlt
      simp only [Nat.zero_add] at x0 x1
      have X0 := (hB.cell (p := ⟨g, j * 2, none⟩) hg).trans x0
      have X1 := (hB.cell (p := ⟨g, j * 2 + 1, none⟩) hg).trans x1
      have eX : numT P (2 * j) = (P j).1 := by unfold numT; rw [if_pos (by omega)]; congr 2; omega
      have eY : numT P (2 * j + 1) = (P j).2 := by unfold numT; rw [if_neg (by omega)]; congr 2; omega
      have HX : Hid (numT P (2 * j) = (P j).1) := eX
      have HY : Hid (numT P (2 * j + 1) = (P j).2) := eY
      clear eX eY x0 x1
      generalize (P j).1 = x at *
      generalize (P j).2 = y at *
      have al := alloc_below (w := wr) (.cells #[.int .u64 x, .int .u64 y] 34)
      have szr : (wr.alloc (.cells #[.int .u64 x, .int .u64 y] 34)).heap.size = wr.heap.size + 1 := by simp
      have ob := hPb.lt
      have oH := HO.out
      have wo : w.heap.size ≤ o := by rw [oH]; exact Nat.le_refl _
      clear oH
      have hBs := hB.size
      have P1 := hPb.later al
      have T1 := fun t ht => raAt_later (hT t ht).2 al
      have B1 := hB.trans (al.mono hBs)
      go_wp2
      generalize wr.alloc (.cells #[.int .u64 x, .int .u64 y] 34) = w1 at *
      clear X0 X1
      have ix0 := index22_0 x y
      have ix1 := index22_1 x y
      refine wp_loop_rounds 3 ?_
      rw [rounds_succ]
      by_cases fx : ef x = 2047
      · go_wp2_with fail
        refine (nearValue_inf ux fx w1).mono ?_
        rintro e wX ⟨rfl, hbX⟩
        have B2 := B1.trans (hbX.mono (by omega))
        have al2 := alloc_below (w := wX) (.cells #[.bool false, .slice none 0 0, .slice none 0 0] 43)
        have B3 := B2.trans (al2.mono B2.size)
        go_wp2
        go_ret2
        exact Or.inr ⟨⟨2 * j, by omega, by rw [HX.out]; exact fx⟩, rfl, B3⟩
      · have Fx : Hid (ef x ≠ 2047) := fx
        go_wp2_with fail
        refine (nearValue_fin ux fx w1).mono ?_
        rintro e wX ⟨s, v1, v2, rfl, hR, hbX⟩
        obtain ⟨a, k, d, b, m, q, rfl, rfl, _⟩ := hR.opens
        have B2 := B1.trans (hbX.mono (by omega))
        have al2 := alloc_below (w := wX) (.cells #[.bool s, .slice a k d, .slice b m q] 43)
        have B3 := B2.trans (al2.mono B2.size)
        have P2 := (P1.later hbX).later al2
        have T2 := fun t ht => raAt_later (raAt_later (T1 t ht) hbX) al2
        have R2 := hR.later al2
        have sX := hbX.size
        have szX : (wX.alloc (.cells #[.bool s, .slice a k d, .slice b m q] 43)).heap.size = wX.heap.size + 1 := by simp
        obtain ⟨⟨c0, k0⟩, ⟨c1, k1⟩, ⟨c2, k2⟩⟩ := three_at P2 (j * 6) (by omega)
        obtain ⟨f0, f1, f2⟩ := three_free P2 (j * 6)
        obtain ⟨n0, n1, n2⟩ := pb_tri (Pb.new wX 43 #[.bool s, .slice a k d, .slice b m q])
        have nw1 : ¬ o = wX.heap.size := by omega
        have nw2 : ¬ wX.heap.size = o := by omega
        have hj0 : (0 : Int) ≤ (j : Int) := by omega
        clear al2 B2
        go_wp2
        generalize wX.alloc (.cells #[.bool s, .slice a k d, .slice b m q] 43) = w2 at *
        go_region
        obtain ⟨cs1, hcs1, P3, RA, RO, I3⟩ := ra_set (k := j * 6) (T := 2 * j) P2 (by omega) (by omega) (R2.lower (base' := o + 1) (by omega)) (by omega)
        rw [← HX.out] at RA
        have T3 : ∀ t, t < 2 * j + 1 → RaAt _ (o + 1) cs1 t (valR (numT P t)) := fun t ht => by
          by_cases e : t = 2 * j
          · subst e; exact RA
          · exact RO t _ e (T2 t (by omega))
        have B4 := below_in B3 I3 wo (Nat.le_refl _)
        have s4 := I3.size
        rw [hcs] at hcs1
        clear k0 k1 k2 f0 f1 f2 P2 T2 R2 RO RA I3 B3 n0 n1 n2
        generalize (((w2.setCell ⟨o, j * 6, none⟩ (.bool s)).setCell ⟨o, j * 6 + 1, none⟩ (.slice a k d)).setCell ⟨o, j * 6 + 2, none⟩ (.slice b m q)).drew = w4 at *
        go_wp2
        rw [rounds_succ]
        by_cases fy : ef y = 2047
        · go_wp2_with fail
          refine (nearValue_inf uy fy w4).mono ?_
          rintro e wY ⟨rfl, hbY⟩
          have B5 := B4.trans (hbY.mono (by omega))
          have al3 := alloc_below (w := wY) (.cells #[.bool false, .slice none 0 0, .slice none 0 0] 43)
          have B6 := B5.trans (al3.mono B5.size)
          go_wp2
          go_ret2
          exact Or.inr ⟨⟨2 * j + 1, by omega, by rw [HY.out]; exact fy⟩, rfl, B6⟩
        · have Fy : Hid (ef y ≠ 2047) := fy
          go_wp2_with fail
          refine (nearValue_fin uy fy w4).mono ?_
          rintro e wY ⟨s', v1, v2, rfl, hR', hbY⟩
          obtain ⟨a', k', d', b', m', q', rfl, rfl, _⟩ := hR'.opens
          have B5 := B4.trans (hbY.mono (by omega))
          have al3 := alloc_below (w := wY) (.cells #[.bool s', .slice a' k' d', .slice b' m' q'] 43)
          have B6 := B5.trans (al3.mono B5.size)
          have P5 := (P3.later hbY).later al3
          have T5 := fun t ht => raAt_later (raAt_later (T3 t ht) hbY) al3
          have R5 := hR'.later al3
          have sY := hbY.size
          have szY : (wY.alloc (.cells #[.bool s', .slice a' k' d', .slice b' m' q'] 43)).heap.size = wY.heap.size + 1 := by simp
          obtain ⟨⟨c0', k0⟩, ⟨c1', k1⟩, ⟨c2', k2⟩⟩ := three_at P5 (j * 6 + 3) (by omega)
          obtain ⟨f0, f1, f2⟩ := three_free P5 (j * 6 + 3)
          obtain ⟨n0, n1, n2⟩ := pb_tri (Pb.new wY 43 #[.bool s', .slice a' k' d', .slice b' m' q'])
          have nw1 : ¬ o = wY.heap.size := by omega
          have nw2 : ¬ wY.heap.size = o := by omega
          clear al3 B5 P3 T3
          go_wp2
          generalize wY.alloc (.cells #[.bool s', .slice a' k' d', .slice b' m' q'] 43) = w5 at *
          go_region
          obtain ⟨cs2, hcs2, P6, RA, RO, I6⟩ := ra_set (k := j * 6 + 3) (T := 2 * j + 1) P5 (by omega) (by omega) (R5.lower (base' := o + 1) (by omega)) (by omega)
          rw [← HY.out] at RA
          have T6 : ∀ t, t < 2 * (j + 1) → ef (numT P t) ≠ 2047 ∧ RaAt _ (o + 1) cs2 t (valR (numT P t)) := fun t ht => by
            by_cases e : t = 2 * j + 1
            · subst e; exact ⟨by rw [HY.out]; exact Fy.out, RA⟩
            · refine ⟨?_, RO t _ e (T5 t (by omega))⟩
              by_cases e' : t = 2 * j
              · subst e'; rw [HX.out]; exact Fx.out
              · exact (hT t (by omega)).1
          have B7 := below_in B6 I6 wo (Nat.le_refl _)
          rw [hcs1] at hcs2
          clear k0 k1 k2 f0 f1 f2 P5 T5 R5 RO RA I6 B6 n0 n1 n2
          generalize (((w5.setCell ⟨o, j * 6 + 3, none⟩ (.bool s')).setCell ⟨o, j * 6 + 3 + 1, none⟩ (.slice a' k' d')).setCell ⟨o, j * 6 + 3 + 2, none⟩ (.slice b' m' q')).drew = w7 at *
          go_wp2
          rw [rounds_succ]
          go_wp2
          go_roundw
          case rel => exact ⟨j + 1, cs2, hlt, by go_num, P6, hcs2, T6, B7⟩
          case measure => simp [intOf]; omega
    · have i1 : ¬ (j : Int) < (n : Int) := by omega
      have hjn : j = n := by omega
      subst hjn
      have ob := HO.out
      go_wp2
      go_ret2
      exact Or.inl ⟨fun t ht => (hT t ht).1, o, cs, rfl, hPb, by rw [ob]; exact Nat.le_refl _, hcs, fun t ht => (hT t ht).2, hB⟩
end Go.Proofs.YtbonkgmcpjaepabGreat

/- package pred: Order, Orient, Area2, Nearer, Between (written by genpdf.py). -/
namespace Go.Proofs.YtbonkgmcpjaepabGreat
open Go.ChangeShapes Go.WideShapes Go.ChangeAt Go.RowKit
open Na Ar
set_option linter.unusedVariables false
/-- both patterns are words; they are numbers' -/
def U2 (p : Int × Int) : Prop := U p.1 ∧ U p.2
def fin2 (p : Int × Int) : Prop := ef p.1 ≠ 2047 ∧ ef p.2 ≠ 2047
theorem fin_iff {P : Nat → Int × Int} {n : Nat} : (∀ t, t < 2 * n → ef (numT P t) ≠ 2047) ↔ ∀ i, i < n → fin2 (P i) := by
  constructor
  · intro h i hi
    have h1 := h (2 * i) (by omega)
    have h2 := h (2 * i + 1) (by omega)
    unfold numT at h1 h2
    rw [if_pos (by omega), show 2 * i / 2 = i by omega] at h1
    rw [if_neg (by omega), show (2 * i + 1) / 2 = i by omega] at h2
    exact ⟨h1, h2⟩
  · intro h t ht
    unfold numT
    split
    · exact (h _ (by omega)).1
    · exact (h _ (by omega)).2
/-- a Rat at its place in a block, opened -/
def S1At (w : World) (o k k' k'' : Nat) (q : Rat) : Prop := ∃ s a n c b m d, (w.cell? ⟨o, k, none⟩ = some (.bool s) ∧ w.cell? ⟨o, k', none⟩ = some (.slice a n c) ∧ w.cell? ⟨o, k'', none⟩ = some (.slice b m d)) ∧ Rt w s a n c b m d q
theorem s1At {w : World} {o base : Nat} {ty : TypeId} {cs : Array Value} {t k k' k'' : Nat} {q : Rat} (hp : Pb w o ty cs) (h : RaAt w base cs t q) (e : k = t * 3) (e' : k' = t * 3 + 1) (e'' : k'' = t * 3 + 2) : S1At w o k k' k'' q := by
  obtain ⟨s, a, n, c, b, m, d, e1, e2, e3, r⟩ := h
  subst e e' e''
  exact ⟨s, a, n, c, b, m, d, ⟨hp.cell _ e1, hp.cell _ e2, hp.cell _ e3⟩, r.rt22⟩
theorem pts2_below (w : World) (A B : Int × Int) : Below w.heap.size w ((w.alloc (.cells #[.int .u64 A.1, .int .u64 A.2] 34)).alloc (.cells #[.int .u64 B.1, .int .u64 B.2] 34)) := by
  have b0 := alloc_below (w := w) (.cells #[.int .u64 A.1, .int .u64 A.2] 34)
  have b1 := alloc_below (w := (w.alloc (.cells #[.int .u64 A.1, .int .u64 A.2] 34))) (.cells #[.int .u64 B.1, .int .u64 B.2] 34)
  have c1 := b0.trans (b1.mono b0.size)
  exact c1
theorem ptAt2 (w : World) (t : TypeId) {a b : Int × Int} (ua : U2 a) (ub : U2 b) : PtAt (w.alloc (.cells #[.int .u64 a.1, .int .u64 a.2, .int .u64 b.1, .int .u64 b.2] t)) w.heap.size 0 (fun i => [a, b].getD i (0, 0)) 2 := by
  have h := Pb.new w t #[.int .u64 a.1, .int .u64 a.2, .int .u64 b.1, .int .u64 b.2]
  intro i hi
  rcases (show i = 0 ∨ i = 1 by omega) with rfl | rfl
  · exact ⟨h.cell 0 rfl, h.cell 1 rfl, ua.1, ua.2⟩
  · exact ⟨h.cell 2 rfl, h.cell 3 rfl, ub.1, ub.2⟩
theorem fin2_of {a b : Int × Int} (fa : fin2 a) (fb : fin2 b) : ∀ i, i < 2 → fin2 ([a, b].getD i (0, 0)) := by
  intro i hi
  rcases (show i = 0 ∨ i = 1 by omega) with rfl | rfl
  · exact fa
  · exact fb
theorem open2 {w w' : World} {e : Ending} {a b : Int × Int} (ua : U2 a) (fa : fin2 a) (ub : U2 b) (fb : fin2 b) (h : SpQ w 2 (fun i => [a, b].getD i (0, 0)) e w') : ∃ o, e = .returned (.tuple #[.slice (some ⟨o, 0, none⟩) 2 2, .int .i64 0]) ∧ o < w'.heap.size ∧ w.heap.size ≤ o ∧ S1At w' o 0 1 2 (valR a.1) ∧ S1At w' o 3 4 5 (valR a.2) ∧ S1At w' o 6 7 8 (valR b.1) ∧ S1At w' o 9 10 11 (valR b.2) ∧ Below w.heap.size w w' := by
  rcases h with ⟨_, o, cs, e0, hPb, ho, hsz, hT, hb⟩ | ⟨⟨t, ht, h⟩, _⟩
  · exact ⟨o, e0, hPb.lt, ho, s1At hPb (hT 0 (by omega)) rfl rfl rfl, s1At hPb (hT 1 (by omega)) rfl rfl rfl, s1At hPb (hT 2 (by omega)) rfl rfl rfl, s1At hPb (hT 3 (by omega)) rfl rfl rfl, hb⟩
  · exact absurd h (fin_iff.mpr (fin2_of fa fb) t ht)
theorem open2_inf {w w' : World} {e : Ending} {a b : Int × Int} (hf : ¬ (fin2 a ∧ fin2 b)) (h : SpQ w 2 (fun i => [a, b].getD i (0, 0)) e w') : e = .returned (.tuple #[.slice none 0 0, .int .i64 220]) ∧ Below w.heap.size w w' := by
  rcases h with ⟨h, _⟩ | ⟨_, e0, hb⟩
  · exact absurd ⟨fin_iff.mp h 0 (by omega), fin_iff.mp h 1 (by omega)⟩ hf
  · exact ⟨e0, hb⟩
theorem pts3_below (w : World) (A B C : Int × Int) : Below w.heap.size w (((w.alloc (.cells #[.int .u64 A.1, .int .u64 A.2] 34)).alloc (.cells #[.int .u64 B.1, .int .u64 B.2] 34)).alloc (.cells #[.int .u64 C.1, .int .u64 C.2] 34)) := by
  have b0 := alloc_below (w := w) (.cells #[.int .u64 A.1, .int .u64 A.2] 34)
  have b1 := alloc_below (w := (w.alloc (.cells #[.int .u64 A.1, .int .u64 A.2] 34))) (.cells #[.int .u64 B.1, .int .u64 B.2] 34)
  have c1 := b0.trans (b1.mono b0.size)
  have b2 := alloc_below (w := ((w.alloc (.cells #[.int .u64 A.1, .int .u64 A.2] 34)).alloc (.cells #[.int .u64 B.1, .int .u64 B.2] 34))) (.cells #[.int .u64 C.1, .int .u64 C.2] 34)
  have c2 := c1.trans (b2.mono c1.size)
  exact c2
theorem ptAt3 (w : World) (t : TypeId) {a b c : Int × Int} (ua : U2 a) (ub : U2 b) (uc : U2 c) : PtAt (w.alloc (.cells #[.int .u64 a.1, .int .u64 a.2, .int .u64 b.1, .int .u64 b.2, .int .u64 c.1, .int .u64 c.2] t)) w.heap.size 0 (fun i => [a, b, c].getD i (0, 0)) 3 := by
  have h := Pb.new w t #[.int .u64 a.1, .int .u64 a.2, .int .u64 b.1, .int .u64 b.2, .int .u64 c.1, .int .u64 c.2]
  intro i hi
  rcases (show i = 0 ∨ i = 1 ∨ i = 2 by omega) with rfl | rfl | rfl
  · exact ⟨h.cell 0 rfl, h.cell 1 rfl, ua.1, ua.2⟩
  · exact ⟨h.cell 2 rfl, h.cell 3 rfl, ub.1, ub.2⟩
  · exact ⟨h.cell 4 rfl, h.cell 5 rfl, uc.1, uc.2⟩
theorem fin3_of {a b c : Int × Int} (fa : fin2 a) (fb : fin2 b) (fc : fin2 c) : ∀ i, i < 3 → fin2 ([a, b, c].getD i (0, 0)) := by
  intro i hi
  rcases (show i = 0 ∨ i = 1 ∨ i = 2 by omega) with rfl | rfl | rfl
  · exact fa
  · exact fb
  · exact fc
theorem open3 {w w' : World} {e : Ending} {a b c : Int × Int} (ua : U2 a) (fa : fin2 a) (ub : U2 b) (fb : fin2 b) (uc : U2 c) (fc : fin2 c) (h : SpQ w 3 (fun i => [a, b, c].getD i (0, 0)) e w') : ∃ o, e = .returned (.tuple #[.slice (some ⟨o, 0, none⟩) 3 3, .int .i64 0]) ∧ o < w'.heap.size ∧ w.heap.size ≤ o ∧ S1At w' o 0 1 2 (valR a.1) ∧ S1At w' o 3 4 5 (valR a.2) ∧ S1At w' o 6 7 8 (valR b.1) ∧ S1At w' o 9 10 11 (valR b.2) ∧ S1At w' o 12 13 14 (valR c.1) ∧ S1At w' o 15 16 17 (valR c.2) ∧ Below w.heap.size w w' := by
  rcases h with ⟨_, o, cs, e0, hPb, ho, hsz, hT, hb⟩ | ⟨⟨t, ht, h⟩, _⟩
  · exact ⟨o, e0, hPb.lt, ho, s1At hPb (hT 0 (by omega)) rfl rfl rfl, s1At hPb (hT 1 (by omega)) rfl rfl rfl, s1At hPb (hT 2 (by omega)) rfl rfl rfl, s1At hPb (hT 3 (by omega)) rfl rfl rfl, s1At hPb (hT 4 (by omega)) rfl rfl rfl, s1At hPb (hT 5 (by omega)) rfl rfl rfl, hb⟩
  · exact absurd h (fin_iff.mpr (fin3_of fa fb fc) t ht)
theorem open3_inf {w w' : World} {e : Ending} {a b c : Int × Int} (hf : ¬ (fin2 a ∧ fin2 b ∧ fin2 c)) (h : SpQ w 3 (fun i => [a, b, c].getD i (0, 0)) e w') : e = .returned (.tuple #[.slice none 0 0, .int .i64 220]) ∧ Below w.heap.size w w' := by
  rcases h with ⟨h, _⟩ | ⟨_, e0, hb⟩
  · exact absurd ⟨fin_iff.mp h 0 (by omega), fin_iff.mp h 1 (by omega), fin_iff.mp h 2 (by omega)⟩ hf
  · exact ⟨e0, hb⟩
theorem pts4_below (w : World) (A B C D : Int × Int) : Below w.heap.size w ((((w.alloc (.cells #[.int .u64 A.1, .int .u64 A.2] 34)).alloc (.cells #[.int .u64 B.1, .int .u64 B.2] 34)).alloc (.cells #[.int .u64 C.1, .int .u64 C.2] 34)).alloc (.cells #[.int .u64 D.1, .int .u64 D.2] 34)) := by
  have b0 := alloc_below (w := w) (.cells #[.int .u64 A.1, .int .u64 A.2] 34)
  have b1 := alloc_below (w := (w.alloc (.cells #[.int .u64 A.1, .int .u64 A.2] 34))) (.cells #[.int .u64 B.1, .int .u64 B.2] 34)
  have c1 := b0.trans (b1.mono b0.size)
  have b2 := alloc_below (w := ((w.alloc (.cells #[.int .u64 A.1, .int .u64 A.2] 34)).alloc (.cells #[.int .u64 B.1, .int .u64 B.2] 34))) (.cells #[.int .u64 C.1, .int .u64 C.2] 34)
  have c2 := c1.trans (b2.mono c1.size)
  have b3 := alloc_below (w := (((w.alloc (.cells #[.int .u64 A.1, .int .u64 A.2] 34)).alloc (.cells #[.int .u64 B.1, .int .u64 B.2] 34)).alloc (.cells #[.int .u64 C.1, .int .u64 C.2] 34))) (.cells #[.int .u64 D.1, .int .u64 D.2] 34)
  have c3 := c2.trans (b3.mono c2.size)
  exact c3
theorem ptAt4 (w : World) (t : TypeId) {a b c d : Int × Int} (ua : U2 a) (ub : U2 b) (uc : U2 c) (ud : U2 d) : PtAt (w.alloc (.cells #[.int .u64 a.1, .int .u64 a.2, .int .u64 b.1, .int .u64 b.2, .int .u64 c.1, .int .u64 c.2, .int .u64 d.1, .int .u64 d.2] t)) w.heap.size 0 (fun i => [a, b, c, d].getD i (0, 0)) 4 := by
  have h := Pb.new w t #[.int .u64 a.1, .int .u64 a.2, .int .u64 b.1, .int .u64 b.2, .int .u64 c.1, .int .u64 c.2, .int .u64 d.1, .int .u64 d.2]
  intro i hi
  rcases (show i = 0 ∨ i = 1 ∨ i = 2 ∨ i = 3 by omega) with rfl | rfl | rfl | rfl
  · exact ⟨h.cell 0 rfl, h.cell 1 rfl, ua.1, ua.2⟩
  · exact ⟨h.cell 2 rfl, h.cell 3 rfl, ub.1, ub.2⟩
  · exact ⟨h.cell 4 rfl, h.cell 5 rfl, uc.1, uc.2⟩
  · exact ⟨h.cell 6 rfl, h.cell 7 rfl, ud.1, ud.2⟩
theorem fin4_of {a b c d : Int × Int} (fa : fin2 a) (fb : fin2 b) (fc : fin2 c) (fd : fin2 d) : ∀ i, i < 4 → fin2 ([a, b, c, d].getD i (0, 0)) := by
  intro i hi
  rcases (show i = 0 ∨ i = 1 ∨ i = 2 ∨ i = 3 by omega) with rfl | rfl | rfl | rfl
  · exact fa
  · exact fb
  · exact fc
  · exact fd
theorem open4 {w w' : World} {e : Ending} {a b c d : Int × Int} (ua : U2 a) (fa : fin2 a) (ub : U2 b) (fb : fin2 b) (uc : U2 c) (fc : fin2 c) (ud : U2 d) (fd : fin2 d) (h : SpQ w 4 (fun i => [a, b, c, d].getD i (0, 0)) e w') : ∃ o, e = .returned (.tuple #[.slice (some ⟨o, 0, none⟩) 4 4, .int .i64 0]) ∧ o < w'.heap.size ∧ w.heap.size ≤ o ∧ S1At w' o 0 1 2 (valR a.1) ∧ S1At w' o 3 4 5 (valR a.2) ∧ S1At w' o 6 7 8 (valR b.1) ∧ S1At w' o 9 10 11 (valR b.2) ∧ S1At w' o 12 13 14 (valR c.1) ∧ S1At w' o 15 16 17 (valR c.2) ∧ S1At w' o 18 19 20 (valR d.1) ∧ S1At w' o 21 22 23 (valR d.2) ∧ Below w.heap.size w w' := by
  rcases h with ⟨_, o, cs, e0, hPb, ho, hsz, hT, hb⟩ | ⟨⟨t, ht, h⟩, _⟩
  · exact ⟨o, e0, hPb.lt, ho, s1At hPb (hT 0 (by omega)) rfl rfl rfl, s1At hPb (hT 1 (by omega)) rfl rfl rfl, s1At hPb (hT 2 (by omega)) rfl rfl rfl, s1At hPb (hT 3 (by omega)) rfl rfl rfl, s1At hPb (hT 4 (by omega)) rfl rfl rfl, s1At hPb (hT 5 (by omega)) rfl rfl rfl, s1At hPb (hT 6 (by omega)) rfl rfl rfl, s1At hPb (hT 7 (by omega)) rfl rfl rfl, hb⟩
  · exact absurd h (fin_iff.mpr (fin4_of fa fb fc fd) t ht)
theorem open4_inf {w w' : World} {e : Ending} {a b c d : Int × Int} (hf : ¬ (fin2 a ∧ fin2 b ∧ fin2 c ∧ fin2 d)) (h : SpQ w 4 (fun i => [a, b, c, d].getD i (0, 0)) e w') : e = .returned (.tuple #[.slice none 0 0, .int .i64 220]) ∧ Below w.heap.size w w' := by
  rcases h with ⟨h, _⟩ | ⟨_, e0, hb⟩
  · exact absurd ⟨fin_iff.mp h 0 (by omega), fin_iff.mp h 1 (by omega), fin_iff.mp h 2 (by omega), fin_iff.mp h 3 (by omega)⟩ hf
  · exact ⟨e0, hb⟩
set_option maxHeartbeats 6400000 in
set_option maxRecDepth 100000 in
theorem Order22_inf {w : World} {a b : Int × Int} (ua : U2 a) (ub : U2 b) (hf : ¬ (fin2 a ∧ fin2 b)) :
    Calls Tryz.prog 22 #[.agg #[.int .u64 a.1, .int .u64 a.2], .agg #[.int .u64 b.1, .int .u64 b.2]] w fun e w' => e = .returned (.tuple #[.int .i64 0, .int .i64 220]) ∧ Below w.heap.size w w' := by
  obtain ⟨w0, hw0⟩ : ∃ w0, w0 = (w.alloc (.cells #[.int .u64 a.1, .int .u64 a.2] 34)).alloc (.cells #[.int .u64 b.1, .int .u64 b.2] 34) := ⟨_, rfl⟩
  have hb0 : Below w.heap.size w w0 := by
    subst hw0
    exact pts2_below _ _ _
  have al := alloc_below (w := w0) (.cells #[.int .u64 a.1, .int .u64 a.2, .int .u64 b.1, .int .u64 b.2] 34)
  have hPt := ptAt2 w0 34 ua ub
  have e0 : w0.heap.size = w.heap.size + 1 + 1 := by subst hw0; simp
  rw [e0] at hPt
  have hsp := spots22_any (c := 2) hPt (by rw [← e0]; simp) (by omega)
  have hB1 := hb0.trans (al.mono hb0.size)
  replace hsp := hsp.mono (fun e w' h => open2_inf hf h)
  clear hPt al hb0 e0 hf ua ub
  go_enter Tryz.func22, Tryz.ntmps22
  go_wp2_with fail
  rw [← hw0]
  generalize w0.alloc (.cells #[.int .u64 a.1, .int .u64 a.2, .int .u64 b.1, .int .u64 b.2] 34) = w1 at *
  refine hsp.mono ?_
  rintro e wA ⟨rfl, hbA⟩
  have B2 := hB1.trans (hbA.mono hB1.size)
  clear hsp hw0
  go_wp2
  go_ret2
  exact ⟨rfl, B2⟩
set_option maxHeartbeats 6400000 in
set_option maxRecDepth 100000 in
theorem Order22_fin {w : World} {a b : Int × Int} (ua : U2 a) (ub : U2 b) (fa : fin2 a) (fb : fin2 b) :
    Calls Tryz.prog 22 #[.agg #[.int .u64 a.1, .int .u64 a.2], .agg #[.int .u64 b.1, .int .u64 b.2]] w fun e w' => e = .returned (.tuple #[.int .i64 (ordS (valR a.1) (valR a.2) (valR b.1) (valR b.2)), .int .i64 0]) ∧ Below w.heap.size w w' := by
  obtain ⟨w0, hw0⟩ : ∃ w0, w0 = (w.alloc (.cells #[.int .u64 a.1, .int .u64 a.2] 34)).alloc (.cells #[.int .u64 b.1, .int .u64 b.2] 34) := ⟨_, rfl⟩
  have hb0 : Below w.heap.size w w0 := by
    subst hw0
    exact pts2_below _ _ _
  have al := alloc_below (w := w0) (.cells #[.int .u64 a.1, .int .u64 a.2, .int .u64 b.1, .int .u64 b.2] 34)
  have hPt := ptAt2 w0 34 ua ub
  have e0 : w0.heap.size = w.heap.size + 1 + 1 := by subst hw0; simp
  rw [e0] at hPt
  have hsp := spots22_any (c := 2) hPt (by rw [← e0]; simp) (by omega)
  have hB1 := hb0.trans (al.mono hb0.size)
  have z0 := value_size ua.1 fa.1
  have z1 := value_size ua.2 fa.2
  have z2 := value_size ub.1 fb.1
  have z3 := value_size ub.2 fb.2
  replace hsp := hsp.mono (fun e w' h => open2 ua fa ub fb h)
  clear hPt al hb0 e0 ua fa ub fb
  generalize valR a.1 = v0 at *
  generalize valR a.2 = v1 at *
  generalize valR b.1 = v2 at *
  generalize valR b.2 = v3 at *
  go_enter Tryz.func22, Tryz.ntmps22
  go_wp2_with fail
  rw [← hw0]
  generalize w0.alloc (.cells #[.int .u64 a.1, .int .u64 a.2, .int .u64 b.1, .int .u64 b.2] 34) = w1 at *
  refine hsp.mono ?_
  rintro e wA ⟨o, rfl, lo, go, A0, A1, A2, A3, hbA⟩
  have B2 := hB1.trans (hbA.mono hB1.size)
  clear hsp hw0 go
  obtain ⟨s0, a0, n0, c0, b0, m0, d0, ⟨y00, y01, y02⟩, R0⟩ := A0
  obtain ⟨s1, a1, n1, c1, b1, m1, d1, ⟨y10, y11, y12⟩, R1⟩ := A1
  obtain ⟨s2, a2, n2, c2, b2, m2, d2, ⟨y20, y21, y22⟩, R2⟩ := A2
  obtain ⟨s3, a3, n3, c3, b3, m3, d3, ⟨y30, y31, y32⟩, R3⟩ := A3
  go_wp2
  have hcl : ∀ w', Below wA.heap.size wA w' → w'.cell? ⟨o, 0, none⟩ = some (.bool s0) ∧ w'.cell? ⟨o, 1, none⟩ = some (.slice a0 n0 c0) ∧ w'.cell? ⟨o, 2, none⟩ = some (.slice b0 m0 d0) ∧ w'.cell? ⟨o, 3, none⟩ = some (.bool s1) ∧ w'.cell? ⟨o, 4, none⟩ = some (.slice a1 n1 c1) ∧ w'.cell? ⟨o, 5, none⟩ = some (.slice b1 m1 d1) ∧ w'.cell? ⟨o, 6, none⟩ = some (.bool s2) ∧ w'.cell? ⟨o, 7, none⟩ = some (.slice a2 n2 c2) ∧ w'.cell? ⟨o, 8, none⟩ = some (.slice b2 m2 d2) ∧ w'.cell? ⟨o, 9, none⟩ = some (.bool s3) ∧ w'.cell? ⟨o, 10, none⟩ = some (.slice a3 n3 c3) ∧ w'.cell? ⟨o, 11, none⟩ = some (.slice b3 m3 d3) := fun w' h => ⟨(h.cell (p := ⟨o, 0, none⟩) lo).trans y00, (h.cell (p := ⟨o, 1, none⟩) lo).trans y01, (h.cell (p := ⟨o, 2, none⟩) lo).trans y02, (h.cell (p := ⟨o, 3, none⟩) lo).trans y10, (h.cell (p := ⟨o, 4, none⟩) lo).trans y11, (h.cell (p := ⟨o, 5, none⟩) lo).trans y12, (h.cell (p := ⟨o, 6, none⟩) lo).trans y20, (h.cell (p := ⟨o, 7, none⟩) lo).trans y21, (h.cell (p := ⟨o, 8, none⟩) lo).trans y22, (h.cell (p := ⟨o, 9, none⟩) lo).trans y30, (h.cell (p := ⟨o, 10, none⟩) lo).trans y31, (h.cell (p := ⟨o, 11, none⟩) lo).trans y32⟩
  go_region_held3 (fun w' => w'.cell? ⟨o, 0, none⟩ = some (.bool s0) ∧ w'.cell? ⟨o, 1, none⟩ = some (.slice a0 n0 c0) ∧ w'.cell? ⟨o, 2, none⟩ = some (.slice b0 m0 d0) ∧ w'.cell? ⟨o, 3, none⟩ = some (.bool s1) ∧ w'.cell? ⟨o, 4, none⟩ = some (.slice a1 n1 c1) ∧ w'.cell? ⟨o, 5, none⟩ = some (.slice b1 m1 d1) ∧ w'.cell? ⟨o, 6, none⟩ = some (.bool s2) ∧ w'.cell? ⟨o, 7, none⟩ = some (.slice a2 n2 c2) ∧ w'.cell? ⟨o, 8, none⟩ = some (.slice b2 m2 d2) ∧ w'.cell? ⟨o, 9, none⟩ = some (.bool s3) ∧ w'.cell? ⟨o, 10, none⟩ = some (.slice a3 n3 c3) ∧ w'.cell? ⟨o, 11, none⟩ = some (.slice b3 m3 d3)) (go_keep) ((go_at_call 47; refine (order22_at R0 R1 R2 R3 z0 z1 z2 z3 (by omega) (by first | exact Below.refl _ _ | exact below_drewN (Below.refl _ _) _)).mono ?_; rintro e wX ⟨rfl, hbX⟩; obtain ⟨y00, y01, y02, y10, y11, y12, y20, y21, y22, y30, y31, y32⟩ := hcl wX hbX))
  go_wp2
  go_ret2
  exact ⟨rfl, B2.trans (hbX.mono B2.size)⟩
set_option maxHeartbeats 6400000 in
set_option maxRecDepth 100000 in
theorem Orient22_inf {w : World} {a b c : Int × Int} (ua : U2 a) (ub : U2 b) (uc : U2 c) (hf : ¬ (fin2 a ∧ fin2 b ∧ fin2 c)) :
    Calls Tryz.prog 11 #[.agg #[.int .u64 a.1, .int .u64 a.2], .agg #[.int .u64 b.1, .int .u64 b.2], .agg #[.int .u64 c.1, .int .u64 c.2]] w fun e w' => e = .returned (.tuple #[.int .i64 0, .int .i64 220]) ∧ Below w.heap.size w w' := by
  obtain ⟨w0, hw0⟩ : ∃ w0, w0 = ((w.alloc (.cells #[.int .u64 a.1, .int .u64 a.2] 34)).alloc (.cells #[.int .u64 b.1, .int .u64 b.2] 34)).alloc (.cells #[.int .u64 c.1, .int .u64 c.2] 34) := ⟨_, rfl⟩
  have hb0 : Below w.heap.size w w0 := by
    subst hw0
    exact pts3_below _ _ _ _
  have al := alloc_below (w := w0) (.cells #[.int .u64 a.1, .int .u64 a.2, .int .u64 b.1, .int .u64 b.2, .int .u64 c.1, .int .u64 c.2] 34)
  have hPt := ptAt3 w0 34 ua ub uc
  have e0 : w0.heap.size = w.heap.size + 1 + 1 + 1 := by subst hw0; simp
  rw [e0] at hPt
  have hsp := spots22_any (c := 3) hPt (by rw [← e0]; simp) (by omega)
  have hB1 := hb0.trans (al.mono hb0.size)
  replace hsp := hsp.mono (fun e w' h => open3_inf hf h)
  clear hPt al hb0 e0 hf ua ub uc
  go_enter Tryz.func11, Tryz.ntmps11
  go_wp2_with fail
  rw [← hw0]
  generalize w0.alloc (.cells #[.int .u64 a.1, .int .u64 a.2, .int .u64 b.1, .int .u64 b.2, .int .u64 c.1, .int .u64 c.2] 34) = w1 at *
  refine hsp.mono ?_
  rintro e wA ⟨rfl, hbA⟩
  have B2 := hB1.trans (hbA.mono hB1.size)
  clear hsp hw0
  go_wp2
  go_ret2
  exact ⟨rfl, B2⟩
set_option maxHeartbeats 6400000 in
set_option maxRecDepth 100000 in
theorem Orient22_fin {w : World} {a b c : Int × Int} (ua : U2 a) (ub : U2 b) (uc : U2 c) (fa : fin2 a) (fb : fin2 b) (fc : fin2 c) :
    Calls Tryz.prog 11 #[.agg #[.int .u64 a.1, .int .u64 a.2], .agg #[.int .u64 b.1, .int .u64 b.2], .agg #[.int .u64 c.1, .int .u64 c.2]] w fun e w' => e = .returned (.tuple #[.int .i64 (sgnR (crR (valR a.1) (valR a.2) (valR b.1) (valR b.2) (valR c.1) (valR c.2))), .int .i64 0]) ∧ Below w.heap.size w w' := by
  obtain ⟨w0, hw0⟩ : ∃ w0, w0 = ((w.alloc (.cells #[.int .u64 a.1, .int .u64 a.2] 34)).alloc (.cells #[.int .u64 b.1, .int .u64 b.2] 34)).alloc (.cells #[.int .u64 c.1, .int .u64 c.2] 34) := ⟨_, rfl⟩
  have hb0 : Below w.heap.size w w0 := by
    subst hw0
    exact pts3_below _ _ _ _
  have al := alloc_below (w := w0) (.cells #[.int .u64 a.1, .int .u64 a.2, .int .u64 b.1, .int .u64 b.2, .int .u64 c.1, .int .u64 c.2] 34)
  have hPt := ptAt3 w0 34 ua ub uc
  have e0 : w0.heap.size = w.heap.size + 1 + 1 + 1 := by subst hw0; simp
  rw [e0] at hPt
  have hsp := spots22_any (c := 3) hPt (by rw [← e0]; simp) (by omega)
  have hB1 := hb0.trans (al.mono hb0.size)
  have z0 := value_size ua.1 fa.1
  have z1 := value_size ua.2 fa.2
  have z2 := value_size ub.1 fb.1
  have z3 := value_size ub.2 fb.2
  have z4 := value_size uc.1 fc.1
  have z5 := value_size uc.2 fc.2
  replace hsp := hsp.mono (fun e w' h => open3 ua fa ub fb uc fc h)
  clear hPt al hb0 e0 ua fa ub fb uc fc
  generalize valR a.1 = v0 at *
  generalize valR a.2 = v1 at *
  generalize valR b.1 = v2 at *
  generalize valR b.2 = v3 at *
  generalize valR c.1 = v4 at *
  generalize valR c.2 = v5 at *
  go_enter Tryz.func11, Tryz.ntmps11
  go_wp2_with fail
  rw [← hw0]
  generalize w0.alloc (.cells #[.int .u64 a.1, .int .u64 a.2, .int .u64 b.1, .int .u64 b.2, .int .u64 c.1, .int .u64 c.2] 34) = w1 at *
  refine hsp.mono ?_
  rintro e wA ⟨o, rfl, lo, go, A0, A1, A2, A3, A4, A5, hbA⟩
  have B2 := hB1.trans (hbA.mono hB1.size)
  clear hsp hw0 go
  obtain ⟨s0, a0, n0, c0, b0, m0, d0, ⟨y00, y01, y02⟩, R0⟩ := A0
  obtain ⟨s1, a1, n1, c1, b1, m1, d1, ⟨y10, y11, y12⟩, R1⟩ := A1
  obtain ⟨s2, a2, n2, c2, b2, m2, d2, ⟨y20, y21, y22⟩, R2⟩ := A2
  obtain ⟨s3, a3, n3, c3, b3, m3, d3, ⟨y30, y31, y32⟩, R3⟩ := A3
  obtain ⟨s4, a4, n4, c4, b4, m4, d4, ⟨y40, y41, y42⟩, R4⟩ := A4
  obtain ⟨s5, a5, n5, c5, b5, m5, d5, ⟨y50, y51, y52⟩, R5⟩ := A5
  go_wp2
  have hcl : ∀ w', Below wA.heap.size wA w' → w'.cell? ⟨o, 0, none⟩ = some (.bool s0) ∧ w'.cell? ⟨o, 1, none⟩ = some (.slice a0 n0 c0) ∧ w'.cell? ⟨o, 2, none⟩ = some (.slice b0 m0 d0) ∧ w'.cell? ⟨o, 3, none⟩ = some (.bool s1) ∧ w'.cell? ⟨o, 4, none⟩ = some (.slice a1 n1 c1) ∧ w'.cell? ⟨o, 5, none⟩ = some (.slice b1 m1 d1) ∧ w'.cell? ⟨o, 6, none⟩ = some (.bool s2) ∧ w'.cell? ⟨o, 7, none⟩ = some (.slice a2 n2 c2) ∧ w'.cell? ⟨o, 8, none⟩ = some (.slice b2 m2 d2) ∧ w'.cell? ⟨o, 9, none⟩ = some (.bool s3) ∧ w'.cell? ⟨o, 10, none⟩ = some (.slice a3 n3 c3) ∧ w'.cell? ⟨o, 11, none⟩ = some (.slice b3 m3 d3) ∧ w'.cell? ⟨o, 12, none⟩ = some (.bool s4) ∧ w'.cell? ⟨o, 13, none⟩ = some (.slice a4 n4 c4) ∧ w'.cell? ⟨o, 14, none⟩ = some (.slice b4 m4 d4) ∧ w'.cell? ⟨o, 15, none⟩ = some (.bool s5) ∧ w'.cell? ⟨o, 16, none⟩ = some (.slice a5 n5 c5) ∧ w'.cell? ⟨o, 17, none⟩ = some (.slice b5 m5 d5) := fun w' h => ⟨(h.cell (p := ⟨o, 0, none⟩) lo).trans y00, (h.cell (p := ⟨o, 1, none⟩) lo).trans y01, (h.cell (p := ⟨o, 2, none⟩) lo).trans y02, (h.cell (p := ⟨o, 3, none⟩) lo).trans y10, (h.cell (p := ⟨o, 4, none⟩) lo).trans y11, (h.cell (p := ⟨o, 5, none⟩) lo).trans y12, (h.cell (p := ⟨o, 6, none⟩) lo).trans y20, (h.cell (p := ⟨o, 7, none⟩) lo).trans y21, (h.cell (p := ⟨o, 8, none⟩) lo).trans y22, (h.cell (p := ⟨o, 9, none⟩) lo).trans y30, (h.cell (p := ⟨o, 10, none⟩) lo).trans y31, (h.cell (p := ⟨o, 11, none⟩) lo).trans y32, (h.cell (p := ⟨o, 12, none⟩) lo).trans y40, (h.cell (p := ⟨o, 13, none⟩) lo).trans y41, (h.cell (p := ⟨o, 14, none⟩) lo).trans y42, (h.cell (p := ⟨o, 15, none⟩) lo).trans y50, (h.cell (p := ⟨o, 16, none⟩) lo).trans y51, (h.cell (p := ⟨o, 17, none⟩) lo).trans y52⟩
  go_region_held3 (fun w' => w'.cell? ⟨o, 0, none⟩ = some (.bool s0) ∧ w'.cell? ⟨o, 1, none⟩ = some (.slice a0 n0 c0) ∧ w'.cell? ⟨o, 2, none⟩ = some (.slice b0 m0 d0) ∧ w'.cell? ⟨o, 3, none⟩ = some (.bool s1) ∧ w'.cell? ⟨o, 4, none⟩ = some (.slice a1 n1 c1) ∧ w'.cell? ⟨o, 5, none⟩ = some (.slice b1 m1 d1) ∧ w'.cell? ⟨o, 6, none⟩ = some (.bool s2) ∧ w'.cell? ⟨o, 7, none⟩ = some (.slice a2 n2 c2) ∧ w'.cell? ⟨o, 8, none⟩ = some (.slice b2 m2 d2) ∧ w'.cell? ⟨o, 9, none⟩ = some (.bool s3) ∧ w'.cell? ⟨o, 10, none⟩ = some (.slice a3 n3 c3) ∧ w'.cell? ⟨o, 11, none⟩ = some (.slice b3 m3 d3) ∧ w'.cell? ⟨o, 12, none⟩ = some (.bool s4) ∧ w'.cell? ⟨o, 13, none⟩ = some (.slice a4 n4 c4) ∧ w'.cell? ⟨o, 14, none⟩ = some (.slice b4 m4 d4) ∧ w'.cell? ⟨o, 15, none⟩ = some (.bool s5) ∧ w'.cell? ⟨o, 16, none⟩ = some (.slice a5 n5 c5) ∧ w'.cell? ⟨o, 17, none⟩ = some (.slice b5 m5 d5)) (go_keep) ((go_at_call 35; refine (turn22_at R0 R1 R2 R3 R4 R5 z0 z1 z2 z3 z4 z5 (by omega) (by first | exact Below.refl _ _ | exact below_drewN (Below.refl _ _) _)).mono ?_; rintro e wX ⟨rfl, hbX⟩; obtain ⟨y00, y01, y02, y10, y11, y12, y20, y21, y22, y30, y31, y32, y40, y41, y42, y50, y51, y52⟩ := hcl wX hbX))
  go_wp2
  go_ret2
  exact ⟨rfl, B2.trans (hbX.mono B2.size)⟩
end Go.Proofs.YtbonkgmcpjaepabGreat

/- package pred: Nearer, Between, Area2 (written by genpdf.py). -/
namespace Go.Proofs.YtbonkgmcpjaepabGreat
open Go.ChangeShapes Go.WideShapes Go.ChangeAt Go.RowKit
open Na Ar
set_option linter.unusedVariables false
/-- the square of a distance -/
def sqR (ax ay bx by' : Rat) : Rat := (bx - ax) * (bx - ax) + (by' - ay) * (by' - ay)
theorem square22_at {w w0 : World} {s1 s2 : Bool} {a1 b1 a2 b2 : Option Addr} {n1 c1 m1 d1 n2 c2 m2 d2 : Nat} {p q : Rat} {K : Nat} (h1 : Rt w s1 a1 n1 c1 b1 m1 d1 p) (h2 : Rt w s2 a2 n2 c2 b2 m2 d2 q) (z1 : Sz p K) (z2 : Sz q K) (hK : K ≤ 600) (h : Below w0.heap.size w0 w) :
    Calls Tryz.prog 42 #[.agg #[.bool s1, .slice a1 n1 c1, .slice b1 m1 d1, .bool s2, .slice a2 n2 c2, .slice b2 m2 d2]] w fun e w' => ∃ s a n c b m d, e = .returned (.agg #[.bool s, .slice a n c, .slice b m d]) ∧ Rt w' s a n c b m d (p * p + q * q) ∧ Sz (p * p + q * q) (K + K + (K + K + 1)) ∧ Below w.heap.size w w' ∧ Below w0.heap.size w0 w' := by
  refine (square22_any h1 h2 z1 z2 hK).mono ?_
  rintro e w' ⟨s, a, n, c, b, m, d, rfl, hR, hz, hb⟩
  exact ⟨s, a, n, c, b, m, d, rfl, hR.rt22, hz, hb, h.trans (hb.mono h.size)⟩
theorem ordS_in (a b c d : Rat) : -1 ≤ ordS a b c d ∧ ordS a b c d ≤ 1 := by
  unfold ordS ordR
  (repeat' split) <;> omega
theorem mul_in {a b : Int} (ha : -1 ≤ a ∧ a ≤ 1) (hb : -1 ≤ b ∧ b ≤ 1) : -1 ≤ a * b ∧ a * b ≤ 1 := by
  rcases (show a = -1 ∨ a = 0 ∨ a = 1 by omega) with rfl | rfl | rfl <;> omega
set_option maxHeartbeats 6400000 in
set_option maxRecDepth 100000 in
theorem Nearer22_inf {w : World} {a b c d : Int × Int} (ua : U2 a) (ub : U2 b) (uc : U2 c) (ud : U2 d) (hf : ¬ (fin2 a ∧ fin2 b ∧ fin2 c ∧ fin2 d)) :
    Calls Tryz.prog 20 #[.agg #[.int .u64 a.1, .int .u64 a.2], .agg #[.int .u64 b.1, .int .u64 b.2], .agg #[.int .u64 c.1, .int .u64 c.2], .agg #[.int .u64 d.1, .int .u64 d.2]] w fun e w' => e = .returned (.tuple #[.int .i64 0, .int .i64 220]) ∧ Below w.heap.size w w' := by
  obtain ⟨w0, hw0⟩ : ∃ w0, w0 = (((w.alloc (.cells #[.int .u64 a.1, .int .u64 a.2] 34)).alloc (.cells #[.int .u64 b.1, .int .u64 b.2] 34)).alloc (.cells #[.int .u64 c.1, .int .u64 c.2] 34)).alloc (.cells #[.int .u64 d.1, .int .u64 d.2] 34) := ⟨_, rfl⟩
  have hb0 : Below w.heap.size w w0 := by
    subst hw0
    exact pts4_below _ _ _ _ _
  have al := alloc_below (w := w0) (.cells #[.int .u64 a.1, .int .u64 a.2, .int .u64 b.1, .int .u64 b.2, .int .u64 c.1, .int .u64 c.2, .int .u64 d.1, .int .u64 d.2] 34)
  have hPt := ptAt4 w0 34 ua ub uc ud
  have e0 : w0.heap.size = w.heap.size + 1 + 1 + 1 + 1 := by subst hw0; simp
  rw [e0] at hPt
  have hsp := spots22_any (c := 4) hPt (by rw [← e0]; simp) (by omega)
  have hB1 := hb0.trans (al.mono hb0.size)
  replace hsp := hsp.mono (fun e w' h => open4_inf hf h)
  clear hPt al hb0 e0 hf ua ub uc ud
  go_enter Tryz.func20, Tryz.ntmps20
  go_wp2_with fail
  rw [← hw0]
  generalize w0.alloc (.cells #[.int .u64 a.1, .int .u64 a.2, .int .u64 b.1, .int .u64 b.2, .int .u64 c.1, .int .u64 c.2, .int .u64 d.1, .int .u64 d.2] 34) = w1 at *
  refine hsp.mono ?_
  rintro e wA ⟨rfl, hbA⟩
  have B2 := hB1.trans (hbA.mono hB1.size)
  clear hsp hw0
  go_wp2
  go_ret2
  exact ⟨rfl, B2⟩
set_option maxHeartbeats 6400000 in
set_option maxRecDepth 100000 in
theorem Nearer22_fin {w : World} {a b c d : Int × Int} (ua : U2 a) (ub : U2 b) (uc : U2 c) (ud : U2 d) (fa : fin2 a) (fb : fin2 b) (fc : fin2 c) (fd : fin2 d) :
    Calls Tryz.prog 20 #[.agg #[.int .u64 a.1, .int .u64 a.2], .agg #[.int .u64 b.1, .int .u64 b.2], .agg #[.int .u64 c.1, .int .u64 c.2], .agg #[.int .u64 d.1, .int .u64 d.2]] w fun e w' => e = .returned (.tuple #[.int .i64 (ordR (sqR (valR a.1) (valR a.2) (valR b.1) (valR b.2)) (sqR (valR c.1) (valR c.2) (valR d.1) (valR d.2))), .int .i64 0]) ∧ Below w.heap.size w w' := by
  obtain ⟨w0, hw0⟩ : ∃ w0, w0 = (((w.alloc (.cells #[.int .u64 a.1, .int .u64 a.2] 34)).alloc (.cells #[.int .u64 b.1, .int .u64 b.2] 34)).alloc (.cells #[.int .u64 c.1, .int .u64 c.2] 34)).alloc (.cells #[.int .u64 d.1, .int .u64 d.2] 34) := ⟨_, rfl⟩
  have hb0 : Below w.heap.size w w0 := by
    subst hw0
    exact pts4_below _ _ _ _ _
  have al := alloc_below (w := w0) (.cells #[.int .u64 a.1, .int .u64 a.2, .int .u64 b.1, .int .u64 b.2, .int .u64 c.1, .int .u64 c.2, .int .u64 d.1, .int .u64 d.2] 34)
  have hPt := ptAt4 w0 34 ua ub uc ud
  have e0 : w0.heap.size = w.heap.size + 1 + 1 + 1 + 1 := by subst hw0; simp
  rw [e0] at hPt
  have hsp := spots22_any (c := 4) hPt (by rw [← e0]; simp) (by omega)
  have hB1 := hb0.trans (al.mono hb0.size)
  have z0 := value_size ua.1 fa.1
  have z1 := value_size ua.2 fa.2
  have z2 := value_size ub.1 fb.1
  have z3 := value_size ub.2 fb.2
  have z4 := value_size uc.1 fc.1
  have z5 := value_size uc.2 fc.2
  have z6 := value_size ud.1 fd.1
  have z7 := value_size ud.2 fd.2
  replace hsp := hsp.mono (fun e w' h => open4 ua fa ub fb uc fc ud fd h)
  clear hPt al hb0 e0 ua fa ub fb uc fc ud fd
  generalize valR a.1 = v0 at *
  generalize valR a.2 = v1 at *
  generalize valR b.1 = v2 at *
  generalize valR b.2 = v3 at *
  generalize valR c.1 = v4 at *
  generalize valR c.2 = v5 at *
  generalize valR d.1 = v6 at *
  generalize valR d.2 = v7 at *
  go_enter Tryz.func20, Tryz.ntmps20
  go_wp2_with fail
  rw [← hw0]
  generalize w0.alloc (.cells #[.int .u64 a.1, .int .u64 a.2, .int .u64 b.1, .int .u64 b.2, .int .u64 c.1, .int .u64 c.2, .int .u64 d.1, .int .u64 d.2] 34) = w1 at *
  refine hsp.mono ?_
  rintro e wA ⟨o, rfl, lo, go, A0, A1, A2, A3, A4, A5, A6, A7, hbA⟩
  have B2 := hB1.trans (hbA.mono hB1.size)
  clear hsp hw0 go
  obtain ⟨s0, a0, n0, c0, b0, m0, d0, ⟨y00, y01, y02⟩, R0⟩ := A0
  obtain ⟨s1, a1, n1, c1, b1, m1, d1, ⟨y10, y11, y12⟩, R1⟩ := A1
  obtain ⟨s2, a2, n2, c2, b2, m2, d2, ⟨y20, y21, y22⟩, R2⟩ := A2
  obtain ⟨s3, a3, n3, c3, b3, m3, d3, ⟨y30, y31, y32⟩, R3⟩ := A3
  obtain ⟨s4, a4, n4, c4, b4, m4, d4, ⟨y40, y41, y42⟩, R4⟩ := A4
  obtain ⟨s5, a5, n5, c5, b5, m5, d5, ⟨y50, y51, y52⟩, R5⟩ := A5
  obtain ⟨s6, a6, n6, c6, b6, m6, d6, ⟨y60, y61, y62⟩, R6⟩ := A6
  obtain ⟨s7, a7, n7, c7, b7, m7, d7, ⟨y70, y71, y72⟩, R7⟩ := A7
  go_wp2
  have hcl : ∀ w', Below wA.heap.size wA w' → w'.cell? ⟨o, 0, none⟩ = some (.bool s0) ∧ w'.cell? ⟨o, 1, none⟩ = some (.slice a0 n0 c0) ∧ w'.cell? ⟨o, 2, none⟩ = some (.slice b0 m0 d0) ∧ w'.cell? ⟨o, 3, none⟩ = some (.bool s1) ∧ w'.cell? ⟨o, 4, none⟩ = some (.slice a1 n1 c1) ∧ w'.cell? ⟨o, 5, none⟩ = some (.slice b1 m1 d1) ∧ w'.cell? ⟨o, 6, none⟩ = some (.bool s2) ∧ w'.cell? ⟨o, 7, none⟩ = some (.slice a2 n2 c2) ∧ w'.cell? ⟨o, 8, none⟩ = some (.slice b2 m2 d2) ∧ w'.cell? ⟨o, 9, none⟩ = some (.bool s3) ∧ w'.cell? ⟨o, 10, none⟩ = some (.slice a3 n3 c3) ∧ w'.cell? ⟨o, 11, none⟩ = some (.slice b3 m3 d3) ∧ w'.cell? ⟨o, 12, none⟩ = some (.bool s4) ∧ w'.cell? ⟨o, 13, none⟩ = some (.slice a4 n4 c4) ∧ w'.cell? ⟨o, 14, none⟩ = some (.slice b4 m4 d4) ∧ w'.cell? ⟨o, 15, none⟩ = some (.bool s5) ∧ w'.cell? ⟨o, 16, none⟩ = some (.slice a5 n5 c5) ∧ w'.cell? ⟨o, 17, none⟩ = some (.slice b5 m5 d5) ∧ w'.cell? ⟨o, 18, none⟩ = some (.bool s6) ∧ w'.cell? ⟨o, 19, none⟩ = some (.slice a6 n6 c6) ∧ w'.cell? ⟨o, 20, none⟩ = some (.slice b6 m6 d6) ∧ w'.cell? ⟨o, 21, none⟩ = some (.bool s7) ∧ w'.cell? ⟨o, 22, none⟩ = some (.slice a7 n7 c7) ∧ w'.cell? ⟨o, 23, none⟩ = some (.slice b7 m7 d7) := fun w' h => ⟨(h.cell (p := ⟨o, 0, none⟩) lo).trans y00, (h.cell (p := ⟨o, 1, none⟩) lo).trans y01, (h.cell (p := ⟨o, 2, none⟩) lo).trans y02, (h.cell (p := ⟨o, 3, none⟩) lo).trans y10, (h.cell (p := ⟨o, 4, none⟩) lo).trans y11, (h.cell (p := ⟨o, 5, none⟩) lo).trans y12, (h.cell (p := ⟨o, 6, none⟩) lo).trans y20, (h.cell (p := ⟨o, 7, none⟩) lo).trans y21, (h.cell (p := ⟨o, 8, none⟩) lo).trans y22, (h.cell (p := ⟨o, 9, none⟩) lo).trans y30, (h.cell (p := ⟨o, 10, none⟩) lo).trans y31, (h.cell (p := ⟨o, 11, none⟩) lo).trans y32, (h.cell (p := ⟨o, 12, none⟩) lo).trans y40, (h.cell (p := ⟨o, 13, none⟩) lo).trans y41, (h.cell (p := ⟨o, 14, none⟩) lo).trans y42, (h.cell (p := ⟨o, 15, none⟩) lo).trans y50, (h.cell (p := ⟨o, 16, none⟩) lo).trans y51, (h.cell (p := ⟨o, 17, none⟩) lo).trans y52, (h.cell (p := ⟨o, 18, none⟩) lo).trans y60, (h.cell (p := ⟨o, 19, none⟩) lo).trans y61, (h.cell (p := ⟨o, 20, none⟩) lo).trans y62, (h.cell (p := ⟨o, 21, none⟩) lo).trans y70, (h.cell (p := ⟨o, 22, none⟩) lo).trans y71, (h.cell (p := ⟨o, 23, none⟩) lo).trans y72⟩
  go_region_held3 (fun w' => w'.cell? ⟨o, 0, none⟩ = some (.bool s0) ∧ w'.cell? ⟨o, 1, none⟩ = some (.slice a0 n0 c0) ∧ w'.cell? ⟨o, 2, none⟩ = some (.slice b0 m0 d0) ∧ w'.cell? ⟨o, 3, none⟩ = some (.bool s1) ∧ w'.cell? ⟨o, 4, none⟩ = some (.slice a1 n1 c1) ∧ w'.cell? ⟨o, 5, none⟩ = some (.slice b1 m1 d1) ∧ w'.cell? ⟨o, 6, none⟩ = some (.bool s2) ∧ w'.cell? ⟨o, 7, none⟩ = some (.slice a2 n2 c2) ∧ w'.cell? ⟨o, 8, none⟩ = some (.slice b2 m2 d2) ∧ w'.cell? ⟨o, 9, none⟩ = some (.bool s3) ∧ w'.cell? ⟨o, 10, none⟩ = some (.slice a3 n3 c3) ∧ w'.cell? ⟨o, 11, none⟩ = some (.slice b3 m3 d3) ∧ w'.cell? ⟨o, 12, none⟩ = some (.bool s4) ∧ w'.cell? ⟨o, 13, none⟩ = some (.slice a4 n4 c4) ∧ w'.cell? ⟨o, 14, none⟩ = some (.slice b4 m4 d4) ∧ w'.cell? ⟨o, 15, none⟩ = some (.bool s5) ∧ w'.cell? ⟨o, 16, none⟩ = some (.slice a5 n5 c5) ∧ w'.cell? ⟨o, 17, none⟩ = some (.slice b5 m5 d5) ∧ w'.cell? ⟨o, 18, none⟩ = some (.bool s6) ∧ w'.cell? ⟨o, 19, none⟩ = some (.slice a6 n6 c6) ∧ w'.cell? ⟨o, 20, none⟩ = some (.slice b6 m6 d6) ∧ w'.cell? ⟨o, 21, none⟩ = some (.bool s7) ∧ w'.cell? ⟨o, 22, none⟩ = some (.slice a7 n7 c7) ∧ w'.cell? ⟨o, 23, none⟩ = some (.slice b7 m7 d7)) (go_keep) (first | (go_at_call_of 40 a0; refine (from22_at R0 R1 R2 R3 z0 z1 z2 z3 (by omega) (by first | exact Below.refl _ _ | exact below_drewN (Below.refl _ _) _)).mono ?_; rintro e wX ⟨t1, e1, x1, f1, h1, v1', g1, t2, e2, x2, f2, h2, v2', g2, rfl, Q1, Q2, Z1, Z2, _, hbX⟩; obtain ⟨y00, y01, y02, y10, y11, y12, y20, y21, y22, y30, y31, y32, y40, y41, y42, y50, y51, y52, y60, y61, y62, y70, y71, y72⟩ := hcl wX hbX) | (go_at_call_of 42 e1; refine (square22_at Q1.rt22 Q2.rt22 Z1 Z2 (by omega) hbX).mono ?_; rintro e wY ⟨t3, e3, x3, f3, h3, v3', g3, rfl, Q3, Z3, _, hbY⟩; obtain ⟨y00, y01, y02, y10, y11, y12, y20, y21, y22, y30, y31, y32, y40, y41, y42, y50, y51, y52, y60, y61, y62, y70, y71, y72⟩ := hcl wY hbY) | (go_at_call_of 40 a4; refine (from22_at R4 R5 R6 R7 z4 z5 z6 z7 (by omega) hbY).mono ?_; rintro e wZ ⟨t4, e4, x4, f4, h4, v4', g4, t5, e5, x5, f5, h5, v5', g5, rfl, Q4, Q5, Z4, Z5, hbYZ, hbZ⟩; obtain ⟨y00, y01, y02, y10, y11, y12, y20, y21, y22, y30, y31, y32, y40, y41, y42, y50, y51, y52, y60, y61, y62, y70, y71, y72⟩ := hcl wZ hbZ) | (go_at_call_of 42 e4; refine (square22_at Q4.rt22 Q5.rt22 Z4 Z5 (by omega) hbZ).mono ?_; rintro e wU ⟨t6, e6, x6, f6, h6, v6', g6, rfl, Q6, Z6, hbZU, hbU⟩; obtain ⟨y00, y01, y02, y10, y11, y12, y20, y21, y22, y30, y31, y32, y40, y41, y42, y50, y51, y52, y60, y61, y62, y70, y71, y72⟩ := hcl wU hbU) | (go_at_call 49; refine (rCmp_ok ((Q3.later hbYZ).later hbZU) Q6 Z3 Z6 (by omega) rfl).mono ?_; rintro e wV ⟨rfl, hbUV⟩; have hbV := hbU.trans (hbUV.mono hbU.size); obtain ⟨y00, y01, y02, y10, y11, y12, y20, y21, y22, y30, y31, y32, y40, y41, y42, y50, y51, y52, y60, y61, y62, y70, y71, y72⟩ := hcl wV hbV))
  go_wp2
  go_ret2
  exact ⟨rfl, B2.trans (hbV.mono B2.size)⟩
end Go.Proofs.YtbonkgmcpjaepabGreat

/- package pred: Between, Area2 (written by genpdf.py). -/
namespace Go.Proofs.YtbonkgmcpjaepabGreat
open Go.ChangeShapes Go.WideShapes Go.ChangeAt Go.RowKit
open Na Ar
set_option linter.unusedVariables false
set_option maxHeartbeats 6400000 in
set_option maxRecDepth 100000 in
theorem Between22_inf {w : World} {a b c : Int × Int} (ua : U2 a) (ub : U2 b) (uc : U2 c) (hf : ¬ (fin2 a ∧ fin2 b ∧ fin2 c)) :
    Calls Tryz.prog 18 #[.agg #[.int .u64 a.1, .int .u64 a.2], .agg #[.int .u64 b.1, .int .u64 b.2], .agg #[.int .u64 c.1, .int .u64 c.2]] w fun e w' => e = .returned (.tuple #[.bool false, .int .i64 220]) ∧ Below w.heap.size w w' := by
  obtain ⟨w0, hw0⟩ : ∃ w0, w0 = ((w.alloc (.cells #[.int .u64 a.1, .int .u64 a.2] 34)).alloc (.cells #[.int .u64 b.1, .int .u64 b.2] 34)).alloc (.cells #[.int .u64 c.1, .int .u64 c.2] 34) := ⟨_, rfl⟩
  have hb0 : Below w.heap.size w w0 := by
    subst hw0
    exact pts3_below _ _ _ _
  have al := alloc_below (w := w0) (.cells #[.int .u64 a.1, .int .u64 a.2, .int .u64 b.1, .int .u64 b.2, .int .u64 c.1, .int .u64 c.2] 34)
  have hPt := ptAt3 w0 34 ua ub uc
  have e0 : w0.heap.size = w.heap.size + 1 + 1 + 1 := by subst hw0; simp
  rw [e0] at hPt
  have hsp := spots22_any (c := 3) hPt (by rw [← e0]; simp) (by omega)
  have hB1 := hb0.trans (al.mono hb0.size)
  replace hsp := hsp.mono (fun e w' h => open3_inf hf h)
  clear hPt al hb0 e0 hf ua ub uc
  go_enter Tryz.func18, Tryz.ntmps18
  go_wp2_with fail
  rw [← hw0]
  generalize w0.alloc (.cells #[.int .u64 a.1, .int .u64 a.2, .int .u64 b.1, .int .u64 b.2, .int .u64 c.1, .int .u64 c.2] 34) = w1 at *
  refine hsp.mono ?_
  rintro e wA ⟨rfl, hbA⟩
  have B2 := hB1.trans (hbA.mono hB1.size)
  clear hsp hw0
  go_wp2
  go_ret2
  exact ⟨rfl, B2⟩
set_option maxHeartbeats 6400000 in
set_option maxRecDepth 100000 in
theorem Between22_fin {w : World} {a b c : Int × Int} (ua : U2 a) (ub : U2 b) (uc : U2 c) (fa : fin2 a) (fb : fin2 b) (fc : fin2 c) :
    Calls Tryz.prog 18 #[.agg #[.int .u64 a.1, .int .u64 a.2], .agg #[.int .u64 b.1, .int .u64 b.2], .agg #[.int .u64 c.1, .int .u64 c.2]] w fun e w' => e = .returned (.tuple #[.bool (decide (0 ≤ ordS (valR a.1) (valR a.2) (valR c.1) (valR c.2) * ordS (valR c.1) (valR c.2) (valR b.1) (valR b.2)) && decide (sgnR (crR (valR a.1) (valR a.2) (valR b.1) (valR b.2) (valR c.1) (valR c.2)) = 0)), .int .i64 0]) ∧ Below w.heap.size w w' := by
  obtain ⟨w0, hw0⟩ : ∃ w0, w0 = ((w.alloc (.cells #[.int .u64 a.1, .int .u64 a.2] 34)).alloc (.cells #[.int .u64 b.1, .int .u64 b.2] 34)).alloc (.cells #[.int .u64 c.1, .int .u64 c.2] 34) := ⟨_, rfl⟩
  have hb0 : Below w.heap.size w w0 := by
    subst hw0
    exact pts3_below _ _ _ _
  have al := alloc_below (w := w0) (.cells #[.int .u64 a.1, .int .u64 a.2, .int .u64 b.1, .int .u64 b.2, .int .u64 c.1, .int .u64 c.2] 34)
  have hPt := ptAt3 w0 34 ua ub uc
  have e0 : w0.heap.size = w.heap.size + 1 + 1 + 1 := by subst hw0; simp
  rw [e0] at hPt
  have hsp := spots22_any (c := 3) hPt (by rw [← e0]; simp) (by omega)
  have hB1 := hb0.trans (al.mono hb0.size)
  have z0 := value_size ua.1 fa.1
  have z1 := value_size ua.2 fa.2
  have z2 := value_size ub.1 fb.1
  have z3 := value_size ub.2 fb.2
  have z4 := value_size uc.1 fc.1
  have z5 := value_size uc.2 fc.2
  replace hsp := hsp.mono (fun e w' h => open3 ua fa ub fb uc fc h)
  clear hPt al hb0 e0 ua fa ub fb uc fc
  generalize valR a.1 = v0 at *
  generalize valR a.2 = v1 at *
  generalize valR b.1 = v2 at *
  generalize valR b.2 = v3 at *
  generalize valR c.1 = v4 at *
  generalize valR c.2 = v5 at *
  obtain ⟨o1, ho1⟩ : ∃ o1, o1 = ordS v0 v1 v4 v5 := ⟨_, rfl⟩
  obtain ⟨o2, ho2⟩ : ∃ o2, o2 = ordS v4 v5 v2 v3 := ⟨_, rfl⟩
  obtain ⟨X, hX⟩ : ∃ X, X = crR v0 v1 v2 v3 v4 v5 := ⟨_, rfl⟩
  have b1 := ordS_in v0 v1 v4 v5
  have b2 := ordS_in v4 v5 v2 v3
  rw [← ho1, ← ho2, ← hX]
  rw [← ho1] at b1
  rw [← ho2] at b2
  have HO1 : Hid (o1 = ordS v0 v1 v4 v5) := ho1
  have HO2 : Hid (o2 = ordS v4 v5 v2 v3) := ho2
  have HX : Hid (X = crR v0 v1 v2 v3 v4 v5) := hX
  have bm := mul_in b1 b2
  obtain ⟨M, hM⟩ : ∃ M, M = o1 * o2 := ⟨_, rfl⟩
  have hwr : IntKind.i64.wrap (o1 * o2) = M := by rw [hM, IntKind.wrap_i64]; omega
  rw [← hM] at bm ⊢
  have HM : Hid (M = o1 * o2) := hM
  clear ho1 ho2 hX b1 b2 hM
  by_cases hM0 : 0 ≤ M
  · have tM : decide (0 ≤ M) = true := decide_eq_true hM0
    have HR : Hid ((decide (0 ≤ M) && decide (sgnR X = 0)) = (sgnR X == 0)) := by show _ = _; rw [tM, Bool.true_and]; rfl
    rw [HR.out]
    go_enter Tryz.func18, Tryz.ntmps18
    go_wp2_with fail
    rw [← hw0]
    generalize w0.alloc (.cells #[.int .u64 a.1, .int .u64 a.2, .int .u64 b.1, .int .u64 b.2, .int .u64 c.1, .int .u64 c.2] 34) = w1 at *
    refine hsp.mono ?_
    rintro e wA ⟨o, rfl, lo, go, A0, A1, A2, A3, A4, A5, hbA⟩
    have B2 := hB1.trans (hbA.mono hB1.size)
    clear hsp hw0 go
    obtain ⟨s0, a0, n0, c0, b0, m0, d0, ⟨y00, y01, y02⟩, R0⟩ := A0
    obtain ⟨s1, a1, n1, c1, b1, m1, d1, ⟨y10, y11, y12⟩, R1⟩ := A1
    obtain ⟨s2, a2, n2, c2, b2, m2, d2, ⟨y20, y21, y22⟩, R2⟩ := A2
    obtain ⟨s3, a3, n3, c3, b3, m3, d3, ⟨y30, y31, y32⟩, R3⟩ := A3
    obtain ⟨s4, a4, n4, c4, b4, m4, d4, ⟨y40, y41, y42⟩, R4⟩ := A4
    obtain ⟨s5, a5, n5, c5, b5, m5, d5, ⟨y50, y51, y52⟩, R5⟩ := A5
    have k1 := order22_any' (w0 := wA) R0 R1 R4 R5 z0 z1 z4 z5 (by omega)
    have k2 := order22_any' (w0 := wA) R4 R5 R2 R3 z4 z5 z2 z3 (by omega)
    have k3 := turn22_any' (w0 := wA) R0 R1 R2 R3 R4 R5 z0 z1 z2 z3 z4 z5 (by omega)
    rw [← HO1.out] at k1
    rw [← HO2.out] at k2
    rw [← HX.out] at k3
    clear R0 R1 R2 R3 R4 R5 z0 z1 z2 z3 z4 z5
    have hcl : ∀ w', Below wA.heap.size wA w' → w'.cell? ⟨o, 0, none⟩ = some (.bool s0) ∧ w'.cell? ⟨o, 1, none⟩ = some (.slice a0 n0 c0) ∧ w'.cell? ⟨o, 2, none⟩ = some (.slice b0 m0 d0) ∧ w'.cell? ⟨o, 3, none⟩ = some (.bool s1) ∧ w'.cell? ⟨o, 4, none⟩ = some (.slice a1 n1 c1) ∧ w'.cell? ⟨o, 5, none⟩ = some (.slice b1 m1 d1) ∧ w'.cell? ⟨o, 6, none⟩ = some (.bool s2) ∧ w'.cell? ⟨o, 7, none⟩ = some (.slice a2 n2 c2) ∧ w'.cell? ⟨o, 8, none⟩ = some (.slice b2 m2 d2) ∧ w'.cell? ⟨o, 9, none⟩ = some (.bool s3) ∧ w'.cell? ⟨o, 10, none⟩ = some (.slice a3 n3 c3) ∧ w'.cell? ⟨o, 11, none⟩ = some (.slice b3 m3 d3) ∧ w'.cell? ⟨o, 12, none⟩ = some (.bool s4) ∧ w'.cell? ⟨o, 13, none⟩ = some (.slice a4 n4 c4) ∧ w'.cell? ⟨o, 14, none⟩ = some (.slice b4 m4 d4) ∧ w'.cell? ⟨o, 15, none⟩ = some (.bool s5) ∧ w'.cell? ⟨o, 16, none⟩ = some (.slice a5 n5 c5) ∧ w'.cell? ⟨o, 17, none⟩ = some (.slice b5 m5 d5) := fun w' h => ⟨(h.cell (p := ⟨o, 0, none⟩) lo).trans y00, (h.cell (p := ⟨o, 1, none⟩) lo).trans y01, (h.cell (p := ⟨o, 2, none⟩) lo).trans y02, (h.cell (p := ⟨o, 3, none⟩) lo).trans y10, (h.cell (p := ⟨o, 4, none⟩) lo).trans y11, (h.cell (p := ⟨o, 5, none⟩) lo).trans y12, (h.cell (p := ⟨o, 6, none⟩) lo).trans y20, (h.cell (p := ⟨o, 7, none⟩) lo).trans y21, (h.cell (p := ⟨o, 8, none⟩) lo).trans y22, (h.cell (p := ⟨o, 9, none⟩) lo).trans y30, (h.cell (p := ⟨o, 10, none⟩) lo).trans y31, (h.cell (p := ⟨o, 11, none⟩) lo).trans y32, (h.cell (p := ⟨o, 12, none⟩) lo).trans y40, (h.cell (p := ⟨o, 13, none⟩) lo).trans y41, (h.cell (p := ⟨o, 14, none⟩) lo).trans y42, (h.cell (p := ⟨o, 15, none⟩) lo).trans y50, (h.cell (p := ⟨o, 16, none⟩) lo).trans y51, (h.cell (p := ⟨o, 17, none⟩) lo).trans y52⟩
    go_wp2
    go_region_held3 (fun w' => w'.cell? ⟨o, 0, none⟩ = some (.bool s0) ∧ w'.cell? ⟨o, 1, none⟩ = some (.slice a0 n0 c0) ∧ w'.cell? ⟨o, 2, none⟩ = some (.slice b0 m0 d0) ∧ w'.cell? ⟨o, 3, none⟩ = some (.bool s1) ∧ w'.cell? ⟨o, 4, none⟩ = some (.slice a1 n1 c1) ∧ w'.cell? ⟨o, 5, none⟩ = some (.slice b1 m1 d1) ∧ w'.cell? ⟨o, 6, none⟩ = some (.bool s2) ∧ w'.cell? ⟨o, 7, none⟩ = some (.slice a2 n2 c2) ∧ w'.cell? ⟨o, 8, none⟩ = some (.slice b2 m2 d2) ∧ w'.cell? ⟨o, 9, none⟩ = some (.bool s3) ∧ w'.cell? ⟨o, 10, none⟩ = some (.slice a3 n3 c3) ∧ w'.cell? ⟨o, 11, none⟩ = some (.slice b3 m3 d3) ∧ w'.cell? ⟨o, 12, none⟩ = some (.bool s4) ∧ w'.cell? ⟨o, 13, none⟩ = some (.slice a4 n4 c4) ∧ w'.cell? ⟨o, 14, none⟩ = some (.slice b4 m4 d4) ∧ w'.cell? ⟨o, 15, none⟩ = some (.bool s5) ∧ w'.cell? ⟨o, 16, none⟩ = some (.slice a5 n5 c5) ∧ w'.cell? ⟨o, 17, none⟩ = some (.slice b5 m5 d5)) (go_keep) ((first | (go_at_call_of 47 a0; refine (k1 _ (by first | exact Below.refl _ _ | exact below_drewN (Below.refl _ _) _)).mono ?_; rintro e wX ⟨rfl, hbX⟩; obtain ⟨y00, y01, y02, y10, y11, y12, y20, y21, y22, y30, y31, y32, y40, y41, y42, y50, y51, y52⟩ := hcl wX hbX) | (go_at_call_of 47 a2; refine (k2 _ hbX).mono ?_; rintro e wY ⟨rfl, hbY⟩; obtain ⟨y00, y01, y02, y10, y11, y12, y20, y21, y22, y30, y31, y32, y40, y41, y42, y50, y51, y52⟩ := hcl wY hbY)))
    go_wp2
    have hbY' := hbY
    go_region_held3 (fun w' => w'.cell? ⟨o, 0, none⟩ = some (.bool s0) ∧ w'.cell? ⟨o, 1, none⟩ = some (.slice a0 n0 c0) ∧ w'.cell? ⟨o, 2, none⟩ = some (.slice b0 m0 d0) ∧ w'.cell? ⟨o, 3, none⟩ = some (.bool s1) ∧ w'.cell? ⟨o, 4, none⟩ = some (.slice a1 n1 c1) ∧ w'.cell? ⟨o, 5, none⟩ = some (.slice b1 m1 d1) ∧ w'.cell? ⟨o, 6, none⟩ = some (.bool s2) ∧ w'.cell? ⟨o, 7, none⟩ = some (.slice a2 n2 c2) ∧ w'.cell? ⟨o, 8, none⟩ = some (.slice b2 m2 d2) ∧ w'.cell? ⟨o, 9, none⟩ = some (.bool s3) ∧ w'.cell? ⟨o, 10, none⟩ = some (.slice a3 n3 c3) ∧ w'.cell? ⟨o, 11, none⟩ = some (.slice b3 m3 d3) ∧ w'.cell? ⟨o, 12, none⟩ = some (.bool s4) ∧ w'.cell? ⟨o, 13, none⟩ = some (.slice a4 n4 c4) ∧ w'.cell? ⟨o, 14, none⟩ = some (.slice b4 m4 d4) ∧ w'.cell? ⟨o, 15, none⟩ = some (.bool s5) ∧ w'.cell? ⟨o, 16, none⟩ = some (.slice a5 n5 c5) ∧ w'.cell? ⟨o, 17, none⟩ = some (.slice b5 m5 d5)) (go_keep) (((go_at_call 35; refine (k3 _ (by first | exact hbY | exact below_drewN hbY _)).mono ?_; rintro e wZ ⟨rfl, hbZ⟩; obtain ⟨y00, y01, y02, y10, y11, y12, y20, y21, y22, y30, y31, y32, y40, y41, y42, y50, y51, y52⟩ := hcl wZ hbZ)))
    go_wp2
    go_ret2
    exact ⟨rfl, B2.trans (hbZ.mono B2.size)⟩
  · have tM : decide (0 ≤ M) = false := decide_eq_false hM0
    have HR : Hid ((decide (0 ≤ M) && decide (sgnR X = 0)) = false) := by show _ = _; rw [tM, Bool.false_and]
    rw [HR.out]
    go_enter Tryz.func18, Tryz.ntmps18
    go_wp2_with fail
    rw [← hw0]
    generalize w0.alloc (.cells #[.int .u64 a.1, .int .u64 a.2, .int .u64 b.1, .int .u64 b.2, .int .u64 c.1, .int .u64 c.2] 34) = w1 at *
    refine hsp.mono ?_
    rintro e wA ⟨o, rfl, lo, go, A0, A1, A2, A3, A4, A5, hbA⟩
    have B2 := hB1.trans (hbA.mono hB1.size)
    clear hsp hw0 go
    obtain ⟨s0, a0, n0, c0, b0, m0, d0, ⟨y00, y01, y02⟩, R0⟩ := A0
    obtain ⟨s1, a1, n1, c1, b1, m1, d1, ⟨y10, y11, y12⟩, R1⟩ := A1
    obtain ⟨s2, a2, n2, c2, b2, m2, d2, ⟨y20, y21, y22⟩, R2⟩ := A2
    obtain ⟨s3, a3, n3, c3, b3, m3, d3, ⟨y30, y31, y32⟩, R3⟩ := A3
    obtain ⟨s4, a4, n4, c4, b4, m4, d4, ⟨y40, y41, y42⟩, R4⟩ := A4
    obtain ⟨s5, a5, n5, c5, b5, m5, d5, ⟨y50, y51, y52⟩, R5⟩ := A5
    have k1 := order22_any' (w0 := wA) R0 R1 R4 R5 z0 z1 z4 z5 (by omega)
    have k2 := order22_any' (w0 := wA) R4 R5 R2 R3 z4 z5 z2 z3 (by omega)
    have k3 := turn22_any' (w0 := wA) R0 R1 R2 R3 R4 R5 z0 z1 z2 z3 z4 z5 (by omega)
    rw [← HO1.out] at k1
    rw [← HO2.out] at k2
    rw [← HX.out] at k3
    clear R0 R1 R2 R3 R4 R5 z0 z1 z2 z3 z4 z5
    have hcl : ∀ w', Below wA.heap.size wA w' → w'.cell? ⟨o, 0, none⟩ = some (.bool s0) ∧ w'.cell? ⟨o, 1, none⟩ = some (.slice a0 n0 c0) ∧ w'.cell? ⟨o, 2, none⟩ = some (.slice b0 m0 d0) ∧ w'.cell? ⟨o, 3, none⟩ = some (.bool s1) ∧ w'.cell? ⟨o, 4, none⟩ = some (.slice a1 n1 c1) ∧ w'.cell? ⟨o, 5, none⟩ = some (.slice b1 m1 d1) ∧ w'.cell? ⟨o, 6, none⟩ = some (.bool s2) ∧ w'.cell? ⟨o, 7, none⟩ = some (.slice a2 n2 c2) ∧ w'.cell? ⟨o, 8, none⟩ = some (.slice b2 m2 d2) ∧ w'.cell? ⟨o, 9, none⟩ = some (.bool s3) ∧ w'.cell? ⟨o, 10, none⟩ = some (.slice a3 n3 c3) ∧ w'.cell? ⟨o, 11, none⟩ = some (.slice b3 m3 d3) ∧ w'.cell? ⟨o, 12, none⟩ = some (.bool s4) ∧ w'.cell? ⟨o, 13, none⟩ = some (.slice a4 n4 c4) ∧ w'.cell? ⟨o, 14, none⟩ = some (.slice b4 m4 d4) ∧ w'.cell? ⟨o, 15, none⟩ = some (.bool s5) ∧ w'.cell? ⟨o, 16, none⟩ = some (.slice a5 n5 c5) ∧ w'.cell? ⟨o, 17, none⟩ = some (.slice b5 m5 d5) := fun w' h => ⟨(h.cell (p := ⟨o, 0, none⟩) lo).trans y00, (h.cell (p := ⟨o, 1, none⟩) lo).trans y01, (h.cell (p := ⟨o, 2, none⟩) lo).trans y02, (h.cell (p := ⟨o, 3, none⟩) lo).trans y10, (h.cell (p := ⟨o, 4, none⟩) lo).trans y11, (h.cell (p := ⟨o, 5, none⟩) lo).trans y12, (h.cell (p := ⟨o, 6, none⟩) lo).trans y20, (h.cell (p := ⟨o, 7, none⟩) lo).trans y21, (h.cell (p := ⟨o, 8, none⟩) lo).trans y22, (h.cell (p := ⟨o, 9, none⟩) lo).trans y30, (h.cell (p := ⟨o, 10, none⟩) lo).trans y31, (h.cell (p := ⟨o, 11, none⟩) lo).trans y32, (h.cell (p := ⟨o, 12, none⟩) lo).trans y40, (h.cell (p := ⟨o, 13, none⟩) lo).trans y41, (h.cell (p := ⟨o, 14, none⟩) lo).trans y42, (h.cell (p := ⟨o, 15, none⟩) lo).trans y50, (h.cell (p := ⟨o, 16, none⟩) lo).trans y51, (h.cell (p := ⟨o, 17, none⟩) lo).trans y52⟩
    go_wp2
    go_region_held3 (fun w' => w'.cell? ⟨o, 0, none⟩ = some (.bool s0) ∧ w'.cell? ⟨o, 1, none⟩ = some (.slice a0 n0 c0) ∧ w'.cell? ⟨o, 2, none⟩ = some (.slice b0 m0 d0) ∧ w'.cell? ⟨o, 3, none⟩ = some (.bool s1) ∧ w'.cell? ⟨o, 4, none⟩ = some (.slice a1 n1 c1) ∧ w'.cell? ⟨o, 5, none⟩ = some (.slice b1 m1 d1) ∧ w'.cell? ⟨o, 6, none⟩ = some (.bool s2) ∧ w'.cell? ⟨o, 7, none⟩ = some (.slice a2 n2 c2) ∧ w'.cell? ⟨o, 8, none⟩ = some (.slice b2 m2 d2) ∧ w'.cell? ⟨o, 9, none⟩ = some (.bool s3) ∧ w'.cell? ⟨o, 10, none⟩ = some (.slice a3 n3 c3) ∧ w'.cell? ⟨o, 11, none⟩ = some (.slice b3 m3 d3) ∧ w'.cell? ⟨o, 12, none⟩ = some (.bool s4) ∧ w'.cell? ⟨o, 13, none⟩ = some (.slice a4 n4 c4) ∧ w'.cell? ⟨o, 14, none⟩ = some (.slice b4 m4 d4) ∧ w'.cell? ⟨o, 15, none⟩ = some (.bool s5) ∧ w'.cell? ⟨o, 16, none⟩ = some (.slice a5 n5 c5) ∧ w'.cell? ⟨o, 17, none⟩ = some (.slice b5 m5 d5)) (go_keep) ((first | (go_at_call_of 47 a0; refine (k1 _ (by first | exact Below.refl _ _ | exact below_drewN (Below.refl _ _) _)).mono ?_; rintro e wX ⟨rfl, hbX⟩; obtain ⟨y00, y01, y02, y10, y11, y12, y20, y21, y22, y30, y31, y32, y40, y41, y42, y50, y51, y52⟩ := hcl wX hbX) | (go_at_call_of 47 a2; refine (k2 _ hbX).mono ?_; rintro e wY ⟨rfl, hbY⟩; obtain ⟨y00, y01, y02, y10, y11, y12, y20, y21, y22, y30, y31, y32, y40, y41, y42, y50, y51, y52⟩ := hcl wY hbY)))
    go_wp2
    go_quiet (fail)
    go_wp2
    go_ret2
    exact ⟨rfl, below_drewN (B2.trans (hbY.mono B2.size)) _⟩
end Go.Proofs.YtbonkgmcpjaepabGreat

/- plumblaw22: num, finite, fixed. -/
namespace Go.Proofs.YtbonkgmcpjaepabGreat
open Go.ChangeShapes Go.WideShapes Go.ChangeAt Go.RowKit
open Na Ar
set_option linter.unusedVariables false
/-- whether points are finite -/
def FinQ (w : World) (n : Nat) (P : Nat → Int × Int) (e : Ending) (w' : World) : Prop := ∃ B : Bool, e = .returned (.bool B) ∧ (B = true ↔ ∀ i, i < n → fin2 (P i)) ∧ Below w.heap.size w w'
theorem u2_of {x y : Int} (hx : U x) (hy : U y) : U2 (x, y) := ⟨hx, hy⟩
end Go.Proofs.YtbonkgmcpjaepabGreat

/- plumblaw22: PredOrders (written by genpdl.py). -/
namespace Go.Proofs.YtbonkgmcpjaepabGreat
open Go.ChangeShapes Go.WideShapes Go.ChangeAt Go.RowKit
open Na Ar
set_option linter.unusedVariables false
structure HL (p : Prop) : Prop where
  mk ::
  out : p
theorem num22_same (x : Int) (w : World) : Calls Tryz.prog 9 #[.int .i64 x] w fun e w' => e = .returned (.int .i64 x) ∧ w = w' := by
  go_enter Tryz.func9, Tryz.ntmps9
  go_wp2
  go_ret
  exact ⟨rfl, rfl⟩
theorem sgnR_neg (q : Rat) : sgnR (-q) = - sgnR q := by
  unfold sgnR
  rw [Rat.neg_num]
  by_cases h : q.num = 0
  · rw [if_pos h, if_pos (by omega)]; rfl
  · by_cases h' : q.num < 0
    · rw [if_neg h, if_pos h', if_neg (by omega), if_neg (by omega)]; rfl
    · rw [if_neg h, if_neg h', if_neg (by omega), if_pos (by omega)]
end Go.Proofs.YtbonkgmcpjaepabGreat

/- package pred: Area2 of finite points; what PredTurns asks of its numbers (written by genpdn.py). -/
namespace Go.Proofs.YtbonkgmcpjaepabGreat
open Go.ChangeShapes Go.WideShapes Go.ChangeAt Go.RowKit
open Na Ar
set_option linter.unusedVariables false
theorem four_cells {w : World} {g : Nat} {t : TypeId} {y0 y1 y2 y3 y4 y5 y6 y7 : Value} (h : Pb w g t #[y0, y1, y2, y3, y4, y5, y6, y7]) : w.cell? ⟨g, 0, none⟩ = some y0 ∧ w.cell? ⟨g, 1, none⟩ = some y1 ∧ w.cell? ⟨g, 2, none⟩ = some y2 ∧ w.cell? ⟨g, 3, none⟩ = some y3 ∧ w.cell? ⟨g, 4, none⟩ = some y4 ∧ w.cell? ⟨g, 5, none⟩ = some y5 ∧ w.cell? ⟨g, 6, none⟩ = some y6 ∧ w.cell? ⟨g, 7, none⟩ = some y7 :=
  ⟨h.cell 0 rfl, h.cell 1 rfl, h.cell 2 rfl, h.cell 3 rfl, h.cell 4 rfl, h.cell 5 rfl, h.cell 6 rfl, h.cell 7 rfl⟩
theorem area22_at {w w0 : World} {s1 s2 s3 s4 s5 s6 : Bool} {a1 b1 a2 b2 a3 b3 a4 b4 a5 b5 a6 b6 : Option Addr} {n1 c1 m1 d1 n2 c2 m2 d2 n3 c3 m3 d3 n4 c4 m4 d4 n5 c5 m5 d5 n6 c6 m6 d6 : Nat} {q1 q2 q3 q4 q5 q6 : Rat} {k : Nat} (h1 : Rt w0 s1 a1 n1 c1 b1 m1 d1 q1) (h2 : Rt w0 s2 a2 n2 c2 b2 m2 d2 q2) (h3 : Rt w0 s3 a3 n3 c3 b3 m3 d3 q3) (h4 : Rt w0 s4 a4 n4 c4 b4 m4 d4 q4) (h5 : Rt w0 s5 a5 n5 c5 b5 m5 d5 q5) (h6 : Rt w0 s6 a6 n6 c6 b6 m6 d6 q6) (z1 : Sz q1 k) (z2 : Sz q2 k) (z3 : Sz q3 k) (z4 : Sz q4 k) (z5 : Sz q5 k) (z6 : Sz q6 k) (hk : k ≤ 60) (h : Below w0.heap.size w0 w) :
    Calls Tryz.prog 36 #[.agg #[.bool s1, .slice a1 n1 c1, .slice b1 m1 d1, .bool s2, .slice a2 n2 c2, .slice b2 m2 d2], .agg #[.bool s3, .slice a3 n3 c3, .slice b3 m3 d3, .bool s4, .slice a4 n4 c4, .slice b4 m4 d4], .agg #[.bool s5, .slice a5 n5 c5, .slice b5 m5 d5, .bool s6, .slice a6 n6 c6, .slice b6 m6 d6]] w fun e w' => ∃ s a n c b m d, e = .returned (.agg #[.bool s, .slice a n c, .slice b m d]) ∧ RtO w' w0.heap.size s (.slice a n c) (.slice b m d) (crR q1 q2 q3 q4 q5 q6) ∧ Sz (crR q1 q2 q3 q4 q5 q6) (8 * k + 5) ∧ w.heap.size ≤ w'.heap.size ∧ Below w0.heap.size w0 w' := by
  refine (area22_any (h1.later h) (h2.later h) (h3.later h) (h4.later h) (h5.later h) (h6.later h) z1 z2 z3 z4 z5 z6 hk).mono ?_
  rintro e w' ⟨s, a, n, c, b, m, d, rfl, hR, hz, hb⟩
  exact ⟨s, a, n, c, b, m, d, rfl, hR.lower h.size, hz, hb.size, h.trans (hb.mono h.size)⟩
/-- the Rat that Area2 answers -/
def ArQ (w : World) (q : Rat) (e : Ending) (w' : World) : Prop := ∃ s a n c b m d, e = .returned (.tuple #[.agg #[.bool s, .slice a n c, .slice b m d], .int .i64 0]) ∧ Rt w' s a n c b m d q ∧ n ≤ 4000000 ∧ Below w.heap.size w w'
set_option maxHeartbeats 6400000 in
set_option maxRecDepth 100000 in
theorem Area222_fin {w : World} {a b c : Int × Int} (ua : U2 a) (ub : U2 b) (uc : U2 c) (fa : fin2 a) (fb : fin2 b) (fc : fin2 c) :
    Calls Tryz.prog 13 #[.agg #[.int .u64 a.1, .int .u64 a.2], .agg #[.int .u64 b.1, .int .u64 b.2], .agg #[.int .u64 c.1, .int .u64 c.2]] w fun e w' => ArQ w (crR (valR a.1) (valR a.2) (valR b.1) (valR b.2) (valR c.1) (valR c.2)) e w' := by
  obtain ⟨w0, hw0⟩ : ∃ w0, w0 = (((w.alloc (.cells #[.int .u64 a.1, .int .u64 a.2] 34)).alloc (.cells #[.int .u64 b.1, .int .u64 b.2] 34)).alloc (.cells #[.int .u64 c.1, .int .u64 c.2] 34)).alloc (.cells #[.bool false, .slice none 0 0, .slice none 0 0] 43) := ⟨_, rfl⟩
  obtain ⟨_, _, _, u4, hb0, e0⟩ : Pb w0 w.heap.size 34 #[.int .u64 a.1, .int .u64 a.2] ∧ Pb w0 (w.heap.size + 1) 34 #[.int .u64 b.1, .int .u64 b.2] ∧ Pb w0 (w.heap.size + 1 + 1) 34 #[.int .u64 c.1, .int .u64 c.2] ∧ St w0 (w.heap.size + 1 + 1 + 1) 43 (.bool false) (.slice none 0 0) (.slice none 0 0) ∧ Below w.heap.size w w0 ∧ w0.heap.size = w.heap.size + 1 + 1 + 1 + 1 := by
    subst hw0
    exact pb_four _ _ _ _ _ _ _ _
  have al := alloc_below (w := w0) (.cells #[.int .u64 a.1, .int .u64 a.2, .int .u64 b.1, .int .u64 b.2, .int .u64 c.1, .int .u64 c.2] 34)
  have hPt := ptAt3 w0 34 ua ub uc
  have hsp := spots22_any (c := 3) hPt (by simp) (by omega)
  have hB1 := hb0.trans (al.mono hb0.size)
  have u5 := u4.later al
  obtain ⟨g, hg⟩ : ∃ g, g = w.heap.size + 1 + 1 + 1 := ⟨_, rfl⟩
  have HG : Hid (w.heap.size + 1 + 1 + 1 = g) := hg.symm
  have hge : w.heap.size ≤ g := by omega
  have hlt : g < w0.heap.size := by omega
  rw [← hg] at u5
  have hgz : w0.heap.size = g + 1 := by omega
  have HGZ : Hid (w0.heap.size = g + 1) := hgz
  rw [hgz] at hsp hlt
  have z0 := value_size ua.1 fa.1
  have z1 := value_size ua.2 fa.2
  have z2 := value_size ub.1 fb.1
  have z3 := value_size ub.2 fb.2
  have z4 := value_size uc.1 fc.1
  have z5 := value_size uc.2 fc.2
  replace hsp := hsp.mono (fun e w' h => open3 ua fa ub fb uc fc h)
  clear hPt hb0 e0 u4 hg hgz ua fa ub fb uc fc
  generalize valR a.1 = v0 at *
  generalize valR a.2 = v1 at *
  generalize valR b.1 = v2 at *
  generalize valR b.2 = v3 at *
  generalize valR c.1 = v4 at *
  generalize valR c.2 = v5 at *
  go_enter Tryz.func13, Tryz.ntmps13
  go_wp2_with fail
  rw [← hw0, HG.out]
  generalize w0.alloc (.cells #[.int .u64 a.1, .int .u64 a.2, .int .u64 b.1, .int .u64 b.2, .int .u64 c.1, .int .u64 c.2] 34) = w1 at *
  refine hsp.mono ?_
  rintro e wA ⟨o, rfl, lo, go, A0, A1, A2, A3, A4, A5, hbA⟩
  have B2 := hB1.trans (hbA.mono hB1.size)
  have u6 := u5.later hbA
  clear hsp hw0
  obtain ⟨s0, a0, n0, c0, b0, m0, d0, ⟨y00, y01, y02⟩, R0⟩ := A0
  obtain ⟨s1, a1, n1, c1, b1, m1, d1, ⟨y10, y11, y12⟩, R1⟩ := A1
  obtain ⟨s2, a2, n2, c2, b2, m2, d2, ⟨y20, y21, y22⟩, R2⟩ := A2
  obtain ⟨s3, a3, n3, c3, b3, m3, d3, ⟨y30, y31, y32⟩, R3⟩ := A3
  obtain ⟨s4, a4, n4, c4, b4, m4, d4, ⟨y40, y41, y42⟩, R4⟩ := A4
  obtain ⟨s5, a5, n5, c5, b5, m5, d5, ⟨y50, y51, y52⟩, R5⟩ := A5
  have gne : ¬ g = o := by have := al.size; have := HGZ.out; omega
  have gne2 : ¬ o = g := fun h => gne h.symm
  have hgo : g < wA.heap.size := by have := al.size; have := hbA.size; have := HGZ.out; omega
  have sA := B2.size
  clear go hlt al HGZ
  go_wp2
  have hcl : ∀ w', Below wA.heap.size wA w' → w'.cell? ⟨o, 0, none⟩ = some (.bool s0) ∧ w'.cell? ⟨o, 1, none⟩ = some (.slice a0 n0 c0) ∧ w'.cell? ⟨o, 2, none⟩ = some (.slice b0 m0 d0) ∧ w'.cell? ⟨o, 3, none⟩ = some (.bool s1) ∧ w'.cell? ⟨o, 4, none⟩ = some (.slice a1 n1 c1) ∧ w'.cell? ⟨o, 5, none⟩ = some (.slice b1 m1 d1) ∧ w'.cell? ⟨o, 6, none⟩ = some (.bool s2) ∧ w'.cell? ⟨o, 7, none⟩ = some (.slice a2 n2 c2) ∧ w'.cell? ⟨o, 8, none⟩ = some (.slice b2 m2 d2) ∧ w'.cell? ⟨o, 9, none⟩ = some (.bool s3) ∧ w'.cell? ⟨o, 10, none⟩ = some (.slice a3 n3 c3) ∧ w'.cell? ⟨o, 11, none⟩ = some (.slice b3 m3 d3) ∧ w'.cell? ⟨o, 12, none⟩ = some (.bool s4) ∧ w'.cell? ⟨o, 13, none⟩ = some (.slice a4 n4 c4) ∧ w'.cell? ⟨o, 14, none⟩ = some (.slice b4 m4 d4) ∧ w'.cell? ⟨o, 15, none⟩ = some (.bool s5) ∧ w'.cell? ⟨o, 16, none⟩ = some (.slice a5 n5 c5) ∧ w'.cell? ⟨o, 17, none⟩ = some (.slice b5 m5 d5) := fun w' h => ⟨(h.cell (p := ⟨o, 0, none⟩) lo).trans y00, (h.cell (p := ⟨o, 1, none⟩) lo).trans y01, (h.cell (p := ⟨o, 2, none⟩) lo).trans y02, (h.cell (p := ⟨o, 3, none⟩) lo).trans y10, (h.cell (p := ⟨o, 4, none⟩) lo).trans y11, (h.cell (p := ⟨o, 5, none⟩) lo).trans y12, (h.cell (p := ⟨o, 6, none⟩) lo).trans y20, (h.cell (p := ⟨o, 7, none⟩) lo).trans y21, (h.cell (p := ⟨o, 8, none⟩) lo).trans y22, (h.cell (p := ⟨o, 9, none⟩) lo).trans y30, (h.cell (p := ⟨o, 10, none⟩) lo).trans y31, (h.cell (p := ⟨o, 11, none⟩) lo).trans y32, (h.cell (p := ⟨o, 12, none⟩) lo).trans y40, (h.cell (p := ⟨o, 13, none⟩) lo).trans y41, (h.cell (p := ⟨o, 14, none⟩) lo).trans y42, (h.cell (p := ⟨o, 15, none⟩) lo).trans y50, (h.cell (p := ⟨o, 16, none⟩) lo).trans y51, (h.cell (p := ⟨o, 17, none⟩) lo).trans y52⟩
  go_region_held3 (fun w' => w'.cell? ⟨o, 0, none⟩ = some (.bool s0) ∧ w'.cell? ⟨o, 1, none⟩ = some (.slice a0 n0 c0) ∧ w'.cell? ⟨o, 2, none⟩ = some (.slice b0 m0 d0) ∧ w'.cell? ⟨o, 3, none⟩ = some (.bool s1) ∧ w'.cell? ⟨o, 4, none⟩ = some (.slice a1 n1 c1) ∧ w'.cell? ⟨o, 5, none⟩ = some (.slice b1 m1 d1) ∧ w'.cell? ⟨o, 6, none⟩ = some (.bool s2) ∧ w'.cell? ⟨o, 7, none⟩ = some (.slice a2 n2 c2) ∧ w'.cell? ⟨o, 8, none⟩ = some (.slice b2 m2 d2) ∧ w'.cell? ⟨o, 9, none⟩ = some (.bool s3) ∧ w'.cell? ⟨o, 10, none⟩ = some (.slice a3 n3 c3) ∧ w'.cell? ⟨o, 11, none⟩ = some (.slice b3 m3 d3) ∧ w'.cell? ⟨o, 12, none⟩ = some (.bool s4) ∧ w'.cell? ⟨o, 13, none⟩ = some (.slice a4 n4 c4) ∧ w'.cell? ⟨o, 14, none⟩ = some (.slice b4 m4 d4) ∧ w'.cell? ⟨o, 15, none⟩ = some (.bool s5) ∧ w'.cell? ⟨o, 16, none⟩ = some (.slice a5 n5 c5) ∧ w'.cell? ⟨o, 17, none⟩ = some (.slice b5 m5 d5)) (go_keep) ((go_at_call 36; refine (area22_at R0 R1 R2 R3 R4 R5 z0 z1 z2 z3 z4 z5 (by omega) (by first | exact Below.refl _ _ | exact below_drewN (Below.refl _ _) _)).mono ?_; rintro e wX ⟨s, a, n, c, b, m, d, rfl, hR, hz, hsX, hbX⟩; have u9 := u6.later hbX; obtain ⟨y00, y01, y02, y10, y11, y12, y20, y21, y22, y30, y31, y32, y40, y41, y42, y50, y51, y52⟩ := hcl wX hbX; obtain ⟨o0, o1, o2⟩ := u9.cells; obtain ⟨p0, p1, p2⟩ := u9.frozen))
  go_wp2
  have i9 := in3 wX g (.bool s) (.slice a n c) (.slice b m d)
  have T9 := (u9.set (.bool s) (.slice a n c) (.slice b m d)).cells
  refine bodyPost_ret (v := .tuple #[.agg #[.bool s, .slice a n c, .slice b m d], .int .i64 0]) (by simp [results, Tryz.results13, go_sem, T9]) rfl ?_
  refine ⟨s, a, n, c, b, m, d, rfl, (hR.inn i9 (by omega)).rt22, (by have := hR.rt22.le hz; omega), below_in (B2.trans (hbX.mono B2.size)) i9 hge (Nat.le_refl _)⟩
end Go.Proofs.YtbonkgmcpjaepabGreat

/- package pred: ahead of InCircle: what blocks without integers leave as it is; a spot's value; the contracts as the region asks them. -/
namespace Go.Proofs.YtbonkgmcpjaepabGreat
open Go.ChangeShapes Go.WideShapes Go.ChangeAt Go.RowKit
open Na Ar
set_option linter.unusedVariables false
/-- no cell of it is an integer -/
def NoInt (cs : Array Value) : Prop := ∀ (k : Nat) (i : IntKind) (x : Int), cs[k]? ≠ some (.int i x)
theorem noInt6 {s1 s2 : Bool} {a1 b1 a2 b2 : Option Addr} {n1 c1 m1 d1 n2 c2 m2 d2 : Nat} : NoInt #[.bool s1, .slice a1 n1 c1, .slice b1 m1 d1, .bool s2, .slice a2 n2 c2, .slice b2 m2 d2] := by
  intro k i x h
  rcases (show k = 0 ∨ k = 1 ∨ k = 2 ∨ k = 3 ∨ k = 4 ∨ k = 5 ∨ 6 ≤ k by omega) with rfl | rfl | rfl | rfl | rfl | rfl | hk
  · simp at h
  · simp at h
  · simp at h
  · simp at h
  · simp at h
  · simp at h
  · rw [Array.getElem?_eq_none (by simpa using hk)] at h; cases h
theorem noInt3 {s1 : Bool} {a1 b1 : Option Addr} {n1 c1 m1 d1 : Nat} : NoInt #[.bool s1, .slice a1 n1 c1, .slice b1 m1 d1] := by
  intro k i x h
  rcases (show k = 0 ∨ k = 1 ∨ k = 2 ∨ 3 ≤ k by omega) with rfl | rfl | rfl | hk
  · simp at h
  · simp at h
  · simp at h
  · rw [Array.getElem?_eq_none (by simpa using hk)] at h; cases h
theorem RowC.noInt {w w' : World} {a : Option Addr} {n c g : Nat} {xs : List Int} {t : TypeId} {cs : Array Value} (h : RowC w a n c xs) (hp : Pb w g t cs) (hn : NoInt cs) (hi : In g (g + 1) w w') : RowC w' a n c xs := by
  obtain ⟨⟨h1, h2⟩, h3⟩ := h
  refine ⟨⟨h1, ?_⟩, h3⟩
  rcases h2 with h2 | ⟨b, off, ha, hlt, hc⟩
  · exact Or.inl h2
  · by_cases h0 : n = 0
    · exact Or.inl h0
    · refine Or.inr ⟨b, off, ha, Nat.lt_of_lt_of_le hlt hi.size, fun i hin => ?_⟩
      have hne : b ≠ g := by
        intro e
        subst e
        have := hc i hin
        unfold Pb at hp
        simp [World.cell?, hp] at this
        exact hn _ _ _ this
      have e := hi.block b hlt (by omega)
      rw [← hc i hin]
      simp only [World.cell?, e]
theorem Rt.noInt {w w' : World} {s : Bool} {a b : Option Addr} {n c m d g : Nat} {q : Rat} {t : TypeId} {cs : Array Value} (h : Rt w s a n c b m d q) (hp : Pb w g t cs) (hn : NoInt cs) (hi : In g (g + 1) w w') : Rt w' s a n c b m d q :=
  ⟨h.sgn, h.nu.noInt hp hn hi, h.de.noInt hp hn hi⟩
/-- a value that is a spot -/
def SpV (w : World) (v : Value) (p q : Rat) (k : Nat) : Prop := ∃ s a n c b m d s' a' n' c' b' m' d', v = .agg #[.bool s, .slice a n c, .slice b m d, .bool s', .slice a' n' c', .slice b' m' d'] ∧ Rt w s a n c b m d p ∧ Rt w s' a' n' c' b' m' d' q ∧ Sz p k ∧ Sz q k
theorem SpV.later {w w' : World} {v : Value} {p q : Rat} {k : Nat} (h : SpV w v p q k) (hb : Below w.heap.size w w') : SpV w' v p q k := by
  obtain ⟨s, a, n, c, b, m, d, s', a', n', c', b', m', d', e, r1, r2, z1, z2⟩ := h
  exact ⟨s, a, n, c, b, m, d, s', a', n', c', b', m', d', e, r1.later hb, r2.later hb, z1, z2⟩
def zero6s : Array Value := #[.bool false, .slice none 0 0, .slice none 0 0, .bool false, .slice none 0 0, .slice none 0 0]
theorem from22_sp {w w0 : World} {s1 s2 s3 s4 : Bool} {a1 b1 a2 b2 a3 b3 a4 b4 : Option Addr} {n1 c1 m1 d1 n2 c2 m2 d2 n3 c3 m3 d3 n4 c4 m4 d4 : Nat} {p q r t : Rat} {k : Nat} (h1 : Rt w0 s1 a1 n1 c1 b1 m1 d1 p) (h2 : Rt w0 s2 a2 n2 c2 b2 m2 d2 q) (h3 : Rt w0 s3 a3 n3 c3 b3 m3 d3 r) (h4 : Rt w0 s4 a4 n4 c4 b4 m4 d4 t) (z1 : Sz p k) (z2 : Sz q k) (z3 : Sz r k) (z4 : Sz t k) (hk : k + k + 1 ≤ 4096) : ∀ w, Below w0.heap.size w0 w →
    Calls Tryz.prog 40 #[.agg #[.bool s1, .slice a1 n1 c1, .slice b1 m1 d1, .bool s2, .slice a2 n2 c2, .slice b2 m2 d2], .agg #[.bool s3, .slice a3 n3 c3, .slice b3 m3 d3, .bool s4, .slice a4 n4 c4, .slice b4 m4 d4]] w fun e w' => ∃ v, e = .returned v ∧ SpV w' v (r - p) (t - q) (k + k + 1) ∧ Below w.heap.size w w' ∧ Below w0.heap.size w0 w' := by
  intro w h
  refine (from22_at h1 h2 h3 h4 z1 z2 z3 z4 hk h).mono ?_
  rintro e w' ⟨s, a, n, c, b, m, d, s', a', n', c', b', m', d', rfl, hR, hR', hz, hz', hb, hb0⟩
  exact ⟨_, rfl, ⟨s, a, n, c, b, m, d, s', a', n', c', b', m', d', rfl, hR.rt22, hR'.rt22, hz, hz'⟩, hb, hb0⟩
end Go.Proofs.YtbonkgmcpjaepabGreat


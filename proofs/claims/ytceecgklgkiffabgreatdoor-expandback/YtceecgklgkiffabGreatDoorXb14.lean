import Derived.Below
import Derived.BigQuiet
import Derived.ChangeOld
import Derived.Deep.DeepCutAuto
import Derived.Deep.DeepFit
import Derived.Deep.LoopGhost
import Derived.Deep.QuietTactic
import Derived.Deep.RegionHeld3
import Derived.Deep.RegionWith
import Derived.Defers
import Derived.KernelRfl
import Derived.Laws.BitsAllLaws
import Derived.Laws.CopyRow
import Derived.Laws.EntriesVeiled
import Derived.Laws.IdiomCopy
import Derived.Laws.IdiomRangeMap
import Derived.OpenShut
import Derived.Orders
import Derived.OwnWalk
import Derived.ProofKit
import Derived.Recover
import Derived.Scope
import Derived.ShutString
import Derived.WalkKit
import Derived.WalkLawsBesides
import Derived.WalkMore
import Derived.WalkSpells
import Derived.Test.YtceecgklgkiffabGreatDoorXb8
import Derived.Test.YtceecgklgkiffabGreatDoorXb9
import Derived.Test.YtceecgklgkiffabGreatDoorXb13
/- plumblaw07: exact. -/
namespace Go.Proofs.YtceecgklgkiffabGreatDoor
open Go.ChangeShapes Go.WideShapes Go.ChangeAt Go.RowKit
open Na Ar
set_option linter.unusedVariables false
theorem GrVar.inn {w w' : World} {g : Nat} (h : GrVar w) (hi : In g (g + 1) w w') (hne : ¬ 3 = g) : GrVar w' := by
  have hl := h.lt
  have hbk := hi.block 3 hl (by omega)
  have hc : ∀ i, w'.cell? ⟨3, i, none⟩ = w.cell? ⟨3, i, none⟩ := fun i => by unfold World.cell?; simp only [hbk]
  unfold GrVar at *
  simp only [hc]
  exact h
end Go.Proofs.YtceecgklgkiffabGreatDoor

/- plumblaw07: size, value, above. -/
namespace Go.Proofs.YtceecgklgkiffabGreatDoor
open Go.ChangeShapes Go.WideShapes Go.ChangeAt Go.RowKit
open Na Ar
set_option linter.unusedVariables false
theorem mkR_abs {s : Bool} {A B : Int} (hA : 0 ≤ A) (hB : 0 < B) : ((mkR s A B).num.natAbs = (mkR false A B).num.natAbs) ∧ (mkR s A B).den = (mkR false A B).den ∧ ¬ (mkR false A B).num < 0 := by
  have h0 : ¬ (mkR false A B).num < 0 := by
    intro h
    have := mkR_cross false hA hB
    have p : 0 ≤ sg false A * ((mkR false A B).den : Int) := Int.mul_nonneg (by unfold sg; simp; omega) (by omega)
    have : (mkR false A B).num * B < 0 := Int.mul_neg_of_neg_of_pos h hB
    omega
  cases s
  · exact ⟨rfl, rfl, h0⟩
  · have e : mkR true A B = -(mkR false A B) := by
      unfold mkR sg
      simp [Rat.neg_mkRat]
    rw [e]
    exact ⟨by rw [Rat.neg_num]; omega, by rw [Rat.neg_den], h0⟩
section
variable {w : World} {s1 : Bool} {a1 b1 : Option Addr} {n1 c1 m1 d1 : Nat} {k : Nat}
/-- a pattern's number -/
def valR (b : Int) : Rat := mkR (spS b) (spM b * e2 (spX b)) (e2 (-(spX b)))
theorem valR_num {b : Int} (h : U b) (hf : ef b ≠ 2047) : valR b = mkR (spS b) (numW b) (e2 1074) := by
  obtain ⟨p, e1, e2', e3, e4, e5, e6, e7⟩ := num_parts h hf
  unfold valR
  have hx : -1074 ≤ spX b := by omega
  rw [mk_eq (Int.mul_nonneg e3 (Int.le_of_lt (e2_pos _))) (e2_pos _) (by rw [e7]; exact Int.mul_nonneg e3 (Int.le_of_lt (p2pos _))) (e2_pos _)]
  have key : spM b * e2 (spX b) * e2 1074 = numW b * e2 (-(spX b)) := by
    rw [e7, ← e2_nat p, ← e1]
    by_cases hx0 : 0 ≤ spX b
    · rw [e2_zero (k := -(spX b)) (by omega), Int.mul_one, Int.mul_assoc, ← e2_add hx0 (by omega)]
    · rw [e2_zero (k := spX b) (by omega), Int.mul_one, Int.mul_assoc, ← e2_add (by omega) (by omega)]
      congr 2; omega
  have sgm : ∀ s x y, sg s x * y = sg s (x * y) := fun s x y => by unfold sg; split <;> simp [Int.neg_mul]
  rw [sgm, sgm, key]
theorem value_size {b : Int} (h : U b) (hf : ef b ≠ 2047) : Sz (valR b) 20 := by
  obtain ⟨p, e1, e2', e3, e4, e5, e6, e7⟩ := num_parts h hf
  unfold valR
  have l1 : Lt (spM b * e2 (spX b)) 20 := ((Lt.word (x := spM b) ⟨e3, by omega⟩).pow2 (t := (spX b).toNat)).mono (by omega)
  have l2 : Lt (e2 (-(spX b))) 20 := by
    have := (Lt.word (x := 1) (by omega)).pow2 (t := (-(spX b)).toNat)
    rw [Int.one_mul] at this
    exact this.mono (by omega)
  exact Sz.mkR l1 l2 (e2_pos _)
theorem spS_low {b : Int} (h0 : 0 ≤ b) (h1 : b ≤ mostP) : spS b = false := by
  unfold mostP at h1
  unfold spS
  split
  · rfl
  · exact decide_eq_false (by omega)
/-- the number of a pattern without a sign -/
theorem valR_low {b : Int} (h0 : 0 ≤ b) (h1 : b ≤ mostP) : valR b = mkR false (numW b) (e2 1074) := by
  obtain ⟨u, f, _⟩ := size_fin h0 h1
  rw [valR_num u f, spS_low h0 h1]
end
end Go.Proofs.YtceecgklgkiffabGreatDoor

/- package near: withoutTwos, binary, Value. -/
namespace Go.Proofs.YtceecgklgkiffabGreatDoor
open Go.ChangeShapes Go.WideShapes Go.ChangeAt Go.RowKit
open Na Ar
set_option linter.unusedVariables false
namespace Na
theorem two_form {M : Int} (h : 0 < M) : ∃ (k : Nat) (o : Int), M = o * 2 ^ k ∧ o % 2 = 1 ∧ 0 < o ∧ zerosN M = k ∧ M / 2 ^ k = o := by
  obtain ⟨k, m, hk⟩ := odd_part M.toNat (by omega)
  have e : M = (2 * (m : Int) + 1) * 2 ^ k := by
    have a : M = ((2 ^ (k + 1) * m + 2 ^ k : Nat) : Int) := by omega
    rw [a, Int.natCast_add, Int.natCast_mul, p2cast, p2cast, Int.pow_succ]
    generalize (2 : Int) ^ k = P
    grind
  have p := p2pos k
  refine ⟨k, 2 * (m : Int) + 1, e, by omega, by omega, ?_, ?_⟩
  · unfold zerosN
    rw [hk, show 2 ^ (k + 1) * m + 2 ^ k = 2 ^ k * (2 * m + 1) by rw [Nat.pow_succ]; grind, ctz_pow]
  · rw [e]; exact Int.mul_ediv_cancel _ (by omega)
theorem odd_gcd {o : Int} (h : o % 2 = 1) (h0 : 0 < o) (x : Int) : Int.gcd (o * e2 x) (e2 (-x)) = 1 := by
  by_cases hx : 0 ≤ x
  · rw [e2_zero (show -x ≤ 0 by omega)]
    exact Int.gcd_one_right _
  · rw [e2_zero (show x ≤ 0 by omega), Int.mul_one]
    unfold e2
    obtain ⟨n, rfl⟩ : ∃ n : Nat, o = (n : Int) := ⟨o.toNat, by omega⟩
    have c : Nat.Coprime n (2 ^ (-x).toNat) := Nat.Coprime.pow_right _ (by
      rw [Nat.Coprime, Nat.gcd_comm, Nat.gcd_rec, show n % 2 = 1 by omega]; rfl)
    rw [← p2cast]
    exact c
/-- m times two to the x -/
def binQ (s : Bool) (m x : Int) : Rat := mkR s (m * e2 x) (e2 (-x))
theorem binQ_odd {o : Int} (h : o % 2 = 1) (h0 : 0 < o) (s : Bool) (x : Int) : ((binQ s o x).num.natAbs : Int) = o * e2 x ∧ ((binQ s o x).den : Int) = e2 (-x) ∧ decide ((binQ s o x).num < 0) = s := by
  have p1 := e2_pos x
  have p2 := e2_pos (-x)
  have pA : 0 < o * e2 x := Int.mul_pos h0 p1
  have g := odd_gcd h h0 x
  unfold binQ
  refine ⟨?_, ?_, ?_⟩
  · rw [rat_abs (by omega) p2, g]; simp
  · rw [rat_den (by omega) p2, g]; simp
  · rw [rat_neg (by omega) p2, g]
    simp
    intro _
    omega
theorem e2_step (X : Int) (k : Nat) : 2 ^ k * e2 X * e2 (-(X + k)) = e2 (X + k) * e2 (-X) := by
  rw [← e2_nat]
  by_cases h0 : 0 ≤ X
  · rw [e2_zero (show -(X + k) ≤ 0 by omega), e2_zero (show -X ≤ 0 by omega), e2_add h0 (by omega)]
    generalize e2 X = a
    generalize e2 (k : Int) = b
    grind
  · by_cases h1 : 0 ≤ X + k
    · rw [e2_zero (show X ≤ 0 by omega), e2_zero (show -(X + k) ≤ 0 by omega), show (k : Int) = (X + k) + (-X) by omega, e2_add (by omega) (by omega)]
      rw [show X + (X + ↑k + -X) = X + k by omega]
      generalize e2 (X + k) = a
      generalize e2 (-X) = b
      grind
    · rw [e2_zero (show X ≤ 0 by omega), e2_zero (show X + k ≤ 0 by omega), show -X = (k : Int) + -(X + k) by omega, e2_add (by omega) (by omega)]
      generalize e2 (k : Int) = a
      generalize e2 (-(X + k)) = b
      grind
theorem binQ_move (s : Bool) {o : Int} (h0 : 0 ≤ o) (k : Nat) (x : Int) : binQ s (o * 2 ^ k) x = binQ s o (x + k) := by
  unfold binQ
  have p1 := e2_pos x
  have p2 := e2_pos (-x)
  have p3 := e2_pos (x + k)
  have p4 := e2_pos (-(x + k))
  have p := p2pos k
  rw [mk_eq (Int.mul_nonneg (Int.mul_nonneg h0 (by omega)) (by omega)) p2 (Int.mul_nonneg h0 (by omega)) p4]
  have e := e2_step x k
  have q : o * 2 ^ k * e2 x * e2 (-(x + k)) = o * e2 (x + k) * e2 (-x) := by
    rw [Int.mul_assoc, Int.mul_assoc, ← Int.mul_assoc (2 ^ k), e, Int.mul_assoc]
  unfold sg
  cases s
  · exact q
  · simp only [if_true]
    rw [Int.neg_mul, Int.neg_mul, q]
theorem binQ_zero (s : Bool) (x : Int) : binQ s 0 x = ((0 : Int) : Rat) := by
  unfold binQ mkR sg
  rw [Int.zero_mul]
  cases s <;> simp
theorem binQ_val (b : Int) : valR b = binQ (spS b) (spM b) (spX b) := rfl
end Na
section
variable {w : World} {a b : Option Addr} {n m c1 c2 : Nat} {xs ys : List Int} {A : Int} {k : Nat}
theorem shlO (hr1 : RowC w a n c1 xs) (h1 : Nm xs A) {t : Nat} {T : Int} (hT : T = t) (ht : t ≤ 400000000) (hL : Lt (A * 2 ^ t) k) (hk : k ≤ 4096) :
    Calls Tryz.prog 65 #[.slice a n c1, .int .i64 T] w fun e w' => ∃ v, e = .returned (.tuple #[v, .int .i64 0]) ∧ Own .u64 w' w.heap.size 22 v (words (A * 2 ^ t)) ∧ Below w.heap.size w w' := by
  subst hT
  have l1 := hr1.1.1
  have h := natShl_any hr1 h1.ws (by have := h1.len; omega) (t : Int) (by omega)
  have e1 : shlE A (t : Int) = 0 := by unfold shlE; rw [if_neg (by omega)]; simp; exact (hL.fits hk).2
  have e2 : shlL A (t : Int) = words (A * 2 ^ t) := by unfold shlL; rw [if_neg (by omega)]; simp; exact (hL.fits hk).1
  rw [h1.num, e1, e2] at h
  exact h
theorem twos_any {K : Nat} {o : Int} (hr1 : RowC w a n c1 xs) (h1 : Nm xs A) (hL : Lt A k) (hk : k ≤ 4096) (hz : zerosN A = K) (hK : K ≤ 400000000) (ho : A / 2 ^ K = o) :
    Calls Tryz.prog 73 #[.slice a n c1] w fun e w' => ∃ a' n' c' l', e = .returned (.tuple #[.slice a' n' c', .int .i64 (K : Int)]) ∧ RowC w' a' n' c' l' ∧ Nm l' o ∧ Below w.heap.size w w' := by
  have hZ := natZeros_any hr1 h1.ws (by have := h1.len; have := hr1.1.1; omega)
  rw [h1.num, hz] at hZ
  have hS := fun w' (hb : Below w.heap.size w w') => shrQ (S := decide (A % 2 ^ K ≠ 0)) (hr1.later hb) h1 K hK hL hk rfl
  rw [ho] at hS
  generalize decide (A % 2 ^ K ≠ 0) = S at hS
  clear hz ho
  go_enter Tryz.func73, Tryz.ntmps73
  go_wp2_with fail
  refine hZ.mono ?_
  rintro e w1 ⟨rfl, hb1⟩
  go_wp2_with fail
  refine (hS _ hb1).mono ?_
  rintro e w2 ⟨a', n', c', l', rfl, r, nm, _, hb⟩
  have hB := hb1.trans (hb.mono hb1.size)
  clear hZ hS
  go_wp2
  go_ret2
  exact ⟨a', n', c', l', rfl, r, nm, hB⟩
end
theorem bin_rto {w : World} {base : Nat} {v1 v2 : Value} {neg : Bool} {o x : Int} {t1 t2 : Nat} (h : o % 2 = 1) (h0 : 0 < o) (e1 : e2 x = 2 ^ t1) (e3 : e2 (-x) = 2 ^ t2) (o1 : Own .u64 w base 22 v1 (words (o * 2 ^ t1))) (o2 : Own .u64 w base 22 v2 (words (1 * 2 ^ t2))) (ap : Apart v1 v2) :
    RtO w base neg v1 v2 (binQ neg o x) := by
  obtain ⟨a1, a2, a3⟩ := binQ_odd h h0 neg x
  refine ⟨a3.symm, ?_, ?_, ap⟩
  · rw [a1, e1]; exact o1
  · rw [a2, e3, ← Int.one_mul (2 ^ t2)]; exact o2
set_option maxHeartbeats 3200000 in
set_option maxRecDepth 100000 in
theorem binary_any {neg : Bool} {m x : Int} (hm : U m) (hx0 : -1100 ≤ x) (hx1 : x ≤ 1100) (w : World) :
    Calls Tryz.prog 34 #[.bool neg, .int .u64 m, .int .i64 x] w fun e w' => ∃ s v1 v2, e = .returned (.agg #[.bool s, v1, v2]) ∧ RtO w' w.heap.size s v1 v2 (binQ neg m x) ∧ Below w.heap.size w w' := by
  have t0 := st_new w (.bool false) (.slice none 0 0) (.slice none 0 0) 36
  have HB0 := alloc_below (w := w) (.cells #[.bool false, .slice none 0 0, .slice none 0 0] 36)
  have e0 : w.heap.size + 1 ≤ (w.alloc (.cells #[.bool false, .slice none 0 0, .slice none 0 0] 36)).heap.size := by simp
  obtain ⟨g, hg⟩ : ∃ g, g = w.heap.size := ⟨_, rfl⟩
  have HG : Hid (w.heap.size = g) := hg.symm
  rw [← hg] at t0 e0
  by_cases hz : m = 0
  · have d1 : (m == 0) = true := beq_of hz
    have HQ : Hid (binQ neg m x = ((0 : Int) : Rat)) := by show _ = _; rw [hz, binQ_zero]
    have hI := fun w => rInt_any (v := 0) (by omega) (by omega) w
    clear hz
    go_enter Tryz.func34, Tryz.ntmps34
    go_wp2_with fail
    rw [← hg]
    generalize w.alloc (.cells #[.bool false, .slice none 0 0, .slice none 0 0] 36) = w0 at *
    clear hg
    refine (hI _).mono ?_
    rintro e w1 ⟨s9, v1, v2, rfl, hR, hb1⟩
    obtain ⟨a9, n9, c9, b9, m9, d9, rfl, rfl, _⟩ := hR.opens
    have t1 := t0.later hb1
    have HB1 := HB0.trans (hb1.mono HB0.size)
    obtain ⟨x0, x1, x2⟩ := t1.cells
    obtain ⟨z0, z1, z2⟩ := t1.frozen
    clear hI t0 HB0
    go_wp2
    have i9 := in3 w1 g (.bool s9) (.slice a9 n9 c9) (.slice b9 m9 d9)
    have T9 := t1.set (.bool s9) (.slice a9 n9 c9) (.slice b9 m9 d9)
    have R9 := ((hR.lower (base' := g + 1) (by omega)).inn i9 (by omega)).lower (base' := w.heap.size) (by rw [HG.out]; omega)
    have B9 := below_in HB1 i9 (by rw [HG.out]; omega) (Nat.le_refl _)
    obtain ⟨j0, j1, j2⟩ := T9.cells
    refine bodyPost_ret (v := .agg #[.bool s9, .slice a9 n9 c9, .slice b9 m9 d9]) (by simp [results, Tryz.results34, go_sem, j0, j1, j2]) rfl ?_
    exact ⟨_, _, _, rfl, by rw [HQ.out]; exact R9, B9⟩
  · have d1 : (m == 0) = false := beq_no hz
    obtain ⟨K, o, hmo, ho2, ho0, hzn, hdv⟩ := two_form (M := m) (by have := hm.1; omega)
    have hK : K ≤ 63 := by
      apply Decidable.byContradiction
      intro q
      have a : (2 : Int) ^ 64 ≤ 2 ^ K := p2mono (by omega)
      have b : 1 * 2 ^ K ≤ o * 2 ^ K := Int.mul_le_mul_of_nonneg_right (by omega) (Int.le_of_lt (p2pos K))
      have c := hm.2
      rw [show (2 : Int) ^ 64 = 18446744073709551616 by decide] at a
      omega
    have hol : o ≤ m := by
      have b : o * 1 ≤ o * 2 ^ K := Int.mul_le_mul_of_nonneg_left (by have := p2pos K; omega) (by omega)
      omega
    have HQ : Hid (binQ neg m x = binQ neg o (x + K)) := by show _ = _; rw [hmo]; exact binQ_move neg (by omega) K x
    obtain ⟨t1, T1, mx1, H1, E1, l1⟩ : ∃ (t1 : Nat) (T1 : Int), (if x + (K : Int) < 0 then 0 else x + (K : Int)) = T1 ∧ Hid (T1 = (t1 : Int)) ∧ e2 (x + K) = 2 ^ t1 ∧ t1 ≤ 1200 :=
      ⟨(x + K).toNat, _, rfl, (by show _ = _; split <;> omega), rfl, by omega⟩
    obtain ⟨t2, T2, mx2, H2, E2, l2⟩ : ∃ (t2 : Nat) (T2 : Int), (if -(x + (K : Int)) < 0 then 0 else -(x + (K : Int))) = T2 ∧ Hid (T2 = (t2 : Int)) ∧ e2 (-(x + K)) = 2 ^ t2 ∧ t2 ≤ 1200 :=
      ⟨(-(x + K)).toNat, _, rfl, (by show _ = _; split <;> omega), rfl, by omega⟩
    have mx3 : (if 0 < x + (K : Int) then 0 else -(x + (K : Int))) = T2 := by rw [← mx2]; split <;> split <;> omega
    have HE1 : Hid (e2 (x + K) = 2 ^ t1) := E1
    have HE2 : Hid (e2 (-(x + K)) = 2 ^ t2) := E2
    have lm := Lt.word hm
    have lo : Lt o 1 := lm.le (by omega) hol
    have l3 : Lt (o * 2 ^ t1) 30 := (lo.pow2 (t := t1)).mono (by omega)
    have l4 : Lt (1 * 2 ^ t2) 30 := (lt_one.pow2 (t := t2)).mono (by omega)
    have HZ : Hid (zerosN m = (K : Int)) := hzn
    have HD : Hid (m / 2 ^ K = o) := hdv
    have f1 := fun w => natFrom_any (v := m) hm w
    have f2 := fun w => natFrom_any (v := 1) (by omega) w
    clear hmo hzn hdv E1 E2 hz hol
    go_enter Tryz.func34, Tryz.ntmps34
    go_wp2_with fail
    rw [← hg]
    generalize w.alloc (.cells #[.bool false, .slice none 0 0, .slice none 0 0] 36) = w0 at *
    clear hg
    refine (f1 _).mono ?_
    rintro e w1 ⟨v, rfl, ov, hb⟩
    have s1 := t0.later hb
    have HB := HB0.trans (hb.mono HB0.size)
    obtain ⟨va, vn, vc, vl, rfl, rv, nv, _⟩ := ov.opens lm (by omega)
    clear ov hb t0 HB0 f1
    go_wp2_with fail
    refine (twos_any rv nv lm (by omega) HZ.out (by omega) HD.out).mono ?_
    rintro e w2 ⟨ua, un, uc, us, rfl, ru, nu, hb⟩
    have s1 := s1.later hb
    have HB := HB.trans (hb.mono HB.size)
    clear hb rv nv
    go_wp2_with fail
    refine (shlO ru nu H1.out (by omega) l3 (by omega)).mono ?_
    rintro e w3 ⟨v1, rfl, o1, hb⟩
    have sz := s1.lt
    have s1 := s1.later hb
    have HB := HB.trans (hb.mono HB.size)
    have sz2 := hb.size
    obtain ⟨pa, pc, rfl, rp⟩ := o1.readsC
    have o1 := o1.wider (base' := g + 1) (by omega)
    clear hb ru nu
    go_wp2_with fail
    refine (f2 _).mono ?_
    rintro e w4 ⟨v, rfl, ov, hb⟩
    have s1 := s1.later hb
    have HB := HB.trans (hb.mono HB.size)
    have o1' := o1
    have o1 := o1.later hb
    obtain ⟨va, vn, vc, vl, rfl, rv, nv, _⟩ := ov.opens lt_one (by omega)
    have sz3 := hb.size
    clear ov hb f2
    go_wp2_with fail
    refine (shlO rv nv H2.out (by omega) l4 (by omega)).mono ?_
    rintro e w5 ⟨v2, rfl, o2, hb⟩
    have s1 := s1.later hb
    have HB := HB.trans (hb.mono HB.size)
    have o1 := o1.later hb
    have ap := apart_later o1' o2 sz3
    obtain ⟨qa, qc, rfl, rq⟩ := o2.readsC
    have o2 := o2.wider (base' := g + 1) (by omega)
    have R := bin_rto (neg := neg) ho2 ho0 HE1.out HE2.out o1 o2 ap
    obtain ⟨x0, x1, x2⟩ := s1.cells
    obtain ⟨z0, z1, z2⟩ := s1.frozen
    clear hb rv nv o1 o2 o1' ap rp rq
    generalize (words (o * 2 ^ t1)).length = n9 at *
    generalize (words (1 * 2 ^ t2)).length = m9 at *
    go_wp2
    have i9 := in3 w5 g (.bool neg) (.slice pa n9 pc) (.slice qa m9 qc)
    have T9 := s1.set (.bool neg) (.slice pa n9 pc) (.slice qa m9 qc)
    have R9 := (R.inn i9 (by omega)).lower (base' := w.heap.size) (by rw [HG.out]; omega)
    have B9 := below_in HB i9 (by rw [HG.out]; omega) (Nat.le_refl _)
    obtain ⟨j0, j1, j2⟩ := T9.cells
    refine bodyPost_ret (v := .agg #[.bool neg, .slice pa n9 pc, .slice qa m9 qc]) (by simp [results, Tryz.results34, go_sem, j0, j1, j2]) rfl ?_
    exact ⟨_, _, _, rfl, by rw [HQ.out]; exact R9, B9⟩
end Go.Proofs.YtceecgklgkiffabGreatDoor

/- package near: Value; what no number is; the statements' value of such a pattern; a pattern's own number, rounded. -/
namespace Go.Proofs.YtceecgklgkiffabGreatDoor
open Go.ChangeShapes Go.WideShapes Go.ChangeAt Go.RowKit
open Na Ar
set_option linter.unusedVariables false
set_option maxHeartbeats 3200000 in
set_option maxRecDepth 100000 in
theorem nearValue_fin {b : Int} (hu : U b) (hf : ef b ≠ 2047) (w : World) :
    Calls Tryz.prog 11 #[.int .u64 b] w fun e w' => ∃ s v1 v2, e = .returned (.tuple #[.agg #[.bool s, v1, v2], .int .i64 0]) ∧ RtO w' w.heap.size s v1 v2 (valR b) ∧ Below w.heap.size w w' := by
  obtain ⟨p, e1, e2', e3, e4, e5, e6, e7⟩ := num_parts hu hf
  have hE : fiE b = 0 := by unfold fiE; rw [if_neg hf]
  have hSp := fun w => f6Split_any hu w
  rw [hE] at hSp
  have hBn := fun w => binary_any (neg := spS b) (m := spM b) (x := spX b) ⟨e3, by omega⟩ (by omega) (by omega) w
  rw [← binQ_val] at hBn
  have t0 := st_new w (.bool false) (.slice none 0 0) (.slice none 0 0) 36
  have HB0 := alloc_below (w := w) (.cells #[.bool false, .slice none 0 0, .slice none 0 0] 36)
  have e0 : w.heap.size + 1 ≤ (w.alloc (.cells #[.bool false, .slice none 0 0, .slice none 0 0] 36)).heap.size := by simp
  obtain ⟨g, hg⟩ : ∃ g, g = w.heap.size := ⟨_, rfl⟩
  have HG : Hid (w.heap.size = g) := hg.symm
  rw [← hg] at t0 e0
  generalize valR b = V at *
  generalize spS b = sS at *
  generalize spM b = sM at *
  generalize spX b = sX at *
  clear hE e1 e2' e3 e4 e5 e6 e7 hf
  go_enter Tryz.func11, Tryz.ntmps11
  go_wp2_with fail
  rw [← hg]
  generalize w.alloc (.cells #[.bool false, .slice none 0 0, .slice none 0 0] 36) = w0 at *
  clear hg
  refine (hSp _).mono ?_
  rintro e w1 ⟨rfl, rfl⟩
  go_wp2_with fail
  refine (hBn _).mono ?_
  rintro e w1 ⟨s9, v1, v2, rfl, hR, hb1⟩
  obtain ⟨a9, n9, c9, b9, m9, d9, rfl, rfl, _⟩ := hR.opens
  have t1 := t0.later hb1
  have HB1 := HB0.trans (hb1.mono HB0.size)
  obtain ⟨x0, x1, x2⟩ := t1.cells
  obtain ⟨z0, z1, z2⟩ := t1.frozen
  clear hSp hBn t0 HB0
  go_wp2
  have i9 := in3 w1 g (.bool s9) (.slice a9 n9 c9) (.slice b9 m9 d9)
  have T9 := t1.set (.bool s9) (.slice a9 n9 c9) (.slice b9 m9 d9)
  have R9 := ((hR.lower (base' := g + 1) (by omega)).inn i9 (by omega)).lower (base' := w.heap.size) (by rw [HG.out]; omega)
  have B9 := below_in HB1 i9 (by rw [HG.out]; omega) (Nat.le_refl _)
  obtain ⟨j0, j1, j2⟩ := T9.cells
  refine bodyPost_ret (v := .tuple #[.agg #[.bool s9, .slice a9 n9 c9, .slice b9 m9 d9], .int .i64 0]) (by simp [results, Tryz.results11, go_sem, j0, j1, j2]) rfl ?_
  exact ⟨_, _, _, rfl, R9, B9⟩
namespace Na
end Na
section
variable {w : World} {s : Bool} {a b' : Option Addr} {n c m d : Nat}
end
end Go.Proofs.YtceecgklgkiffabGreatDoor

/- package near: Rat. -/
namespace Go.Proofs.YtceecgklgkiffabGreatDoor
open Go.ChangeShapes Go.WideShapes Go.ChangeAt Go.RowKit
open Na Ar
set_option linter.unusedVariables false
section
variable {w : World} {s : Bool} {a b : Option Addr} {n c m d : Nat} {q : Rat} {k : Nat}
set_option maxHeartbeats 3200000 in
set_option maxRecDepth 100000 in
theorem nearRat_ok {mode : Int} (h : Rt w s a n c b m d q) (z : Sz q k) (hk : k ≤ 4096) (h0 : 0 ≤ mode) (h1 : mode ≤ 4) (hG : GrVar w) :
    Calls Tryz.prog 47 #[.agg #[.bool s, .slice a n c, .slice b m d], .int .i64 mode] w fun e w' => ∃ v E, e = .returned (.tuple #[.int .u64 v, .int .i64 E]) ∧ RoundIs (scA (q.num.natAbs : Int) 0) (scB (q.den : Int) 0) false s mode v E ∧ U v ∧ Below w.heap.size w w' := by
  have t0 := st_new w (.bool s) (.slice a n c) (.slice b m d) 36
  have hb0 := alloc_below (w := w) (.cells #[.bool s, .slice a n c, .slice b m d] 36)
  obtain ⟨w0, hw0⟩ : ∃ w0, w0 = w.alloc (.cells #[.bool s, .slice a n c, .slice b m d] 36) := ⟨_, rfl⟩
  rw [← hw0] at t0 hb0
  have h' := h.later hb0
  have G0 := hG.later hb0
  have hk1 := known_yes h0 h1 w0
  have hC := check_ok h' z hk
  have ln := h'.le z
  have lm := h'.leD z
  have pD : (0 : Int) < (q.den : Int) := by have := q.den_pos; omega
  have vN := num_words (N := (q.num.natAbs : Int)) (by omega)
  have vD := num_words (N := (q.den : Int)) (by omega)
  clear h hG
  obtain ⟨g, hg⟩ : ∃ g, g = w.heap.size := ⟨_, rfl⟩
  have HB0 : Below w.heap.size w w0 := hb0
  rw [← hg] at t0
  obtain ⟨x0, x1, x2⟩ := t0.cells
  go_enter Tryz.func47, Tryz.ntmps47
  go_wp2_with fail
  rw [← hw0, ← hg]
  clear hw0 hg
  refine hk1.mono ?_
  rintro e w1 ⟨rfl, rfl⟩
  clear hk1
  go_wp2_with fail
  refine hC.mono ?_
  rintro e w1 ⟨rfl, hb1⟩
  have t1 := t0.later hb1
  have h2 := h'.later hb1
  have HB1 := HB0.trans (hb1.mono HB0.size)
  have hQ := quotient_any (mode := mode) (neg := s) h2.nu h2.de (Dg_words _) (Dg_words _) (by omega) (by omega) h0 h1 (by rw [vD]; exact pD) (G0.later hb1)
  rw [vN, vD] at hQ
  clear hC x0 x1 x2 t0 h'
  obtain ⟨x0, x1, x2⟩ := t1.cells
  go_wp2_with fail
  refine hQ.mono ?_
  rintro e w2 ⟨v, E, rfl, hr, hu, hb2⟩
  have hb9 := HB1.trans (hb2.mono HB1.size)
  clear hQ x0 x1 x2
  go_wp2
  go_ret2
  exact ⟨_, _, rfl, hr, hu, hb9⟩
end
end Go.Proofs.YtceecgklgkiffabGreatDoor

/- NearBack. -/
namespace Go.Proofs.YtceecgklgkiffabGreatDoor
open Go.ChangeShapes Go.WideShapes Go.ChangeAt Go.RowKit
open Na Ar
set_option linter.unusedVariables false
namespace Na
theorem fin_size {b : Int} (h : U b) (hf : ef b ≠ 2047) : 0 ≤ mg b ∧ mg b ≤ mostP ∧ numW (mg b) = numW b := by
  have b1 := mg_bd b
  have b2 := mg_parts b
  have b3 := ef_bd b
  have b4 := fr_bd b
  have l : mg b ≤ mostP := by unfold mostP; omega
  obtain ⟨u1, f1, m1⟩ := size_fin b1.1 l
  exact ⟨b1.1, l, (num_ord u1 h f1 hf).2 m1⟩
end Na
end Go.Proofs.YtceecgklgkiffabGreatDoor

/- package near: Mid. -/
namespace Go.Proofs.YtceecgklgkiffabGreatDoor
open Go.ChangeShapes Go.WideShapes Go.ChangeAt Go.RowKit
open Na Ar
set_option linter.unusedVariables false
namespace Na
/-- the one of the two that is nearer to 0; the middle -/
def innB (b : Int) : Int := if 9223372036854775808 < b then b - 1 else b
def midR (b : Int) : Rat := binQ (decide (9223372036854775808 < b)) (2 * spM (innB b) + 1) (spX (innB b) - 1)
theorem inn_fin {b : Int} (h : U b) (hf : ef b ≠ 2047) : U (innB b) ∧ ef (innB b) ≠ 2047 := by
  unfold U at *
  unfold innB
  unfold ef at *
  split <;> omega
theorem mid_cmp {b : Int} (h : U b) (hf : ef b ≠ 2047) : (decide (cmW b 0 < 0) = decide (9223372036854775808 < b)) ∧ cmE b 0 = 0 ∧ (-1 ≤ cmW b 0 ∧ cmW b 0 ≤ 1) := by
  have e0 : ef 0 ≠ 2047 := by decide
  unfold cmW cmE
  rw [if_neg hf, if_neg e0, if_neg hf, if_neg e0]
  unfold U at h
  have r0 : rk0 0 = 0 := rfl
  rw [r0]
  refine ⟨?_, rfl, ?_⟩
  · rw [Bool.eq_iff_iff]
    simp only [decide_eq_true_eq]
    unfold ord rk0
    split <;> split <;> (try split) <;> omega
  · unfold ord
    split <;> (try split) <;> omega
theorem nxt_ok {b : Int} (hf : ef b ≠ 2047) (hm : b ≠ mostP) : nxE b = 0 := by
  unfold nxE
  unfold mostP at hm
  rw [if_neg hf, if_neg hm]
theorem nxt_inn {b : Int} (hf : ef b ≠ 2047) (hb : 9223372036854775808 < b) : nxW b = innB b := by
  unfold nxW innB
  rw [if_neg hf, if_neg (by omega), if_neg (by omega), if_neg (by omega), if_pos hb]
end Na
set_option maxHeartbeats 3200000 in
set_option maxRecDepth 100000 in
theorem nearMid_fin {b : Int} (hu : U b) (hf : ef b ≠ 2047) (hm : b ≠ mostP) (w : World) :
    Calls Tryz.prog 111 #[.int .u64 b] w fun e w' => ∃ s v1 v2, e = .returned (.tuple #[.agg #[.bool s, v1, v2], .int .i64 0]) ∧ RtO w' w.heap.size s v1 v2 (midR b) ∧ Below w.heap.size w w' := by
  obtain ⟨ui, fi⟩ := inn_fin hu hf
  obtain ⟨p, e1, e2', e3, e4, e5, e6, e7⟩ := num_parts ui fi
  have hE : fiE (innB b) = 0 := by unfold fiE; rw [if_neg fi]
  have hSp := fun w => f6Split_any ui w
  rw [hE] at hSp
  have hN := fun w => f6Next_any hu w
  rw [nxt_ok hf hm] at hN
  obtain ⟨k1, k2, k3⟩ := mid_cmp hu hf
  have hCm := fun w => f6Cmp_any hu (show U 0 by unfold U; omega) w
  rw [k2] at hCm
  have hBn := fun w => binary_any (neg := decide (9223372036854775808 < b)) (m := 2 * spM (innB b) + 1) (x := spX (innB b) - 1) ⟨by omega, by omega⟩ (by omega) (by omega) w
  have HQ : Hid (binQ (decide (9223372036854775808 < b)) (2 * spM (innB b) + 1) (spX (innB b) - 1) = midR b) := rfl
  rw [HQ.out] at hBn
  have t0 := st_new w (.bool false) (.slice none 0 0) (.slice none 0 0) 36
  have HB0 := alloc_below (w := w) (.cells #[.bool false, .slice none 0 0, .slice none 0 0] 36)
  have e0 : w.heap.size + 1 ≤ (w.alloc (.cells #[.bool false, .slice none 0 0, .slice none 0 0] 36)).heap.size := by simp
  obtain ⟨g, hg⟩ : ∃ g, g = w.heap.size := ⟨_, rfl⟩
  have HG : Hid (w.heap.size = g) := hg.symm
  rw [← hg] at t0 e0
  obtain ⟨Q, hQ⟩ : ∃ Q, Q = decide (9223372036854775808 < b) := ⟨_, rfl⟩
  have hx : (Q = true ∧ nxW b = innB b) ∨ (Q = false ∧ innB b = b) := by
    by_cases q : 9223372036854775808 < b
    · exact Or.inl ⟨by rw [hQ]; simpa using q, nxt_inn hf q⟩
    · exact Or.inr ⟨by rw [hQ]; simpa using q, by unfold innB; rw [if_neg q]⟩
  rw [← hQ] at k1 hBn
  clear hQ
  have sm0 : 0 ≤ spM (innB b) ∧ spM (innB b) ≤ 9007199254740992 := by omega
  have sx0 : -1074 ≤ spX (innB b) ∧ spX (innB b) ≤ 971 := by omega
  generalize midR b = V at *
  generalize spM (innB b) = sM at *
  generalize spX (innB b) = sX at *
  generalize spS (innB b) = sS at *
  generalize cmW b 0 = C at *
  generalize nxW b = nb at *
  generalize innB b = ib at *
  clear hE e1 e2' e3 e4 e5 e6 e7 hf HQ fi k2 hm
  rcases hx with ⟨rfl, rfl⟩ | ⟨rfl, rfl⟩
  all_goals
    go_enter Tryz.func111, Tryz.ntmps111
    go_wp2_with fail
    rw [← hg]
    generalize w.alloc (.cells #[.bool false, .slice none 0 0, .slice none 0 0] 36) = w0 at *
    clear hg
    refine (hN _).mono ?_
    rintro e w1 ⟨rfl, rfl⟩
    go_wp2_with fail
    refine (hCm _).mono ?_
    rintro e w1 ⟨rfl, rfl⟩
    go_wp2_with fail
    refine (hSp _).mono ?_
    rintro e w1 ⟨rfl, rfl⟩
    go_wp2_with fail
    refine (hBn _).mono ?_
    rintro e w1 ⟨s9, v1, v2, rfl, hR, hb1⟩
    obtain ⟨a9, n9, c9, b9, m9, d9, rfl, rfl, _⟩ := hR.opens
    have t1 := t0.later hb1
    have HB1 := HB0.trans (hb1.mono HB0.size)
    obtain ⟨x0, x1, x2⟩ := t1.cells
    obtain ⟨z0, z1, z2⟩ := t1.frozen
    clear hSp hBn t0 HB0 hN hCm
    go_wp2
    have i9 := in3 w1 g (.bool s9) (.slice a9 n9 c9) (.slice b9 m9 d9)
    have T9 := t1.set (.bool s9) (.slice a9 n9 c9) (.slice b9 m9 d9)
    have R9 := ((hR.lower (base' := g + 1) (by omega)).inn i9 (by omega)).lower (base' := w.heap.size) (by rw [HG.out]; omega)
    have B9 := below_in HB1 i9 (by rw [HG.out]; omega) (Nat.le_refl _)
    obtain ⟨j0, j1, j2⟩ := T9.cells
    refine bodyPost_ret (v := .tuple #[.agg #[.bool s9, .slice a9 n9 c9, .slice b9 m9 d9], .int .i64 0]) (by simp [results, Tryz.results111, go_sem, j0, j1, j2]) rfl ?_
    exact ⟨_, _, _, rfl, R9, B9⟩
set_option maxHeartbeats 3200000 in
set_option maxRecDepth 100000 in
theorem nearMid_most (w : World) :
    Calls Tryz.prog 111 #[.int .u64 9218868437227405311] w fun e w' => e = .returned (.tuple #[.agg #[.bool false, .slice none 0 0, .slice none 0 0], .int .i64 62]) ∧ Below w.heap.size w w' := by
  have hE : nxE 9218868437227405311 = 62 := by decide
  have hN := fun w => f6Next_any (b := 9218868437227405311) (by unfold U; omega) w
  rw [hE] at hN
  have HB0 := alloc_below (w := w) (.cells #[.bool false, .slice none 0 0, .slice none 0 0] 36)
  generalize nxW 9218868437227405311 = X at *
  clear hE
  go_enter Tryz.func111, Tryz.ntmps111
  go_wp2_with fail
  refine (hN _).mono ?_
  rintro e w1 ⟨rfl, rfl⟩
  go_wp2
  refine bodyPost_ret (v := .tuple #[.agg #[.bool false, .slice none 0 0, .slice none 0 0], .int .i64 62]) (by simp [results, Tryz.results111, go_sem]) rfl ?_
  exact ⟨rfl, HB0⟩
end Go.Proofs.YtceecgklgkiffabGreatDoor

/- the middle of two neighbours, and what lies a little to either side: the numbers. -/
namespace Go.Proofs.YtceecgklgkiffabGreatDoor
open Go.ChangeShapes Go.WideShapes Go.ChangeAt Go.RowKit
open Na Ar
set_option linter.unusedVariables false
namespace Na
theorem mkR_div (s : Bool) {A B : Int} (hB : 0 < B) : mkR s A B = ((sg s A : Int) : Rat) / ((B : Int) : Rat) := by
  unfold mkR
  rw [Rat.mkRat_eq_div]
  have : (((B.toNat : Nat) : Int) : Rat) = ((B : Int) : Rat) := by rw [Int.toNat_of_nonneg (by omega)]
  rw [← this]
  rfl
theorem rat_pos_ne {B : Int} (hB : 0 < B) : ((B : Int) : Rat) ≠ 0 := by
  intro h
  have : B = 0 := Rat.intCast_inj.mp (by rw [h]; rfl)
  omega
end Na
end Go.Proofs.YtceecgklgkiffabGreatDoor

/- NearMiddles: what its numbers are. -/
namespace Go.Proofs.YtceecgklgkiffabGreatDoor
open Go.ChangeShapes Go.WideShapes Go.ChangeAt Go.RowKit
open Na Ar
set_option linter.unusedVariables false
namespace Na
theorem mid_form {b : Int} (hu : U b) (hf : ef b ≠ 2047) : midR b = mkR (decide (9223372036854775808 < b)) (numW (mg (innB b)) + nxtN (mg (innB b))) (2 * e2 1074) := by
  obtain ⟨ui, fi⟩ := inn_fin hu hf
  obtain ⟨p, e1, e2', e3, e4, e5, e6, e7⟩ := num_parts ui fi
  obtain ⟨f1, f2, f3⟩ := fin_size ui fi
  have se : (2 : Int) ^ stepN (mg (innB b)) = e2 (spX (innB b) + 1074) := by
    have ee : ef (mg (innB b)) = ef (innB b) := by unfold ef mg; omega
    unfold stepN e2
    have : spX (mg (innB b)) = spX (innB b) := by unfold spX; rw [ee]
    rw [this]
  have ne : numW (innB b) = spM (innB b) * e2 (spX (innB b) + 1074) := by rw [e7, e1, e2_nat]
  unfold midR binQ nxtN
  rw [se, f3, ne]
  generalize spM (innB b) = M at *
  have hX : -1074 ≤ spX (innB b) := by omega
  generalize spX (innB b) = X at *
  have p1 := e2_pos (X - 1)
  have p2 := e2_pos (-(X - 1))
  have p3 := e2_pos (X + 1074)
  have p4 := e2_pos 1074
  have ms : 0 ≤ M * e2 (X + 1074) := Int.mul_nonneg e3 (by omega)
  rw [mk_eq (Int.mul_nonneg (by omega) (by omega)) p2 (by omega) (by omega)]
  have sh := e2_shift (P := X + 1074) (T := X - 1) (by omega) (by omega)
  have e75 : e2 (1 + 1074) = 2 * e2 1074 := by rw [e2_add (by omega) (by omega), e2_one]
  rw [show X + 1074 - (X - 1) = 1 + 1074 by omega, e75] at sh
  have q : (2 * M + 1) * e2 (X - 1) * (2 * e2 1074) = (M * e2 (X + 1074) + (M * e2 (X + 1074) + e2 (X + 1074))) * e2 (-(X - 1)) := by
    rw [show M * e2 (X + 1074) + (M * e2 (X + 1074) + e2 (X + 1074)) = (2 * M + 1) * e2 (X + 1074) by generalize e2 (X + 1074) = a; grind]
    rw [Int.mul_assoc, Int.mul_assoc, sh]
    generalize e2 (X - 1) = a
    generalize e2 1074 = c
    grind
  unfold sg
  split
  · rw [Int.neg_mul, Int.neg_mul, q]
  · exact q
end Na
theorem mid_size {b : Int} (hu : U b) (hf : ef b ≠ 2047) : Sz (midR b) 20 := by
  obtain ⟨ui, fi⟩ := inn_fin hu hf
  obtain ⟨p, e1, e2', e3, e4, e5, e6, e7⟩ := num_parts ui fi
  unfold midR binQ
  have l1 : Lt ((2 * spM (innB b) + 1) * e2 (spX (innB b) - 1)) 20 := by
    have := (Lt.word (x := 2 * spM (innB b) + 1) (by omega)).pow2 (t := (spX (innB b) - 1).toNat)
    exact this.mono (by omega)
  have l2 : Lt (e2 (-(spX (innB b) - 1))) 20 := by
    have := lt_one.pow2 (t := (-(spX (innB b) - 1)).toNat)
    rw [Int.one_mul] at this
    exact this.mono (by omega)
  exact Sz.mkR l1 l2 (e2_pos _)
end Go.Proofs.YtceecgklgkiffabGreatDoor


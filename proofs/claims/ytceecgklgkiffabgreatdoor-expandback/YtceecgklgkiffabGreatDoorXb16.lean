import Derived.Deep.RegionLaw
import Derived.Below
import Derived.BigQuiet
import Derived.ChangeOld
import Derived.Deep.DeepCutAuto
import Derived.Deep.QuietTactic
import Derived.Deep.RegionWith
import Derived.KernelRfl
import Derived.Laws.BitsAllLaws
import Derived.Laws.CopyRow
import Derived.Laws.IdiomCopy
import Derived.Laws.IdiomRangeMap
import Derived.Laws.IdiomStrings
import Derived.Laws.RangeAny
import Derived.Laws.Strings3
import Derived.Lib.OthersKept
import Derived.Lib.Strings
import Derived.Lib.TrimByte
import Derived.Lib.Walk
import Derived.OpenShut
import Derived.OwnWalk
import Derived.ProofKit
import Derived.Scope
import Derived.ShutString
import Derived.WalkKit
import Derived.WalkLawsBesides
import Derived.WalkMore
import Derived.WalkSpells
import Derived.Test.YtceecgklgkiffabGreatDoorXb15
/- radix.Trim: by tens, as often as it can be done. -/
namespace Go.Proofs.YtceecgklgkiffabGreatDoor
open Go.ChangeShapes Go.WideShapes Go.ChangeAt Go.RowKit
open Na Ar
set_option linter.unusedVariables false
namespace Na
theorem odd_dec : ∀ (m : Nat), 0 < m → ∃ (k : Nat) (u : Int), (m : Int) = 2 ^ k * u ∧ 0 < u ∧ u % 2 = 1 := by
  intro m
  induction m using Nat.strongRecOn with
  | ind m ih =>
    intro h
    by_cases o : m % 2 = 1
    · exact ⟨0, m, by simp, by omega, by omega⟩
    · obtain ⟨k, u, h1, h2, h3⟩ := ih (m / 2) (by omega) (by omega)
      refine ⟨k + 1, u, ?_, h2, h3⟩
      rw [Int.pow_succ, Int.mul_assoc, Int.mul_comm 2 u, ← Int.mul_assoc, ← h1]
      omega
theorem zeros_ge {X q : Int} {n : Nat} (hq : 0 < q) (h : X = q * 10 ^ n) : (n : Int) ≤ zerosN X := by
  have p5 : 0 < (5 : Int) ^ n := Int.pow_pos (by omega)
  have hp := Int.mul_pos hq p5
  obtain ⟨j, u, h1, h2, h3⟩ := odd_dec (q * 5 ^ n).toNat (by omega)
  have e : X = 2 ^ (n + j) * u := by
    rw [h, show (10 : Int) = 5 * 2 by omega, Int.mul_pow, ← Int.mul_assoc, Int.pow_add, Int.mul_assoc (2 ^ n), ← h1, Int.mul_comm]
    congr 1
    omega
  rw [zerosN_eq e h2 h3]
  omega
theorem zeros_le {X : Int} {L : Nat} (h0 : 0 ≤ X) (hL : (words X).length ≤ L) : zerosN X ≤ 64 * L := by
  by_cases hz : X = 0
  · rw [hz, zerosN_zero]; omega
  · obtain ⟨k, u, h1, h2, h3⟩ := odd_dec X.toNat (by omega)
    have e : X = 2 ^ k * u := by rw [← h1]; omega
    rw [zerosN_eq e h2 h3]
    have lt := val_lt (B := 18446744073709551616) (by omega) (Dg_words X)
    rw [val_words h0] at lt
    have m := wpow_mono hL
    have e2 : (18446744073709551616 : Int) ^ L = 2 ^ (64 * L) := by
      rw [show (18446744073709551616 : Int) = 2 ^ 64 by decide, ← Int.pow_mul]
    by_cases g : k ≤ 64 * L
    · omega
    · exfalso
      have a : (2 : Int) ^ (64 * L) ≤ 2 ^ k := p2mono (by omega)
      have pk : (0 : Int) < 2 ^ k := Int.pow_pos (by omega)
      have b := Int.mul_le_mul_of_nonneg_left (show (1 : Int) ≤ u by omega) (Int.le_of_lt pk)
      omega
/-- does ten to the n divide it? (0: never) -/
def dv (X : Int) (n : Nat) : Bool := decide (0 < X) && decide (X % 10 ^ n = 0)
theorem dv_true {X : Int} {n : Nat} (h : dv X n = true) : 0 < X ∧ X % 10 ^ n = 0 := by
  unfold dv at h; simpa using h
theorem dv_false {X : Int} {n : Nat} (h : dv X n = false) (h0 : 0 < X) : X % 10 ^ n ≠ 0 := by
  unfold dv at h
  intro q
  simp [h0, q] at h
theorem dv_quot {X : Int} {n : Nat} (h : dv X n = true) : X = X / 10 ^ n * 10 ^ n ∧ 0 < X / 10 ^ n ∧ X / 10 ^ n ≤ X := by
  obtain ⟨h0, h1⟩ := dv_true h
  have p : 0 < (10 : Int) ^ n := Int.pow_pos (by omega)
  have d := Int.mul_ediv_add_emod X (10 ^ n)
  rw [h1, Int.add_zero, Int.mul_comm] at d
  refine ⟨d.symm, ?_, Int.ediv_le_self _ (by omega)⟩
  by_cases q : 0 < X / 10 ^ n
  · exact q
  · have := Int.mul_le_mul_of_nonneg_right (show X / 10 ^ n ≤ 0 by omega) (Int.le_of_lt p)
    omega
theorem dv_low {X : Int} {n : Nat} (h : zerosN X < n) : dv X n = false := by
  cases e : dv X n with
  | false => rfl
  | true =>
    obtain ⟨q1, q2, _⟩ := dv_quot e
    have := zeros_ge q2 q1
    omega
end Na
set_option maxHeartbeats 1600000 in
set_option maxRecDepth 100000 in
theorem divided_any {a pa : Option Addr} {l c pl pc n : Nat} {X : Int} {w : World} (h0 : 0 ≤ X) (hr : RowC w a l c (words X)) (hl : l ≤ 3000000) (hp : RowC w pa pl pc (words (10 ^ n))) (hpl : pl ≤ 4096) (hn : 1 ≤ n) (hn9 : n ≤ 400000000) :
    Calls Tryz.prog 147 #[.slice a l c, .slice pa pl pc, .int .i64 n] w fun e w' => ∃ v, e = .returned (.tuple #[v, .bool (dv X n)]) ∧ (dv X n = true → Own .u64 w' w.heap.size 22 v (words (X / 10 ^ n))) ∧ Below w.heap.size w w' := by
  have hp0 : 0 < (10 : Int) ^ n := Int.pow_pos (by omega)
  have zc := zeros0_any hr (Dg_words X) (by omega)
  have dc := divMod_any hr hp (Dg_words X) (Dg_words _) (by omega) (by omega) (by rw [num_words (Int.le_of_lt hp0)]; exact hp0)
  rw [num_words h0] at zc dc
  rw [num_words (Int.le_of_lt hp0)] at dc
  have HZ := dv_low (X := X) (n := n)
  have hzl := zeros_le (X := X) (L := 3000000) h0 (by have := hr.1.1; omega)
  by_cases hz : zerosN X < n
  · have hd := HZ hz
    rw [hd]
    clear HZ dc
    go_enter Tryz.func147, Tryz.ntmps147
    go_wp2_with fail
    refine zc.mono ?_
    rintro e w' ⟨rfl, rfl⟩
    clear zc
    go_wp2
    go_ret2
    exact ⟨.slice none 0 0, rfl, fun h => absurd h (by decide), Below.refl _ _⟩
  · have hX : 0 < X := by
      by_cases q : X = 0
      · rw [q, zerosN_zero] at hz; omega
      · omega
    have HD : Hid (((words (X % 10 ^ n)).length == 0) = dv X n) := by
      show _ = _
      have r0 := Int.emod_nonneg X (show (10 : Int) ^ n ≠ 0 by omega)
      have := words_nil r0
      unfold dv
      by_cases q : X % 10 ^ n = 0
      · rw [show (words (X % 10 ^ n)).length = 0 from this.mpr q]; simp [hX, q]
      · have h9 : (words (X % 10 ^ n)).length ≠ 0 := fun z => q (this.mp z)
        simp [hX, q, h9]
    clear HZ
    go_enter Tryz.func147, Tryz.ntmps147
    go_wp2_with fail
    refine zc.mono ?_
    rintro e w' ⟨rfl, rfl⟩
    clear zc
    go_wp2_with fail
    refine dc.mono ?_
    rintro e w1 ⟨v1, v2, rfl, ho1, ho2, hb1, _⟩
    obtain ⟨ra, rc, rfl, _⟩ := ho2.readsC
    clear dc ho2
    have HD2 : Hid ((((words (X % 10 ^ n)).length : Int) == 0) = dv X n) := by
      show _ = _
      rw [← HD.out]
      generalize (words (X % 10 ^ n)).length = z
      by_cases q : z = 0
      · subst q; rfl
      · have e1 : ((z : Int) == 0) = false := by rw [beq_eq_false_iff_ne]; omega
        have e2 : (z == 0) = false := by rw [beq_eq_false_iff_ne]; omega
        rw [e1, e2]
    generalize (words (X % 10 ^ n)).length = z at *
    have hzz := HD2.out
    clear HD HD2
    go_wp2
    go_ret2
    exact ⟨v1, rfl, fun _ => ho1, hb1⟩
/-- what strip answers -/
def StripIs (X : Int) (n base : Nat) (w : World) (e : Ending) (w' : World) : Prop :=
  ∃ (v : Value) (U : Int) (k : Nat), e = .returned (.tuple #[v, .int .i64 ((k * n : Nat) : Int)]) ∧ 0 ≤ U ∧ X = U * 10 ^ (k * n) ∧ (X = 0 → k = 0) ∧ (0 < X → U % 10 ^ n ≠ 0) ∧ Own .u64 w' base 22 v (words U) ∧ Below w.heap.size w w'
def StripC (n : Nat) : Prop := ∀ (X : Int) (base : Nat) (w : World) (v : Value) (pa : Option Addr) (pl pc : Nat), 0 ≤ X → (words X).length ≤ 3000000 → base ≤ w.heap.size → Own .u64 w base 22 v (words X) → RowC w pa pl pc (words (10 ^ n)) → pl ≤ 4096 →
  Calls Tryz.prog 118 #[v, .slice pa pl pc, .int .i64 (n : Int)] w (StripIs X n base w)
/-- what stripSquare answers -/
def SquareIs (X : Int) (n base : Nat) (w : World) (e : Ending) (w' : World) : Prop :=
  ∃ (v : Value) (U : Int) (k : Nat), e = .returned (.tuple #[v, .int .i64 ((k * (2 * n) : Nat) : Int)]) ∧ 0 ≤ U ∧ X = U * 10 ^ (k * (2 * n)) ∧ Own .u64 w' base 22 v (words U) ∧ Below w.heap.size w w'
set_option maxHeartbeats 1600000 in
set_option maxRecDepth 100000 in
theorem square_any {n : Nat} (hn : 1 ≤ n) (hn9 : n ≤ 200000000) (ih : 2 * n ≤ 200000000 → StripC (2 * n)) {X : Int} {base : Nat} {w : World} {v : Value} {pa : Option Addr} {pl pc : Nat} (h0 : 0 ≤ X) (hL : (words X).length ≤ 3000000) (hbase : base ≤ w.heap.size) (ho : Own .u64 w base 22 v (words X)) (hp : RowC w pa pl pc (words (10 ^ n))) (hpl : pl ≤ 4096) :
    Calls Tryz.prog 148 #[v, .slice pa pl pc, .int .i64 (n : Int)] w (SquareIs X n base w) := by
  obtain ⟨a, c, rfl, hr⟩ := ho.readsC
  have hp0 : 0 < (10 : Int) ^ n := Int.pow_pos (by omega)
  have zc := zeros0_any hr (Dg_words X) (by omega)
  rw [num_words h0] at zc
  have hzl := zeros_le (X := X) (L := 3000000) h0 hL
  have mc := natMul_any hp hp (Dg_words _) (Dg_words _) (by omega) (by omega)
  rw [num_words (Int.le_of_lt hp0)] at mc
  have e2 : (10 : Int) ^ n * 10 ^ n = 10 ^ (2 * n) := by rw [← Int.pow_add]; congr 1; omega
  rw [e2] at mc
  have same : ∀ w', w = w' → SquareIs X n base w (.returned (.tuple #[.slice a (words X).length c, .int .i64 0])) w' := fun w' e => by
    subst e
    exact ⟨_, X, 0, by rw [Nat.zero_mul]; rfl, h0, by simp, ho, Below.refl _ _⟩
  have same2 : ∀ w', Below w.heap.size w w' → SquareIs X n base w (.returned (.tuple #[.slice a (words X).length c, .int .i64 0])) w' := fun w' e =>
    ⟨_, X, 0, by rw [Nat.zero_mul]; rfl, h0, by simp, ho.later e, e⟩
  have hlx := hr.1.1
  by_cases hz : zerosN X < 2 * (n : Int)
  · clear mc ih e2
    generalize (words X).length = lx at *
    go_enter Tryz.func148, Tryz.ntmps148
    go_wp2_with fail
    refine zc.mono ?_
    rintro e w' ⟨rfl, rfl⟩
    clear zc
    go_wp2
    go_ret2
    exact same _ rfl
  · have hst := ih (by omega)
    by_cases hE : resE (10 ^ (2 * n)) = 0
    · obtain ⟨el, eb⟩ := res_ok hE
      rw [hE, el] at mc
      generalize hlxx : (words X).length = lx at *
      go_enter Tryz.func148, Tryz.ntmps148
      go_wp2_with fail
      refine zc.mono ?_
      rintro e w' ⟨rfl, rfl⟩
      clear zc hE el
      go_wp2_with fail
      refine mc.mono ?_
      rintro e w1 ⟨v1, rfl, ho1, hb1⟩
      obtain ⟨qa, qc, rfl, hq1⟩ := ho1.readsC
      have hs1 := hst X base w1 (.slice a lx c) qa _ qc h0 (by omega) (Nat.le_trans hbase hb1.size) (ho.later hb1) hq1 eb
      clear mc hst ih
      generalize (words (10 ^ (2 * n))).length = ql at *
      have hcast : ((2 * n : Nat) : Int) = 2 * (n : Int) := by omega
      rw [hcast] at hs1
      go_wp2_with fail
      refine hs1.mono ?_
      rintro e w2 ⟨v2, U, k, rfl, hU, hX, _, _, ho2, hb2⟩
      have HF : SquareIs X n base w (.returned (.tuple #[v2, .int .i64 ((k * (2 * n) : Nat) : Int)])) w2 := ⟨v2, U, k, rfl, hU, hX, ho2, hb1.trans (hb2.mono hb1.size)⟩
      clear hX hs1
      go_wp2
      go_ret2
      exact HF
    · have q21 : resE (10 ^ (2 * n)) = 21 := by
        unfold resE at hE ⊢
        split at hE
        · exact absurd rfl hE
        · rename_i h; rw [if_neg h]
      rw [q21] at mc
      generalize (words X).length = lx at *
      go_enter Tryz.func148, Tryz.ntmps148
      go_wp2_with fail
      refine zc.mono ?_
      rintro e w' ⟨rfl, rfl⟩
      clear zc hE q21
      go_wp2_with fail
      refine mc.mono ?_
      rintro e w1 ⟨v1, rfl, ho1, hb1⟩
      clear mc hst ih
      go_wp2
      go_ret2
      exact same2 _ hb1
end Go.Proofs.YtceecgklgkiffabGreatDoor

/- radix.strip, radix.Trim. -/
namespace Go.Proofs.YtceecgklgkiffabGreatDoor
open Go.ChangeShapes Go.WideShapes Go.ChangeAt Go.RowKit
open Na Ar
set_option linter.unusedVariables false
namespace Na
/-- C tens are taken off -/
def Off10 (X U : Int) (n C : Nat) : Prop := 0 < U ∧ X = U * 10 ^ C ∧ ∃ k, C = k * n
theorem off_next {X U : Int} {n C : Nat} (h : Off10 X U n C) (hd : dv U n = true) : Off10 X (U / 10 ^ n) n (C + n) := by
  obtain ⟨h1, h2, k, h3⟩ := h
  obtain ⟨d1, d2, d3⟩ := dv_quot hd
  refine ⟨d2, ?_, k + 1, by rw [h3, Nat.succ_mul]⟩
  rw [h2, Nat.add_comm, Int.pow_add, ← Int.mul_assoc, ← d1]
theorem off_first {X U : Int} {n k : Nat} (hd : dv X n = true) (hU : 0 ≤ U) (h : X / 10 ^ n = U * 10 ^ (k * (2 * n))) : Off10 X U n (k * (2 * n) + n) := by
  obtain ⟨d1, d2, d3⟩ := dv_quot hd
  refine ⟨?_, ?_, 2 * k + 1, by rw [Nat.add_mul, Nat.one_mul, Nat.mul_comm 2 k, Nat.mul_assoc]⟩
  · by_cases q : U = 0
    · rw [q, Int.zero_mul] at h; omega
    · omega
  · rw [d1, h, Int.pow_add, Int.mul_assoc]
theorem off_bound {X U : Int} {n C : Nat} (h : Off10 X U n C) (h0 : 0 ≤ X) (hL : (words X).length ≤ 3000000) : C ≤ 192000000 := by
  have a := zeros_ge h.1 h.2.1
  have b := zeros_le (X := X) (L := 3000000) h0 hL
  omega
theorem off_le {X U : Int} {n C : Nat} (h : Off10 X U n C) : U ≤ X := by
  have p : (1 : Int) ≤ 10 ^ C := Int.pow_pos (by omega)
  have := Int.mul_le_mul_of_nonneg_left p (Int.le_of_lt h.1)
  rw [← h.2.1] at this
  omega
/-- not too many words -/
def Fits (X : Int) : Prop := (words X).length ≤ 3000000
end Na
set_option maxHeartbeats 3200000 in
set_option maxRecDepth 100000 in
theorem strip_step {n : Nat} (hn : 1 ≤ n) (hn9 : n ≤ 200000000) (ih : 2 * n ≤ 200000000 → StripC (2 * n)) : StripC n := by
  intro X base w v pa pl pc h0 hL hbase ho hp hpl
  obtain ⟨a, c, rfl, hr⟩ := ho.readsC
  have dc := divided_any h0 hr hL hp hpl hn (by omega)
  have HLX : Fits X := hL
  have hlx : 0 ≤ (words X).length := Nat.zero_le _
  cases hd : dv X n with
  | false =>
    have HF : ∀ w', Below w.heap.size w w' → StripIs X n base w (.returned (.tuple #[.slice a (words X).length c, .int .i64 0])) w' := fun w' hb =>
      ⟨_, X, 0, by rw [Nat.zero_mul]; rfl, h0, by simp, fun _ => rfl, fun q => dv_false hd q, ho.later hb, hb⟩
    rw [hd] at dc
    generalize (words X).length = lx at *
    go_enter Tryz.func118, Tryz.ntmps118
    go_wp2_with fail
    refine dc.mono ?_
    rintro e w1 ⟨v1, rfl, _, hb1⟩
    clear dc
    go_wp2
    go_ret2
    exact HF _ hb1
  | true =>
    obtain ⟨d1, d2, d3⟩ := dv_quot hd
    have hX0 := (dv_true hd).1
    rw [hd] at dc
    have hL1 : (words (X / 10 ^ n)).length ≤ 3000000 := Nat.le_trans (words_mono (Int.le_of_lt d2) d3) hL
    have HD : Hid (dv X n = true) := hd
    obtain ⟨Y, hY⟩ : ∃ Y, Y = X / 10 ^ n := ⟨_, rfl⟩
    have HY : Hid (X / 10 ^ n = Y) := hY.symm
    rw [← hY] at dc hL1 d2
    clear d1 d3 hd hY
    have hn0 : (0 : Int) ≤ (n : Int) := by omega
    generalize hlxx : (words X).length = lx at *
    clear hlxx hr ho hlx
    go_enter Tryz.func118, Tryz.ntmps118
    go_wp2_with fail
    refine dc.mono ?_
    rintro e w1 ⟨v1, rfl, ho1', hb1⟩
    have ho1 := (ho1' (by simp)).wider hbase
    have hp1 := hp.later hb1
    have sc := square_any hn hn9 ih (Int.le_of_lt d2) hL1 (Nat.le_trans hbase hb1.size) ho1 hp1 hpl
    obtain ⟨qa, qc, rfl, _⟩ := ho1.readsC
    clear dc ho1' hp ho1
    generalize (words Y).length = ly at *
    go_wp2_with fail
    refine sc.mono ?_
    rintro e w2 ⟨v2, U, k, rfl, hU, hUX, ho2, hb2⟩
    have hoff := off_first HD.out hU (HY.out.trans hUX)
    have hp2 := hp1.later hb2
    have hB2 := hb1.trans (hb2.mono hb1.size)
    have hcb := off_bound hoff h0 HLX
    obtain ⟨C, hC⟩ : ∃ C : Nat, C = k * (2 * n) := ⟨_, rfl⟩
    rw [← hC] at hoff hcb ⊢
    have hUL : (words U).length ≤ 3000000 := Nat.le_trans (words_mono (Int.le_of_lt hoff.1) (off_le hoff)) HLX
    have HOF : Hid (Off10 X U n (C + n)) := hoff
    obtain ⟨ua, uc, rfl, hu2⟩ := ho2.readsC
    have dc2 := divided_any hU hu2 hUL hp2 hpl hn (by omega)
    clear sc hUX hC hoff hp1 hu2
    generalize hul : (words U).length = lu at *
    go_wp2_with fail
    refine dc2.mono ?_
    rintro e w3 ⟨v3, rfl, ho3, hb3⟩
    have hp3 := hp2.later hb3
    have hB3 := hB2.trans (hb3.mono hB2.size)
    have ho23 := ho2.later hb3
    have ho33 : dv U n = true → Own .u64 w3 base 22 v3 (words (U / 10 ^ n)) := fun q => (ho3 q).wider (Nat.le_trans hbase hB2.size)
    clear dc2 ho3 ho2 hp2 hUL hul
    go_wp2
    go_loopw [0, 8, 9, 10] (fun x q ok c wr => ∃ (V : Int) (C : Nat), ok = .bool (dv V n) ∧ c = .int .i64 (C : Int) ∧ Hid (Off10 X V n C) ∧ Own .u64 wr base 22 x (words V) ∧ (dv V n = true → Own .u64 wr base 22 q (words (V / 10 ^ n))) ∧ Below w.heap.size w wr ∧ RowC wr pa pl pc (words (10 ^ n))) (fun _ _ _ c _ => 200000000 - (RowKit.intOf c).toNat)
    case atStart => exact ⟨U, C + n, rfl, by go_num, HOF, ho23, ho33, hB3, hp3⟩
    case round =>
      obtain ⟨V, C', rfl, rfl, hof, hov, hoq, hnx, hpr⟩ := hrel
      have hcb' := off_bound hof.out h0 HLX
      clear HOF ho23 ho33 hp3 hB3
      cases hdv : dv V n with
      | true =>
        have hnext := off_next hof.out hdv
        have HN : Hid (Off10 X (V / 10 ^ n) n (C' + n)) := hnext
        have hnb := off_bound hnext h0 HLX
        have hq := hoq hdv
        have hq0 := Int.le_of_lt hnext.1
        have hql : (words (V / 10 ^ n)).length ≤ 3000000 := Nat.le_trans (words_mono (Int.le_of_lt hnext.1) (off_le hnext)) HLX
        obtain ⟨V2, hV2⟩ : ∃ V2, V2 = V / 10 ^ n := ⟨_, rfl⟩
        rw [← hV2] at hq hql HN hq0
        clear hoq hov hof hnext hV2 hdv
        obtain ⟨xa, xc, rfl, hxr⟩ := hq.readsC
        have dc3 := divided_any hq0 hxr hql hpr hpl hn (by omega)
        clear hxr
        generalize hvl : (words V2).length = lv at *
        go_wp2_with fail
        refine dc3.mono ?_
        rintro e w5 ⟨v5, rfl, ho5, hb5⟩
        have hp5 := hpr.later hb5
        have hB5 := hnx.trans (hb5.mono hnx.size)
        have hoq5 := hq.later hb5
        have ho55 : dv V2 n = true → Own .u64 w5 base 22 v5 (words (V2 / 10 ^ n)) := fun q => (ho5 q).wider (Nat.le_trans hbase hnx.size)
        clear dc3 ho5 hq hpr hnx hql hvl
        go_wp2
        go_roundw
        case rel => exact ⟨V2, C' + n, rfl, by go_num, HN, hoq5, ho55, hB5, hp5⟩
        case measure => simp [RowKit.intOf]; omega
      | false =>
        obtain ⟨o1, o2, kk, o3⟩ := hof.out
        have HF : ∀ v' w', Own .u64 w' base 22 v' (words V) → Below w.heap.size w w' → StripIs X n base w (.returned (.tuple #[v', .int .i64 (C' : Int)])) w' := fun v' w' ho hb =>
          ⟨v', V, kk, by rw [o3], Int.le_of_lt o1, by rw [← o3]; exact o2, fun q => by omega, fun _ => dv_false hdv o1, ho, hb⟩
        have HX : Hid (0 < X) := hX0
        obtain ⟨xa, xc, rfl, _⟩ := hov.readsC
        have HFF := HF _ _ hov hnx
        clear hof hoq o2 o3 hdv HF hov
        generalize (words V).length = lv at *
        go_wp2
        go_ret2
        exact HFF
theorem strip_all : ∀ (f n : Nat), 1 ≤ n → n ≤ 200000000 → 200000000 ≤ n + f → StripC n := by
  intro f
  induction f with
  | zero => intro n h1 h2 h3; exact strip_step h1 h2 (fun q => by omega)
  | succ f ih => intro n h1 h2 h3; exact strip_step h1 h2 (fun q => ih (2 * n) (by omega) q (by omega))
/-- what Trim answers -/
def Trimmed (X : Int) (w : World) (e : Ending) (w' : World) : Prop :=
  ∃ (v : Value) (U : Int) (k : Nat), e = .returned (.tuple #[v, .int .i64 (k : Int)]) ∧ 0 ≤ U ∧ X = U * 10 ^ k ∧ (X = 0 → k = 0) ∧ (0 < X → U % 10 ≠ 0) ∧ Own .u64 w' w.heap.size 22 v (words U) ∧ Below w.heap.size w w'
set_option maxHeartbeats 1600000 in
set_option maxRecDepth 100000 in
theorem trim10_any {a : Option Addr} {l c : Nat} {xs : List Int} {w : World} (hr : RowC w a l c xs) (hw : Ws xs) (hl : l ≤ 3000000) :
    Calls Tryz.prog 86 #[.slice a l c] w (Trimmed (num xs) w) := by
  have nc := natNorm_any hr hw (by omega)
  have h0 := num_nonneg hw
  have hlen : (words (num xs)).length ≤ 3000000 := by
    have := words_len hw
    have := hr.1.1
    omega
  have fc := fun w => natFrom_any (v := 10) (by omega) w
  have sc := strip_all 199999999 1 (by omega) (by omega) (by omega)
  unfold StripC at sc
  generalize num xs = X at *
  go_enter Tryz.func86, Tryz.ntmps86
  go_wp2_with fail
  refine nc.mono ?_
  rintro e w1 ⟨v1, rfl, ho1, hb1⟩
  obtain ⟨xa, xc, rfl, _⟩ := ho1.readsC
  clear nc
  go_wp2_with fail
  refine (fc _).mono ?_
  rintro e w2 ⟨v2, rfl, ho2, hb2⟩
  obtain ⟨pa, pc, rfl, hp2⟩ := ho2.readsC
  have hB2 := hb1.trans (hb2.mono hb1.size)
  have w10 : (words 10).length ≤ 4096 := bits_words (P := 10) (β := 64) (by omega) (by decide) (by omega)
  have ss := sc X w.heap.size w2 _ pa _ pc h0 hlen hB2.size (ho1.later hb2) hp2 w10
  clear fc sc ho2 w10 ho1
  generalize (words 10).length = lp at *
  generalize (words X).length = lx at *
  go_wp2_with fail
  refine ss.mono ?_
  rintro e w3 ⟨v3, U, k, rfl, hU, hX, hz, hnz, ho3, hb3⟩
  rw [Nat.mul_one] at hX ⊢
  have HF : Trimmed X w (.returned (.tuple #[v3, .int .i64 (k : Int)])) w3 := ⟨v3, U, k, rfl, hU, hX, hz, by rw [Int.pow_one] at hnz; exact hnz, ho3, hB2.trans (hb3.mono hB2.size)⟩
  clear ss hX hz hnz ho3
  go_wp2
  go_ret2
  exact HF
end Go.Proofs.YtceecgklgkiffabGreatDoor

/- radix.Count. -/
namespace Go.Proofs.YtceecgklgkiffabGreatDoor
open Go.ChangeShapes Go.WideShapes Go.ChangeAt Go.RowKit
open Na Ar
set_option linter.unusedVariables false
namespace Na
end Na
end Go.Proofs.YtceecgklgkiffabGreatDoor

/- plumbref04.take: by a small number, from the top. -/
namespace Go.Proofs.YtceecgklgkiffabGreatDoor
open Go.ChangeShapes Go.WideShapes Go.ChangeAt Go.RowKit
open Na Ar
set_option linter.unusedVariables false
namespace Na
end Na
end Go.Proofs.YtceecgklgkiffabGreatDoor

/- plumbref04.limbs: words cut into halves. -/
namespace Go.Proofs.YtceecgklgkiffabGreatDoor
open Go.ChangeShapes Go.WideShapes Go.ChangeAt Go.RowKit
open Na Ar
set_option linter.unusedVariables false
namespace Na
end Na
end Go.Proofs.YtceecgklgkiffabGreatDoor

/- plumblaw04.room: a copy with two words behind it. -/
namespace Go.Proofs.YtceecgklgkiffabGreatDoor
open Go.ChangeShapes Go.WideShapes Go.ChangeAt Go.RowKit
open Na Ar
set_option linter.unusedVariables false
end Go.Proofs.YtceecgklgkiffabGreatDoor

/- plumbref04.Trim. -/
namespace Go.Proofs.YtceecgklgkiffabGreatDoor
open Go.ChangeShapes Go.WideShapes Go.ChangeAt Go.RowKit
open Na Ar
set_option linter.unusedVariables false
end Go.Proofs.YtceecgklgkiffabGreatDoor

/- the document's Text: digits the lowest first, cut and turned about. -/
namespace Go.Proofs.YtceecgklgkiffabGreatDoor
open Go.ChangeShapes Go.WideShapes Go.ChangeAt Go.RowKit
open Na Ar
set_option linter.unusedVariables false
namespace Na
end Na
end Go.Proofs.YtceecgklgkiffabGreatDoor


import Derived.Test.YtceecgklgkiffaaGreatDoorBaseE
import Derived.Deep.RegionLaw
/- radix.Trim: by tens, as often as it can be done. -/
namespace Go.Proofs.YtceecgklgkiffaaGreatDoor
open Go.ChangeShapes Go.WideShapes Go.ChangeAt Go.RowKit
open Na Ar
set_option linter.unusedVariables false
namespace Na
theorem odd_dec : ∀ (m : Nat), 0 < m → ∃ (k : Nat) (u : Int), (m : Int) = 2 ^ k * u ∧ 0 < u ∧ u % 2 = 1 := by
  intro m
  induction m using Nat.strongRecOn with
  | ind m ih =>
    intro h
    by_cases o : m % 2 = 1
    · exact ⟨0, m, by simp, by omega, by omega⟩
    · obtain ⟨k, u, h1, h2, h3⟩ := ih (m / 2) (by omega) (by omega)
      refine ⟨k + 1, u, ?_, h2, h3⟩
      rw [Int.pow_succ, Int.mul_assoc, Int.mul_comm 2 u, ← Int.mul_assoc, ← h1]
      omega
theorem zeros_ge {X q : Int} {n : Nat} (hq : 0 < q) (h : X = q * 10 ^ n) : (n : Int) ≤ zerosN X := by
  have p5 : 0 < (5 : Int) ^ n := Int.pow_pos (by omega)
  have hp := Int.mul_pos hq p5
  obtain ⟨j, u, h1, h2, h3⟩ := odd_dec (q * 5 ^ n).toNat (by omega)
  have e : X = 2 ^ (n + j) * u := by
    rw [h, show (10 : Int) = 5 * 2 by omega, Int.mul_pow, ← Int.mul_assoc, Int.pow_add, Int.mul_assoc (2 ^ n), ← h1, Int.mul_comm]
    congr 1
    omega
  rw [zerosN_eq e h2 h3]
  omega
theorem zeros_le {X : Int} {L : Nat} (h0 : 0 ≤ X) (hL : (words X).length ≤ L) : zerosN X ≤ 64 * L := by
  by_cases hz : X = 0
  · rw [hz, zerosN_zero]; omega
  · obtain ⟨k, u, h1, h2, h3⟩ := odd_dec X.toNat (by omega)
    have e : X = 2 ^ k * u := by rw [← h1]; omega
    rw [zerosN_eq e h2 h3]
    have lt := val_lt (B := 18446744073709551616) (by omega) (Dg_words X)
    rw [val_words h0] at lt
    have m := wpow_mono hL
    have e2 : (18446744073709551616 : Int) ^ L = 2 ^ (64 * L) := by
      rw [show (18446744073709551616 : Int) = 2 ^ 64 by decide, ← Int.pow_mul]
    by_cases g : k ≤ 64 * L
    · omega
    · exfalso
      have a : (2 : Int) ^ (64 * L) ≤ 2 ^ k := p2mono (by omega)
      have pk : (0 : Int) < 2 ^ k := Int.pow_pos (by omega)
      have b := Int.mul_le_mul_of_nonneg_left (show (1 : Int) ≤ u by omega) (Int.le_of_lt pk)
      omega
/-- does ten to the n divide it? (0: never) -/
def dv (X : Int) (n : Nat) : Bool := decide (0 < X) && decide (X % 10 ^ n = 0)
theorem dv_true {X : Int} {n : Nat} (h : dv X n = true) : 0 < X ∧ X % 10 ^ n = 0 := by
  unfold dv at h; simpa using h
theorem dv_false {X : Int} {n : Nat} (h : dv X n = false) (h0 : 0 < X) : X % 10 ^ n ≠ 0 := by
  unfold dv at h
  intro q
  simp [h0, q] at h
theorem dv_quot {X : Int} {n : Nat} (h : dv X n = true) : X = X / 10 ^ n * 10 ^ n ∧ 0 < X / 10 ^ n ∧ X / 10 ^ n ≤ X := by
  obtain ⟨h0, h1⟩ := dv_true h
  have p : 0 < (10 : Int) ^ n := Int.pow_pos (by omega)
  have d := Int.mul_ediv_add_emod X (10 ^ n)
  rw [h1, Int.add_zero, Int.mul_comm] at d
  refine ⟨d.symm, ?_, Int.ediv_le_self _ (by omega)⟩
  by_cases q : 0 < X / 10 ^ n
  · exact q
  · have := Int.mul_le_mul_of_nonneg_right (show X / 10 ^ n ≤ 0 by omega) (Int.le_of_lt p)
    omega
theorem dv_low {X : Int} {n : Nat} (h : zerosN X < n) : dv X n = false := by
  cases e : dv X n with
  | false => rfl
  | true =>
    obtain ⟨q1, q2, _⟩ := dv_quot e
    have := zeros_ge q2 q1
    omega
end Na
set_option maxHeartbeats 1600000 in
set_option maxRecDepth 100000 in
theorem divided_any {a pa : Option Addr} {l c pl pc n : Nat} {X : Int} {w : World} (h0 : 0 ≤ X) (hr : RowC w a l c (words X)) (hl : l ≤ 3000000) (hp : RowC w pa pl pc (words (10 ^ n))) (hpl : pl ≤ 4096) (hn : 1 ≤ n) (hn9 : n ≤ 400000000) :
    Calls Tryz.prog 189 #[.slice a l c, .slice pa pl pc, .int .i64 n] w fun e w' => ∃ v, e = .returned (.tuple #[v, .bool (dv X n)]) ∧ (dv X n = true → Own .u64 w' w.heap.size 22 v (words (X / 10 ^ n))) ∧ Below w.heap.size w w' := by
  have hp0 : 0 < (10 : Int) ^ n := Int.pow_pos (by omega)
  have zc := zeros0_any hr (Dg_words X) (by omega)
  have dc := divMod_any hr hp (Dg_words X) (Dg_words _) (by omega) (by omega) (by rw [num_words (Int.le_of_lt hp0)]; exact hp0)
  rw [num_words h0] at zc dc
  rw [num_words (Int.le_of_lt hp0)] at dc
  have HZ := dv_low (X := X) (n := n)
  have hzl := zeros_le (X := X) (L := 3000000) h0 (by have := hr.1.1; omega)
  by_cases hz : zerosN X < n
  · have hd := HZ hz
    rw [hd]
    clear HZ dc
    go_enter Tryz.func189, Tryz.ntmps189
    go_wp2_with fail
    refine zc.mono ?_
    rintro e w' ⟨rfl, rfl⟩
    clear zc
    go_wp2
    go_ret2
    exact ⟨.slice none 0 0, rfl, fun h => absurd h (by decide), Below.refl _ _⟩
  · have hX : 0 < X := by
      by_cases q : X = 0
      · rw [q, zerosN_zero] at hz; omega
      · omega
    have HD : Hid (((words (X % 10 ^ n)).length == 0) = dv X n) := by
      show _ = _
      have r0 := Int.emod_nonneg X (show (10 : Int) ^ n ≠ 0 by omega)
      have := words_nil r0
      unfold dv
      by_cases q : X % 10 ^ n = 0
      · rw [show (words (X % 10 ^ n)).length = 0 from this.mpr q]; simp [hX, q]
      · have h9 : (words (X % 10 ^ n)).length ≠ 0 := fun z => q (this.mp z)
        simp [hX, q, h9]
    clear HZ
    go_enter Tryz.func189, Tryz.ntmps189
    go_wp2_with fail
    refine zc.mono ?_
    rintro e w' ⟨rfl, rfl⟩
    clear zc
    go_wp2_with fail
    refine dc.mono ?_
    rintro e w1 ⟨v1, v2, rfl, ho1, ho2, hb1, _⟩
    obtain ⟨ra, rc, rfl, _⟩ := ho2.readsC
    clear dc ho2
    have HD2 : Hid ((((words (X % 10 ^ n)).length : Int) == 0) = dv X n) := by
      show _ = _
      rw [← HD.out]
      generalize (words (X % 10 ^ n)).length = z
      by_cases q : z = 0
      · subst q; rfl
      · have e1 : ((z : Int) == 0) = false := by rw [beq_eq_false_iff_ne]; omega
        have e2 : (z == 0) = false := by rw [beq_eq_false_iff_ne]; omega
        rw [e1, e2]
    generalize (words (X % 10 ^ n)).length = z at *
    have hzz := HD2.out
    clear HD HD2
    go_wp2
    go_ret2
    exact ⟨v1, rfl, fun _ => ho1, hb1⟩
/-- what strip answers -/
def StripIs (X : Int) (n base : Nat) (w : World) (e : Ending) (w' : World) : Prop :=
  ∃ (v : Value) (U : Int) (k : Nat), e = .returned (.tuple #[v, .int .i64 ((k * n : Nat) : Int)]) ∧ 0 ≤ U ∧ X = U * 10 ^ (k * n) ∧ (X = 0 → k = 0) ∧ (0 < X → U % 10 ^ n ≠ 0) ∧ Own .u64 w' base 22 v (words U) ∧ Below w.heap.size w w'
def StripC (n : Nat) : Prop := ∀ (X : Int) (base : Nat) (w : World) (v : Value) (pa : Option Addr) (pl pc : Nat), 0 ≤ X → (words X).length ≤ 3000000 → base ≤ w.heap.size → Own .u64 w base 22 v (words X) → RowC w pa pl pc (words (10 ^ n)) → pl ≤ 4096 →
  Calls Tryz.prog 158 #[v, .slice pa pl pc, .int .i64 (n : Int)] w (StripIs X n base w)
/-- what stripSquare answers -/
def SquareIs (X : Int) (n base : Nat) (w : World) (e : Ending) (w' : World) : Prop :=
  ∃ (v : Value) (U : Int) (k : Nat), e = .returned (.tuple #[v, .int .i64 ((k * (2 * n) : Nat) : Int)]) ∧ 0 ≤ U ∧ X = U * 10 ^ (k * (2 * n)) ∧ Own .u64 w' base 22 v (words U) ∧ Below w.heap.size w w'
set_option maxHeartbeats 1600000 in
set_option maxRecDepth 100000 in
theorem square_any {n : Nat} (hn : 1 ≤ n) (hn9 : n ≤ 200000000) (ih : 2 * n ≤ 200000000 → StripC (2 * n)) {X : Int} {base : Nat} {w : World} {v : Value} {pa : Option Addr} {pl pc : Nat} (h0 : 0 ≤ X) (hL : (words X).length ≤ 3000000) (hbase : base ≤ w.heap.size) (ho : Own .u64 w base 22 v (words X)) (hp : RowC w pa pl pc (words (10 ^ n))) (hpl : pl ≤ 4096) :
    Calls Tryz.prog 190 #[v, .slice pa pl pc, .int .i64 (n : Int)] w (SquareIs X n base w) := by
  obtain ⟨a, c, rfl, hr⟩ := ho.readsC
  have hp0 : 0 < (10 : Int) ^ n := Int.pow_pos (by omega)
  have zc := zeros0_any hr (Dg_words X) (by omega)
  rw [num_words h0] at zc
  have hzl := zeros_le (X := X) (L := 3000000) h0 hL
  have mc := natMul_any hp hp (Dg_words _) (Dg_words _) (by omega) (by omega)
  rw [num_words (Int.le_of_lt hp0)] at mc
  have e2 : (10 : Int) ^ n * 10 ^ n = 10 ^ (2 * n) := by rw [← Int.pow_add]; congr 1; omega
  rw [e2] at mc
  have same : ∀ w', w = w' → SquareIs X n base w (.returned (.tuple #[.slice a (words X).length c, .int .i64 0])) w' := fun w' e => by
    subst e
    exact ⟨_, X, 0, by rw [Nat.zero_mul]; rfl, h0, by simp, ho, Below.refl _ _⟩
  have same2 : ∀ w', Below w.heap.size w w' → SquareIs X n base w (.returned (.tuple #[.slice a (words X).length c, .int .i64 0])) w' := fun w' e =>
    ⟨_, X, 0, by rw [Nat.zero_mul]; rfl, h0, by simp, ho.later e, e⟩
  have hlx := hr.1.1
  by_cases hz : zerosN X < 2 * (n : Int)
  · clear mc ih e2
    generalize (words X).length = lx at *
    go_enter Tryz.func190, Tryz.ntmps190
    go_wp2_with fail
    refine zc.mono ?_
    rintro e w' ⟨rfl, rfl⟩
    clear zc
    go_wp2
    go_ret2
    exact same _ rfl
  · have hst := ih (by omega)
    by_cases hE : resE (10 ^ (2 * n)) = 0
    · obtain ⟨el, eb⟩ := res_ok hE
      rw [hE, el] at mc
      generalize hlxx : (words X).length = lx at *
      go_enter Tryz.func190, Tryz.ntmps190
      go_wp2_with fail
      refine zc.mono ?_
      rintro e w' ⟨rfl, rfl⟩
      clear zc hE el
      go_wp2_with fail
      refine mc.mono ?_
      rintro e w1 ⟨v1, rfl, ho1, hb1⟩
      obtain ⟨qa, qc, rfl, hq1⟩ := ho1.readsC
      have hs1 := hst X base w1 (.slice a lx c) qa _ qc h0 (by omega) (Nat.le_trans hbase hb1.size) (ho.later hb1) hq1 eb
      clear mc hst ih
      generalize (words (10 ^ (2 * n))).length = ql at *
      have hcast : ((2 * n : Nat) : Int) = 2 * (n : Int) := by omega
      rw [hcast] at hs1
      go_wp2_with fail
      refine hs1.mono ?_
      rintro e w2 ⟨v2, U, k, rfl, hU, hX, _, _, ho2, hb2⟩
      have HF : SquareIs X n base w (.returned (.tuple #[v2, .int .i64 ((k * (2 * n) : Nat) : Int)])) w2 := ⟨v2, U, k, rfl, hU, hX, ho2, hb1.trans (hb2.mono hb1.size)⟩
      clear hX hs1
      go_wp2
      go_ret2
      exact HF
    · have q21 : resE (10 ^ (2 * n)) = 21 := by
        unfold resE at hE ⊢
        split at hE
        · exact absurd rfl hE
        · rename_i h; rw [if_neg h]
      rw [q21] at mc
      generalize (words X).length = lx at *
      go_enter Tryz.func190, Tryz.ntmps190
      go_wp2_with fail
      refine zc.mono ?_
      rintro e w' ⟨rfl, rfl⟩
      clear zc hE q21
      go_wp2_with fail
      refine mc.mono ?_
      rintro e w1 ⟨v1, rfl, ho1, hb1⟩
      clear mc hst ih
      go_wp2
      go_ret2
      exact same2 _ hb1
end Go.Proofs.YtceecgklgkiffaaGreatDoor

/- radix.strip, radix.Trim. -/
namespace Go.Proofs.YtceecgklgkiffaaGreatDoor
open Go.ChangeShapes Go.WideShapes Go.ChangeAt Go.RowKit
open Na Ar
set_option linter.unusedVariables false
namespace Na
/-- C tens are taken off -/
def Off10 (X U : Int) (n C : Nat) : Prop := 0 < U ∧ X = U * 10 ^ C ∧ ∃ k, C = k * n
theorem off_next {X U : Int} {n C : Nat} (h : Off10 X U n C) (hd : dv U n = true) : Off10 X (U / 10 ^ n) n (C + n) := by
  obtain ⟨h1, h2, k, h3⟩ := h
  obtain ⟨d1, d2, d3⟩ := dv_quot hd
  refine ⟨d2, ?_, k + 1, by rw [h3, Nat.succ_mul]⟩
  rw [h2, Nat.add_comm, Int.pow_add, ← Int.mul_assoc, ← d1]
theorem off_first {X U : Int} {n k : Nat} (hd : dv X n = true) (hU : 0 ≤ U) (h : X / 10 ^ n = U * 10 ^ (k * (2 * n))) : Off10 X U n (k * (2 * n) + n) := by
  obtain ⟨d1, d2, d3⟩ := dv_quot hd
  refine ⟨?_, ?_, 2 * k + 1, by rw [Nat.add_mul, Nat.one_mul, Nat.mul_comm 2 k, Nat.mul_assoc]⟩
  · by_cases q : U = 0
    · rw [q, Int.zero_mul] at h; omega
    · omega
  · rw [d1, h, Int.pow_add, Int.mul_assoc]
theorem off_bound {X U : Int} {n C : Nat} (h : Off10 X U n C) (h0 : 0 ≤ X) (hL : (words X).length ≤ 3000000) : C ≤ 192000000 := by
  have a := zeros_ge h.1 h.2.1
  have b := zeros_le (X := X) (L := 3000000) h0 hL
  omega
theorem off_le {X U : Int} {n C : Nat} (h : Off10 X U n C) : U ≤ X := by
  have p : (1 : Int) ≤ 10 ^ C := Int.pow_pos (by omega)
  have := Int.mul_le_mul_of_nonneg_left p (Int.le_of_lt h.1)
  rw [← h.2.1] at this
  omega
/-- not too many words -/
def Fits (X : Int) : Prop := (words X).length ≤ 3000000
end Na
set_option maxHeartbeats 3200000 in
set_option maxRecDepth 100000 in
theorem strip_step {n : Nat} (hn : 1 ≤ n) (hn9 : n ≤ 200000000) (ih : 2 * n ≤ 200000000 → StripC (2 * n)) : StripC n := by
  intro X base w v pa pl pc h0 hL hbase ho hp hpl
  obtain ⟨a, c, rfl, hr⟩ := ho.readsC
  have dc := divided_any h0 hr hL hp hpl hn (by omega)
  have HLX : Fits X := hL
  have hlx : 0 ≤ (words X).length := Nat.zero_le _
  cases hd : dv X n with
  | false =>
    have HF : ∀ w', Below w.heap.size w w' → StripIs X n base w (.returned (.tuple #[.slice a (words X).length c, .int .i64 0])) w' := fun w' hb =>
      ⟨_, X, 0, by rw [Nat.zero_mul]; rfl, h0, by simp, fun _ => rfl, fun q => dv_false hd q, ho.later hb, hb⟩
    rw [hd] at dc
    generalize (words X).length = lx at *
    go_enter Tryz.func158, Tryz.ntmps158
    go_wp2_with fail
    refine dc.mono ?_
    rintro e w1 ⟨v1, rfl, _, hb1⟩
    clear dc
    go_wp2
    go_ret2
    exact HF _ hb1
  | true =>
    obtain ⟨d1, d2, d3⟩ := dv_quot hd
    have hX0 := (dv_true hd).1
    rw [hd] at dc
    have hL1 : (words (X / 10 ^ n)).length ≤ 3000000 := Nat.le_trans (words_mono (Int.le_of_lt d2) d3) hL
    have HD : Hid (dv X n = true) := hd
    obtain ⟨Y, hY⟩ : ∃ Y, Y = X / 10 ^ n := ⟨_, rfl⟩
    have HY : Hid (X / 10 ^ n = Y) := hY.symm
    rw [← hY] at dc hL1 d2
    clear d1 d3 hd hY
    have hn0 : (0 : Int) ≤ (n : Int) := by omega
    generalize hlxx : (words X).length = lx at *
    clear hlxx hr ho hlx
    go_enter Tryz.func158, Tryz.ntmps158
    go_wp2_with fail
    refine dc.mono ?_
    rintro e w1 ⟨v1, rfl, ho1', hb1⟩
    have ho1 := (ho1' (by simp)).wider hbase
    have hp1 := hp.later hb1
    have sc := square_any hn hn9 ih (Int.le_of_lt d2) hL1 (Nat.le_trans hbase hb1.size) ho1 hp1 hpl
    obtain ⟨qa, qc, rfl, _⟩ := ho1.readsC
    clear dc ho1' hp ho1
    generalize (words Y).length = ly at *
    go_wp2_with fail
    refine sc.mono ?_
    rintro e w2 ⟨v2, U, k, rfl, hU, hUX, ho2, hb2⟩
    have hoff := off_first HD.out hU (HY.out.trans hUX)
    have hp2 := hp1.later hb2
    have hB2 := hb1.trans (hb2.mono hb1.size)
    have hcb := off_bound hoff h0 HLX
    obtain ⟨C, hC⟩ : ∃ C : Nat, C = k * (2 * n) := ⟨_, rfl⟩
    rw [← hC] at hoff hcb ⊢
    have hUL : (words U).length ≤ 3000000 := Nat.le_trans (words_mono (Int.le_of_lt hoff.1) (off_le hoff)) HLX
    have HOF : Hid (Off10 X U n (C + n)) := hoff
    obtain ⟨ua, uc, rfl, hu2⟩ := ho2.readsC
    have dc2 := divided_any hU hu2 hUL hp2 hpl hn (by omega)
    clear sc hUX hC hoff hp1 hu2
    generalize hul : (words U).length = lu at *
    go_wp2_with fail
    refine dc2.mono ?_
    rintro e w3 ⟨v3, rfl, ho3, hb3⟩
    have hp3 := hp2.later hb3
    have hB3 := hB2.trans (hb3.mono hB2.size)
    have ho23 := ho2.later hb3
    have ho33 : dv U n = true → Own .u64 w3 base 22 v3 (words (U / 10 ^ n)) := fun q => (ho3 q).wider (Nat.le_trans hbase hB2.size)
    clear dc2 ho3 ho2 hp2 hUL hul
    go_wp2
    go_loopw [0, 8, 9, 10] (fun x q ok c wr => ∃ (V : Int) (C : Nat), ok = .bool (dv V n) ∧ c = .int .i64 (C : Int) ∧ Hid (Off10 X V n C) ∧ Own .u64 wr base 22 x (words V) ∧ (dv V n = true → Own .u64 wr base 22 q (words (V / 10 ^ n))) ∧ Below w.heap.size w wr ∧ RowC wr pa pl pc (words (10 ^ n))) (fun _ _ _ c _ => 200000000 - (RowKit.intOf c).toNat)
    case atStart => exact ⟨U, C + n, rfl, by go_num, HOF, ho23, ho33, hB3, hp3⟩
    case round =>
      obtain ⟨V, C', rfl, rfl, hof, hov, hoq, hnx, hpr⟩ := hrel
      have hcb' := off_bound hof.out h0 HLX
      clear HOF ho23 ho33 hp3 hB3
      cases hdv : dv V n with
      | true =>
        have hnext := off_next hof.out hdv
        have HN : Hid (Off10 X (V / 10 ^ n) n (C' + n)) := hnext
        have hnb := off_bound hnext h0 HLX
        have hq := hoq hdv
        have hq0 := Int.le_of_lt hnext.1
        have hql : (words (V / 10 ^ n)).length ≤ 3000000 := Nat.le_trans (words_mono (Int.le_of_lt hnext.1) (off_le hnext)) HLX
        obtain ⟨V2, hV2⟩ : ∃ V2, V2 = V / 10 ^ n := ⟨_, rfl⟩
        rw [← hV2] at hq hql HN hq0
        clear hoq hov hof hnext hV2 hdv
        obtain ⟨xa, xc, rfl, hxr⟩ := hq.readsC
        have dc3 := divided_any hq0 hxr hql hpr hpl hn (by omega)
        clear hxr
        generalize hvl : (words V2).length = lv at *
        go_wp2_with fail
        refine dc3.mono ?_
        rintro e w5 ⟨v5, rfl, ho5, hb5⟩
        have hp5 := hpr.later hb5
        have hB5 := hnx.trans (hb5.mono hnx.size)
        have hoq5 := hq.later hb5
        have ho55 : dv V2 n = true → Own .u64 w5 base 22 v5 (words (V2 / 10 ^ n)) := fun q => (ho5 q).wider (Nat.le_trans hbase hnx.size)
        clear dc3 ho5 hq hpr hnx hql hvl
        go_wp2
        go_roundw
        case rel => exact ⟨V2, C' + n, rfl, by go_num, HN, hoq5, ho55, hB5, hp5⟩
        case measure => simp [RowKit.intOf]; omega
      | false =>
        obtain ⟨o1, o2, kk, o3⟩ := hof.out
        have HF : ∀ v' w', Own .u64 w' base 22 v' (words V) → Below w.heap.size w w' → StripIs X n base w (.returned (.tuple #[v', .int .i64 (C' : Int)])) w' := fun v' w' ho hb =>
          ⟨v', V, kk, by rw [o3], Int.le_of_lt o1, by rw [← o3]; exact o2, fun q => by omega, fun _ => dv_false hdv o1, ho, hb⟩
        have HX : Hid (0 < X) := hX0
        obtain ⟨xa, xc, rfl, _⟩ := hov.readsC
        have HFF := HF _ _ hov hnx
        clear hof hoq o2 o3 hdv HF hov
        generalize (words V).length = lv at *
        go_wp2
        go_ret2
        exact HFF
theorem strip_all : ∀ (f n : Nat), 1 ≤ n → n ≤ 200000000 → 200000000 ≤ n + f → StripC n := by
  intro f
  induction f with
  | zero => intro n h1 h2 h3; exact strip_step h1 h2 (fun q => by omega)
  | succ f ih => intro n h1 h2 h3; exact strip_step h1 h2 (fun q => ih (2 * n) (by omega) q (by omega))
/-- what Trim answers -/
def Trimmed (X : Int) (w : World) (e : Ending) (w' : World) : Prop :=
  ∃ (v : Value) (U : Int) (k : Nat), e = .returned (.tuple #[v, .int .i64 (k : Int)]) ∧ 0 ≤ U ∧ X = U * 10 ^ k ∧ (X = 0 → k = 0) ∧ (0 < X → U % 10 ≠ 0) ∧ Own .u64 w' w.heap.size 22 v (words U) ∧ Below w.heap.size w w'
set_option maxHeartbeats 1600000 in
set_option maxRecDepth 100000 in
theorem trim10_any {a : Option Addr} {l c : Nat} {xs : List Int} {w : World} (hr : RowC w a l c xs) (hw : Ws xs) (hl : l ≤ 3000000) :
    Calls Tryz.prog 118 #[.slice a l c] w (Trimmed (num xs) w) := by
  have nc := natNorm_any hr hw (by omega)
  have h0 := num_nonneg hw
  have hlen : (words (num xs)).length ≤ 3000000 := by
    have := words_len hw
    have := hr.1.1
    omega
  have fc := fun w => natFrom_any (v := 10) (by omega) w
  have sc := strip_all 199999999 1 (by omega) (by omega) (by omega)
  unfold StripC at sc
  generalize num xs = X at *
  go_enter Tryz.func118, Tryz.ntmps118
  go_wp2_with fail
  refine nc.mono ?_
  rintro e w1 ⟨v1, rfl, ho1, hb1⟩
  obtain ⟨xa, xc, rfl, _⟩ := ho1.readsC
  clear nc
  go_wp2_with fail
  refine (fc _).mono ?_
  rintro e w2 ⟨v2, rfl, ho2, hb2⟩
  obtain ⟨pa, pc, rfl, hp2⟩ := ho2.readsC
  have hB2 := hb1.trans (hb2.mono hb1.size)
  have w10 : (words 10).length ≤ 4096 := bits_words (P := 10) (β := 64) (by omega) (by decide) (by omega)
  have ss := sc X w.heap.size w2 _ pa _ pc h0 hlen hB2.size (ho1.later hb2) hp2 w10
  clear fc sc ho2 w10 ho1
  generalize (words 10).length = lp at *
  generalize (words X).length = lx at *
  go_wp2_with fail
  refine ss.mono ?_
  rintro e w3 ⟨v3, U, k, rfl, hU, hX, hz, hnz, ho3, hb3⟩
  rw [Nat.mul_one] at hX ⊢
  have HF : Trimmed X w (.returned (.tuple #[v3, .int .i64 (k : Int)])) w3 := ⟨v3, U, k, rfl, hU, hX, hz, by rw [Int.pow_one] at hnz; exact hnz, ho3, hB2.trans (hb3.mono hB2.size)⟩
  clear ss hX hz hnz ho3
  go_wp2
  go_ret2
  exact HF
end Go.Proofs.YtceecgklgkiffaaGreatDoor

/- radix.Count. -/
namespace Go.Proofs.YtceecgklgkiffaaGreatDoor
open Go.ChangeShapes Go.WideShapes Go.ChangeAt Go.RowKit
open Na Ar
set_option linter.unusedVariables false
namespace Na
theorem conv_fact : ∀ A B N : Nat, A = 97879 → B = 325147 → N = 1000000 → Nat.ble (10 ^ A) (2 ^ B) = true ∧ Nat.ble (2 ^ B * N) (10 ^ A * (N + 1)) = true := by
  intro A B N h1 h2 h3
  subst h1 h2 h3
  constructor
  · kernel_rfl
  · kernel_rfl
theorem bern {N : Nat} : ∀ b : Nat, b ≤ N → (N + 1) ^ b * (N - b) ≤ N ^ b * N := by
  intro b
  induction b with
  | zero => intro _; simp
  | succ b ih =>
    intro h
    have i := ih (by omega)
    have k : (N + 1) * (N - (b + 1)) ≤ N * (N - b) := by
      obtain ⟨c, hc⟩ : ∃ c, N = c + (b + 1) := ⟨N - (b + 1), by omega⟩
      have e1 : N - (b + 1) = c := by omega
      have e2 : N - b = c + 1 := by omega
      rw [e1, e2, Nat.add_mul, Nat.mul_add]
      omega
    calc (N + 1) ^ (b + 1) * (N - (b + 1)) = (N + 1) ^ b * ((N + 1) * (N - (b + 1))) := by rw [Nat.pow_succ, Nat.mul_assoc]
      _ ≤ (N + 1) ^ b * (N * (N - b)) := Nat.mul_le_mul_left _ k
      _ = N * ((N + 1) ^ b * (N - b)) := by rw [← Nat.mul_assoc, Nat.mul_comm _ N, Nat.mul_assoc]
      _ ≤ N * (N ^ b * N) := Nat.mul_le_mul_left _ i
      _ = N ^ (b + 1) * N := by rw [Nat.pow_succ, ← Nat.mul_assoc, Nat.mul_comm N (N ^ b)]
/-- a convergent a/b of log 2: what is below, what is above -/
theorem conv_low {A B P Q : Nat} (hB : 0 < B) (h : 10 ^ A ≤ 2 ^ B) (hT : P * B ≤ Q * A) : 10 ^ P ≤ 2 ^ Q := by
  have a : (10 ^ P) ^ B ≤ (2 ^ Q) ^ B := by
    calc (10 ^ P) ^ B = 10 ^ (P * B) := by rw [← Nat.pow_mul]
      _ ≤ 10 ^ (Q * A) := Nat.pow_le_pow_right (by omega) hT
      _ = (10 ^ A) ^ Q := by rw [← Nat.pow_mul, Nat.mul_comm]
      _ ≤ (2 ^ B) ^ Q := Nat.pow_le_pow_left h Q
      _ = (2 ^ Q) ^ B := by rw [← Nat.pow_mul, ← Nat.pow_mul, Nat.mul_comm]
  exact (Nat.pow_le_pow_iff_left (by omega)).mp a
theorem conv_high {A B P Q N : Nat} (hB : 0 < B) (h : 2 ^ B * N ≤ 10 ^ A * (N + 1)) (hT : Q * A < P * B) (hQ : 2 * Q ≤ N) (hN : 0 < N) : 2 ^ Q < 10 ^ P := by
  have a : (2 ^ Q) ^ B < (10 ^ P) ^ B := by
    have p1 : ((2 : Nat) ^ B) ^ Q * N ^ Q ≤ (10 ^ A) ^ Q * (N + 1) ^ Q := by
      rw [← Nat.mul_pow, ← Nat.mul_pow]
      exact Nat.pow_le_pow_left h Q
    have b := bern (N := N) Q (by omega)
    -- (N + 1)^Q * N ≤ 2 * N^Q * N
    have b2 : (N + 1) ^ Q ≤ 2 * N ^ Q := by
      have m : (N + 1) ^ Q * N ≤ 2 * N ^ Q * N := by
        have c : (N + 1) ^ Q * N ≤ (N + 1) ^ Q * (2 * (N - Q)) := Nat.mul_le_mul_left _ (by omega)
        calc (N + 1) ^ Q * N ≤ (N + 1) ^ Q * (2 * (N - Q)) := c
          _ = 2 * ((N + 1) ^ Q * (N - Q)) := by rw [← Nat.mul_assoc, Nat.mul_comm _ 2, Nat.mul_assoc]
          _ ≤ 2 * (N ^ Q * N) := Nat.mul_le_mul_left _ b
          _ = 2 * N ^ Q * N := by rw [Nat.mul_assoc]
      exact Nat.le_of_mul_le_mul_right m hN
    have pN : 0 < N ^ Q := Nat.pow_pos hN
    have p3 : ((2 : Nat) ^ B) ^ Q * N ^ Q ≤ (10 ^ A) ^ Q * 2 * N ^ Q := by
      calc ((2 : Nat) ^ B) ^ Q * N ^ Q ≤ (10 ^ A) ^ Q * (N + 1) ^ Q := p1
        _ ≤ (10 ^ A) ^ Q * (2 * N ^ Q) := Nat.mul_le_mul_left _ b2
        _ = (10 ^ A) ^ Q * 2 * N ^ Q := by rw [Nat.mul_assoc]
    have p4 := Nat.le_of_mul_le_mul_right p3 pN
    have pt : 0 < ((10 : Nat) ^ A) ^ Q := Nat.pow_pos (Nat.pow_pos (by omega))
    calc ((2 : Nat) ^ Q) ^ B = (2 ^ B) ^ Q := by rw [← Nat.pow_mul, ← Nat.pow_mul, Nat.mul_comm]
      _ ≤ (10 ^ A) ^ Q * 2 := p4
      _ < (10 ^ A) ^ Q * 10 := by omega
      _ = 10 ^ (Q * A + 1) := by rw [← Nat.pow_mul, Nat.mul_comm A Q, Nat.pow_succ]
      _ ≤ 10 ^ (P * B) := Nat.pow_le_pow_right (by omega) (by omega)
      _ = (10 ^ P) ^ B := by rw [← Nat.pow_mul]
  exact (Nat.pow_lt_pow_iff_left (by omega)).mp a
theorem tens_gen {A B N β T : Nat} (hl : Nat.ble (10 ^ A) (2 ^ B) = true) (hh : Nat.ble (2 ^ B * N) (10 ^ A * (N + 1)) = true) (hB : 0 < B) (hN : 0 < N) (hT : T * B ≤ β * A) (hT2 : β * A < (T + 1) * B) (hβ : 2 * β ≤ N) : 10 ^ T ≤ 2 ^ β ∧ 2 ^ β < 10 ^ (T + 1) :=
  ⟨conv_low hB (Nat.ble_eq.mp hl) hT, conv_high hB (Nat.ble_eq.mp hh) hT2 hβ hN⟩
theorem tens_nat {β T : Nat} (hT : T = β * 97879 / 325147) (hβ : β ≤ 300000) : 10 ^ T ≤ 2 ^ β ∧ 2 ^ β < 10 ^ (T + 1) := by
  obtain ⟨A, hA⟩ : ∃ A : Nat, A = 97879 := ⟨_, rfl⟩
  obtain ⟨B, hB⟩ : ∃ B : Nat, B = 325147 := ⟨_, rfl⟩
  obtain ⟨N, hN⟩ : ∃ N : Nat, N = 1000000 := ⟨_, rfl⟩
  obtain ⟨h1, h2⟩ := conv_fact A B N hA hB hN
  exact tens_gen h1 h2 (by omega) (by omega) (by rw [hA, hB]; omega) (by rw [hA, hB]; omega) (by omega)
theorem tens_int {β T : Nat} (hT : T = β * 97879 / 325147) (hβ : β ≤ 300000) : (10 : Int) ^ T ≤ 2 ^ β ∧ (2 : Int) ^ β < 10 ^ (T + 1) := by
  obtain ⟨h1, h2⟩ := tens_nat hT hβ
  have c10 : ∀ k : Nat, ((10 ^ k : Nat) : Int) = (10 : Int) ^ k := fun k => by simp
  rw [← c10, ← c10, ← p2cast]
  exact ⟨by omega, by omega⟩
theorem ten_less {n : Nat} (h : n ≤ 78913) : (10 : Int) ^ n < 2 ^ 262144 := by
  have a : (10 : Int) ^ n ≤ 10 ^ 78913 := ipow_mono (by omega) h
  have l := pow_lt (b := 10) (m := 78913) (n := n) (K := 4096) (by omega) ten_most h
  have := l.2
  rw [show (18446744073709551616 : Int) = 2 ^ 64 by decide, ← Int.pow_mul] at this
  exact this
/-- so many digits -/
def CountIs (X d : Int) : Prop := (X = 0 ∧ d = 1) ∨ ∃ n : Nat, d = n + 1 ∧ 10 ^ n ≤ X ∧ X < 10 ^ (n + 1)
theorem count_pow {s : Nat} {d : Int} (h : CountIs (10 ^ s) d) : d = s + 1 := by
  have p : (0 : Int) < 10 ^ s := Int.pow_pos (by omega)
  rcases h with ⟨h, _⟩ | ⟨n, h1, h2, h3⟩
  · omega
  · have a : ¬ s < n := fun q => by
      have := ipow_mono (X := 10) (by omega) (show s + 1 ≤ n by omega)
      rw [Int.pow_succ] at this
      omega
    have b : ¬ n < s := fun q => by
      have := ipow_mono (X := 10) (by omega) (show n + 1 ≤ s by omega)
      omega
    omega
end Na
end Go.Proofs.YtceecgklgkiffaaGreatDoor

/- plumbref04.take: by a small number, from the top. -/
namespace Go.Proofs.YtceecgklgkiffaaGreatDoor
open Go.ChangeShapes Go.WideShapes Go.ChangeAt Go.RowKit
open Na Ar
set_option linter.unusedVariables false
namespace Na
theorem strip_strip (xs : List Int) : strip (strip xs) = strip xs := by
  obtain ⟨n, hn⟩ : ∃ n, xs.length = n := ⟨_, rfl⟩
  induction n generalizing xs with
  | zero => rw [List.length_eq_zero_iff.mp hn]; rfl
  | succ n ih =>
    have hne : xs ≠ [] := by intro q; rw [q] at hn; simp at hn
    have e := List.dropLast_concat_getLast hne
    rw [← e]
    by_cases q : xs.getLast hne = 0
    · rw [q, strip_zero_end]; exact ih _ (by simp; omega)
    · rw [strip_end _ _ q, strip_end _ _ q]
/-- what is divided from place j on -/
def TkI (ls : List Int) (m : Int) (j : Nat) (qs : List Int) (R : Int) : Prop :=
  qs.length = ls.length - j ∧ Dg 4294967296 qs ∧ val 4294967296 (ls.drop j) = m * val 4294967296 qs + R ∧ 0 ≤ R ∧ R < m
theorem tk_start {ls : List Int} {m : Int} (hm : 1 ≤ m) : TkI ls m ls.length [] 0 := by
  refine ⟨by simp, Dg.nil _, by simp [val], by omega, by omega⟩
theorem tk_step {ls qs : List Int} {m R : Int} {k : Nat} (h : TkI ls m (k + 1) qs R) (hk : k < ls.length) (hd : Dg 4294967296 ls) (hm : 1 ≤ m) : TkI ls m k ((4294967296 * R + ls.getD k 0) / m :: qs) ((4294967296 * R + ls.getD k 0) % m) := by
  obtain ⟨h1, h2, h3, h4, h5⟩ := h
  have gd := hd.get hk
  have e : ls.drop k = ls.getD k 0 :: ls.drop (k + 1) := by
    rw [List.drop_eq_getElem_cons hk, List.getD_eq_getElem?_getD, List.getElem?_eq_getElem hk]; rfl
  generalize ls.getD k 0 = x at *
  have q := Int.mul_ediv_add_emod (4294967296 * R + x) m
  have q0 : 0 ≤ (4294967296 * R + x) / m := Int.ediv_nonneg (by omega) (by omega)
  have q1 : (4294967296 * R + x) / m < 4294967296 := by
    refine Int.ediv_lt_of_lt_mul (by omega) ?_
    have := Int.mul_le_mul_of_nonneg_left (show R + 1 ≤ m by omega) (show (0 : Int) ≤ 4294967296 by omega)
    omega
  refine ⟨by simp; omega, ?_, ?_, Int.emod_nonneg _ (by omega), Int.emod_lt_of_pos _ (by omega)⟩
  · intro y hy
    rcases List.mem_cons.mp hy with rfl | hy
    · exact ⟨q0, q1⟩
    · exact h2 y hy
  · rw [e]
    show x + 4294967296 * val 4294967296 (ls.drop (k + 1)) = m * ((4294967296 * R + x) / m + 4294967296 * val 4294967296 qs) + _
    rw [h3]
    generalize (4294967296 * R + x) / m = Q at *
    generalize (4294967296 * R + x) % m = S at *
    generalize val 4294967296 qs = V at *
    have : m * (Q + 4294967296 * V) = m * Q + 4294967296 * (m * V) := by rw [Int.mul_add, ← Int.mul_assoc, Int.mul_comm m 4294967296, Int.mul_assoc]
    rw [this]
    omega
theorem tk_set {ls qs : List Int} {k : Nat} (hk : k < ls.length) (y : Int) : (ls.take (k + 1) ++ qs).set k y = ls.take k ++ y :: qs := by
  have l : (ls.take k).length = k := by rw [List.length_take]; omega
  rw [take_next hk, List.append_assoc, List.set_append_right _ _ (by omega), l, Nat.sub_self]
  simp
theorem tk_get {ls qs : List Int} {k : Nat} (hk : k < ls.length) : (ls.take (k + 1) ++ qs).getD k 0 = ls.getD k 0 := by
  have l : (ls.take k).length = k := by rw [List.length_take]; omega
  rw [take_next hk, List.append_assoc, List.getD_eq_getElem?_getD, List.getElem?_append_right (by omega), l, Nat.sub_self]
  simp
theorem tk_length {ls qs : List Int} {m R : Int} {j : Nat} (h : TkI ls m j qs R) (hj : j ≤ ls.length) : (ls.take j ++ qs).length = ls.length := by
  rw [List.length_append, List.length_take, h.1]; omega
theorem or_hi {R x : Int} (hR : 0 ≤ R ∧ R < 4294967296) (hx : 0 ≤ x ∧ x < 4294967296) : bits .or .u64 (R * 4294967296) x = 4294967296 * R + x := by
  have h := or_join (x := R) hx
  rw [wrapU, show R * 4294967296 % 18446744073709551616 = R * 4294967296 by omega] at h
  rw [h]; omega
end Na
set_option maxHeartbeats 1000000 in
set_option maxRecDepth 100000 in
theorem take4_any {g cap N base : Nat} {ls : List Int} {m : Int} {w : World} (hown : Own .u64 w base 22 (.slice (some ⟨g, 0, none⟩) N cap) ls) (hN : N = ls.length) (hd : Dg 4294967296 ls) (hm : 1 ≤ m) (hm9 : m < 4294967296) (hN' : N ≤ 6000000) :
    Calls Tryz.prog 130 #[.slice (some ⟨g, 0, none⟩) N cap, .int .u64 m] w fun e w' => ∃ (n : Nat) (us : List Int), e = .returned (.tuple #[.slice (some ⟨g, 0, none⟩) n cap, .int .u64 (val 4294967296 ls % m)]) ∧ (Own .u64 w' base 22 (.slice (some ⟨g, 0, none⟩) n cap) us ∧ n = us.length ∧ n ≤ N ∧ Dg 4294967296 us ∧ val 4294967296 us = val 4294967296 ls / m ∧ strip us = us) ∧ In g (g + 1) w w' := by
  have HN : Hid (N = ls.length) := hN
  have hst : Own .u64 w base 22 (.slice (some ⟨g, 0, none⟩) N cap) (ls.take N ++ []) := by
    rw [hN, List.take_of_length_le (Nat.le_refl _), List.append_nil, ← hN]; exact hown
  have hti : TkI ls m N [] 0 := by rw [hN]; exact tk_start hm
  have hm0 : (m == 0) = false := by rw [beq_eq_false_iff_ne]; omega
  have hii := In.refl g (g + 1) w
  clear hN
  go_enter Tryz.func130, Tryz.ntmps130
  go_wp2
  go_loopw [6, 7, 8] (fun r i _ wr => ∃ (j : Nat) (I R : Int) (qs : List Int), i = .int .i64 I ∧ I = (j : Int) - 1 ∧ r = .int .u64 R ∧ j ≤ N ∧ Hid (TkI ls m j qs R) ∧ Own .u64 wr base 22 (.slice (some ⟨g, 0, none⟩) N cap) (ls.take j ++ qs) ∧ In g (g + 1) w wr) (fun _ i _ _ => (RowKit.intOf i + 1).toNat)
  case atStart => exact ⟨N, _, 0, [], rfl, rfl, rfl, Nat.le_refl _, hti, hst, hii⟩
  case round =>
    obtain ⟨j, I, R, qs, rfl, hI, rfl, hj, htk, hou, hnx⟩ := hrel
    clear hown hst hii hti
    have hlu := tk_length htk.out (by have := HN.out; omega)
    cases j with
    | zero =>
      have hneg : I < 0 := by omega
      clear hI
      obtain ⟨t1, t2, t3, t4, t5⟩ := htk.out
      rw [List.take_zero, List.nil_append] at hou hlu
      rw [List.drop_zero] at t3
      have hqN : N = qs.length := by rw [hlu]; exact HN.out
      have hq : val 4294967296 qs = val 4294967296 ls / m := by
        rw [t3, Int.add_comm, Int.add_mul_ediv_left _ _ (by omega), Int.ediv_eq_zero_of_lt t4 t5, Int.zero_add]
      have hr : R = val 4294967296 ls % m := by
        rw [t3, Int.add_comm, Int.add_mul_emod_self_left, Int.emod_eq_of_lt t4 t5]
      have HR : Hid (R = val 4294967296 ls % m) := hr
      have cc := cut4_any (hou.rowC hqN) (by omega)
      have HQN : Hid (N = qs.length) := hqN
      have HQ : Hid (val 4294967296 qs = val 4294967296 ls / m) := hq
      clear t1 t3 t4 t5 hlu htk hr hqN hq
      go_wp2_with fail
      refine cc.mono ?_
      rintro e w' ⟨n, rfl, ⟨hnN, hns⟩, rfl⟩
      have hss := strip_strip qs
      have hfin : ∃ us, Own .u64 wr base 22 (.slice (some ⟨g, 0, none⟩) n cap) us ∧ n = us.length ∧ n ≤ N ∧ Dg 4294967296 us ∧ val 4294967296 us = val 4294967296 ls / m ∧ strip us = us := by
        refine ⟨strip qs, ?_, ?_, hnN, ?_, by rw [strip_val]; exact HQ.out, hss⟩
        · rw [hns]
          have hc := hou
          rw [HQN.out] at hc
          exact hc.cut (by have := HQN.out; omega)
        · rw [hns, List.length_take]; have := HQN.out; omega
        · rw [hns]; exact fun y hy => t2 y (List.mem_of_mem_take hy)
      obtain ⟨us, hus'⟩ := hfin
      have hus : Hid _ := hus'
      clear hus'
      have hRR := HR.out
      clear cc hss hns hou HR
      subst hRR
      go_wp2
      go_ret2
      exact ⟨n, us, rfl, hus.out, hnx⟩
    | succ k =>
      have hI' : I = (k : Int) := by omega
      clear hI
      subst hI'
      have hkl : k < ls.length := by have := HN.out; omega
      have hnext := tk_step htk.out hkl hd hm
      obtain ⟨t1, t2, t3, t4, t5⟩ := htk.out
      have gd := hd.get hkl
      have hlN : N = (ls.take (k + 1) ++ qs).length := by rw [hlu]; exact HN.out
      have hce := hou.cellAt hlN (j := k) (by omega)
      rw [tk_get hkl] at hce
      have hfz := hou.frozenAt hlN k
      have hset := hou.set hlN k ((4294967296 * R + ls.getD k 0) / m)
      rw [tk_set hkl] at hset
      have hor := or_hi (R := R) (x := ls.getD k 0) ⟨t4, by omega⟩ gd
      have HNX : Hid (TkI ls m k ((4294967296 * R + ls.getD k 0) / m :: qs) ((4294967296 * R + ls.getD k 0) % m)) := hnext
      have q0 : 0 ≤ 4294967296 * R + ls.getD k 0 := by omega
      have q9 : 4294967296 * R + ls.getD k 0 < 18446744073709551616 := by omega
      generalize ls.getD k 0 = x at *
      generalize 4294967296 * R + x = v at *
      have r0 := Int.emod_nonneg v (show m ≠ 0 by omega)
      have r1 := Int.emod_lt_of_pos v (show 0 < m by omega)
      have d0 : 0 ≤ v / m := Int.ediv_nonneg q0 (by omega)
      have d1 : v / m ≤ v := Int.ediv_le_self m q0
      clear hnext htk hou hlN hlu t1 t2 t3
      go_wp2
      go_roundw
      case rel => exact ⟨k, _, _, _, rfl, rfl, rfl, by omega, HNX, hset, hnx.set1 _ _⟩
      case measure => simp [RowKit.intOf]
end Go.Proofs.YtceecgklgkiffaaGreatDoor

/- plumbref04.limbs: words cut into halves. -/
namespace Go.Proofs.YtceecgklgkiffaaGreatDoor
open Go.ChangeShapes Go.WideShapes Go.ChangeAt Go.RowKit
open Na Ar
set_option linter.unusedVariables false
theorem step_append_two {P : Program} {ops : Array Oper} {o : Oper} {a : Act} {w : World} {K : Act → World → Prop} {Q : Exit → Act → World → Prop} {E : Prop}
    (hg : o.guard = none) (s x : Operand) (t : TypeId) (hop : o.op = Op.call { callee := Callee.builtin Builtin.append, args := #[s, x], argTypes := #[t, t] })
    (base : Nat) (e : TypeId) (i : TypeInfo) (z : Value) (size bytes : Nat) (h1 : P.underlying t = some (.slice e)) (h2 : P.info? e = some i) (h3 : i.zero = some z) (h4 : i.size = size) (h5 : i.bytes = bytes) (h6 : z.cells.size = size) (h7 : 0 < size)
    (v : Value) (n : Nat) (xs : List Value) (hs : a.eval s = v) (hown : w.ownsRow base e size v n xs)
    (ad : Addr) (m c : Nat) (news : List Value) (hx : a.eval x = .slice (some ad) m c) (hn : news.length = m * size) (hc : ∀ j u, news[j]? = some u → w.cell? (ad.add j) = some u) (h1c : ∀ u ∈ news, u.oneCell' = true)
    (b1 : n + m ≤ maxLen) (b2 : (n + m) * bytes ≤ 140737488355328) (hbase : base ≤ w.heap.size)
    (hK : ∀ v' w', w'.ownsRow base e size v' (n + m) (xs ++ news) → w.grownBy w' v.ownBlock → K (a.put o.dst v') w') :
    if Region.wanted o (yielded ops a.tmps) = true then Oper.wp P o a w K Q else E := by
  have hw : Region.wanted o (yielded ops a.tmps) = true := by simp [Region.wanted, hg]
  rw [if_pos hw]
  exact wp_append_own w s x t hop base e i z size bytes h1 h2 h3 h4 h5 h6 h7 v n xs hs hown ad m c news hx hn hc h1c b1 b2 hbase fun v' w' h2 h3 _ => hK v' w' h2 h3
theorem two_newL {wr : World} {e : TypeId} {v u0 : Value} : ∀ j u, ([v, u0] : List Value)[j]? = some u → (wr.alloc (.cells #[v, u0] e)).cell? ((⟨wr.heap.size, 0, none⟩ : Addr).add j) = some u := by
  intro j u hj
  match j, hj with
  | 0, hj => simp at hj; subst hj; simp [Addr.add]
  | 1, hj => simp at hj; subst hj; simp [Addr.add]
theorem two_cellL {k : IntKind} {x y : Int} : ∀ u ∈ [Value.int k x, Value.int k y], u.oneCell' = true := by
  intro u hu; simp at hu; rcases hu with rfl | rfl <;> rfl
theorem own_two {w1 : World} {base : Nat} {e : TypeId} {k : IntKind} {v : Value} {n : Nat} {xs : List Int} {x y : Int} (h : w1.ownsRow base e 1 v (n + 2) (xs.map (Value.int k) ++ [.int k x, .int k y])) (hn : n = xs.length) : Own k w1 base e v (xs ++ [x, y]) := by
  subst hn; unfold Own; rw [List.map_append, List.length_append]; exact h
namespace Na
/-- the halves of the first k words -/
def spW (xs : List Int) : Nat → List Int
  | 0 => []
  | k + 1 => spW xs k ++ [xs.getD k 0 % 4294967296, xs.getD k 0 / 4294967296]
theorem spW_length (xs : List Int) (k : Nat) : (spW xs k).length = 2 * k := by
  induction k with
  | zero => rfl
  | succ k ih => simp [spW, ih]; omega
theorem spW_dg {xs : List Int} (h : Ws xs) (k : Nat) : Dg 4294967296 (spW xs k) := by
  induction k with
  | zero => exact Dg.nil _
  | succ k ih =>
    refine ih.append ?_
    have g : 0 ≤ xs.getD k 0 ∧ xs.getD k 0 < 18446744073709551616 := by
      by_cases hk : k < xs.length
      · exact h.get hk
      · have e : xs.getD k 0 = 0 := by rw [List.getD_eq_getElem?_getD, List.getElem?_eq_none (by omega)]; rfl
        rw [e]; omega
    generalize xs.getD k 0 = x at *
    intro y hy
    simp at hy
    rcases hy with rfl | rfl <;> omega
theorem spW_val (xs : List Int) (k : Nat) (hk : k ≤ xs.length) : val 4294967296 (spW xs k) = num (xs.take k) := by
  induction k with
  | zero => simp [spW, num, val]
  | succ k ih =>
    show val _ (spW xs k ++ _) = _
    rw [val_append, ih (by omega), spW_length, take_next (by omega)]
    show _ = val _ (xs.take k ++ _)
    rw [val_append]
    have l : (xs.take k).length = k := by rw [List.length_take]; omega
    rw [l]
    have p : (18446744073709551616 : Int) ^ k = 4294967296 ^ (2 * k) := by rw [Int.pow_mul]; rfl
    rw [p]
    have q := Int.mul_ediv_add_emod (xs.getD k 0) 4294967296
    congr 1
    congr 1
    simp [val]
    omega
end Na
/-- limbs of a number, none of them 0 at the end -/
def LimbsOf (w : World) (base : Nat) (a : Option Addr) (n c : Nat) (us : List Int) (V : Int) : Prop := Own .u64 w base 22 (.slice a n c) us ∧ n = us.length ∧ Dg 4294967296 us ∧ val 4294967296 us = V ∧ strip us = us
set_option maxHeartbeats 1600000 in
set_option maxRecDepth 100000 in
theorem limbs4_any {a : Option Addr} {n cap : Nat} {xs : List Int} {w : World} (hrow : RowC w a n cap xs) (hw : Ws xs) (hn : n ≤ 2500000) :
    Calls Tryz.prog 129 #[.slice a n cap] w fun e w' => ∃ (va : Option Addr) (l c : Nat) (us : List Int), e = .returned (.slice va l c) ∧ (LimbsOf w' w.heap.size va l c us (num xs) ∧ l ≤ 2 * n) ∧ Below w.heap.size w w' := by
  obtain ⟨i_u64, hi_u64, hz0_u64, hz1_u64, hz2_u64⟩ := info_parts info_u64
  have HN : Hid (xs.length = n) := hrow.1.1
  have hjl := fun k => spW_length xs k
  go_enter Tryz.func129, Tryz.ntmps129
  go_wp2
  go_loopw [3, 4] (fun v i wr => ∃ k : Nat, i = .int .i64 (k : Int) ∧ k ≤ n ∧ Own .u64 wr w.heap.size 22 v (spW xs k) ∧ Below w.heap.size w wr) (fun _ i _ => n - (RowKit.intOf i).toNat)
  case atStart => exact ⟨0, rfl, by omega, own_nil _ _ _ _, Below.refl _ _⟩
  case round =>
    obtain ⟨k, rfl, hk, hov, hnx⟩ := hrel
    have hsz := hnx.size
    have hlk := hjl k
    by_cases hlt : k < n
    · obtain ⟨b, off, rfl, hbB, hc⟩ := hrow.1.at (by omega)
      have c0 := (hnx.cell (p := ⟨b, off + k, none⟩) hbB).trans (hc k hlt)
      have d0 := hw.get (show k < xs.length by rw [HN.out]; exact hlt)
      have HJ : Hid (spW xs (k + 1) = spW xs k ++ [xs.getD k 0 % 4294967296, xs.getD k 0 / 4294967296]) := rfl
      generalize xs.getD k 0 = x at *
      have hand : bits .and .u64 x 4294967295 = x % 4294967296 := and_half d0
      have e0 : 0 ≤ x / 4294967296 := by omega
      have e1 : x / 4294967296 < 4294967296 := by omega
      clear hc hjl
      go_wp2
      go_region_law (refine step_append_two rfl (.tmp 11) (.tmp 22) 30 rfl w.heap.size 22 i_u64 (.int .u64 0) 1 8 Tryz.underlying30 hi_u64 hz0_u64 hz1_u64 hz2_u64 rfl (by decide) _ _ _ rfl (hov.row.alloc _) ⟨wr.heap.size, 0, none⟩ 2 2 [.int .u64 (x % 4294967296), .int .u64 (x / 4294967296)] rfl rfl two_newL two_cellL (by unfold maxLen; omega) (by omega) (by simp; omega) ?_; intro v' w1 hown' hgrow)
      all_goals
        have hb' := grow_below (o := .cells #[.int .u64 (x % 4294967296), .int .u64 (x / 4294967296)] 22) hsz hov.row hnx ⟨hgrow.os, hgrow.tape, hgrow.output, hgrow.size, hgrow.block⟩
        have ho' := own_two hown' (by omega)
        rw [← HJ.out] at ho'
        clear hown' hgrow hov hnx
        go_wp2
        go_roundw
        case rel => exact ⟨k + 1, by go_num, by omega, ho', hb'⟩
        case measure => simp [RowKit.intOf]; omega
    · have hkn : k = n := by omega
      have hv := spW_val xs k (by rw [HN.out]; exact hk)
      rw [List.take_of_length_le (by rw [HN.out]; omega)] at hv
      have HV : Hid (val 4294967296 (spW xs k) = num xs) := hv
      have hdg := spW_dg hw k
      obtain ⟨va, vc, rfl, hvr⟩ := hov.readsC
      have HLK : Hid ((spW xs k).length = 2 * k) := hlk
      have cc := cut4_any hvr (by omega)
      clear hkn hv hlk hjl
      generalize hsl : (spW xs k).length = sl at *
      go_wp2_with fail
      refine cc.mono ?_
      rintro e w' ⟨m, rfl, ⟨hmk, hm⟩, rfl⟩
      have hfin : Hid (LimbsOf wr w.heap.size va m vc (strip (spW xs k)) (num xs) ∧ m ≤ 2 * n) := by
        have hcut := hov
        rw [← hsl] at hcut hmk
        refine ⟨⟨by rw [hm]; exact hcut.cut hmk, by rw [hm, List.length_take]; omega, by rw [hm]; exact fun y hy => hdg y (List.mem_of_mem_take hy), by rw [strip_val]; exact HV.out, strip_strip _⟩, ?_⟩
        have := HLK.out
        omega
      clear cc hvr hm hov hsl
      go_wp2
      go_ret
      exact ⟨va, m, vc, _, rfl, hfin.out, hnx⟩
end Go.Proofs.YtceecgklgkiffaaGreatDoor

/- plumblaw04.room: a copy with two words behind it. -/
namespace Go.Proofs.YtceecgklgkiffaaGreatDoor
open Go.ChangeShapes Go.WideShapes Go.ChangeAt Go.RowKit
open Na Ar
set_option linter.unusedVariables false
theorem row_news4 {w : World} {b off n : Nat} {xs : List Int} (hl : xs.length = n) (hc : ∀ i, i < n → w.cell? ⟨b, off + i, none⟩ = some (.int .u64 (xs.getD i 0))) : ∀ j u, (xs.map (Value.int .u64))[j]? = some u → w.cell? ((⟨b, off, none⟩ : Addr).add j) = some u := by
  intro j u hj
  have hjl : j < xs.length := by
    by_cases q : j < xs.length
    · exact q
    · rw [List.getElem?_eq_none (by simp; omega)] at hj; simp at hj
  have ea : (⟨b, off, none⟩ : Addr).add j = ⟨b, off + j, none⟩ := by
    unfold Addr.add
    by_cases hi0 : j = 0
    · subst hi0; simp
    · simp [hi0]
  rw [ea, hc j (by omega), ← hj]
  simp [List.getElem?_eq_getElem hjl, List.getD_eq_getElem?_getD]
theorem ints_one4 {xs : List Int} : ∀ u ∈ xs.map (Value.int .u64), u.oneCell' = true := by
  intro u hu
  simp only [List.mem_map] at hu
  obtain ⟨x, _, rfl⟩ := hu
  rfl
theorem own_more4 {w1 : World} {base : Nat} {e : TypeId} {v : Value} {n m : Nat} {xs ys : List Int} (h : w1.ownsRow base e 1 v (n + m) (xs.map (Value.int .u64) ++ ys.map (Value.int .u64))) (hn : n = xs.length) (hm : m = ys.length) : Own .u64 w1 base e v (xs ++ ys) := by
  subst hn hm; unfold Own; rw [List.map_append, List.length_append]; exact h
/-- an empty list, built -/
theorem own_empty (w : World) (e : TypeId) : Own .u64 (w.alloc (.cells #[] e)) w.heap.size e (.slice (some ⟨w.heap.size, 0, none⟩) 0 0) [] := by
  refine ⟨rfl, Or.inr ⟨w.heap.size, 0, #[], rfl, Nat.le_refl _, heap_alloc_new _ _, Nat.le_refl _, Nat.zero_le _, by simp, by simp⟩⟩
end Go.Proofs.YtceecgklgkiffaaGreatDoor

/- plumbref04.Trim. -/
namespace Go.Proofs.YtceecgklgkiffaaGreatDoor
open Go.ChangeShapes Go.WideShapes Go.ChangeAt Go.RowKit
open Na Ar
set_option linter.unusedVariables false
theorem Own.shape {w : World} {base : Nat} {e : TypeId} {v : Value} {xs : List Int} (h : Own .u64 w base e v xs) (hp : 0 < xs.length) : ∃ g c, v = .slice (some ⟨g, 0, none⟩) xs.length c ∧ base ≤ g := by
  rcases h.2 with ⟨_, h0⟩ | ⟨g, c, cur, hv, hb, _⟩
  · omega
  · exact ⟨g, c, hv, hb⟩
theorem limbs_none {w : World} {base : Nat} {a : Option Addr} {n c : Nat} {us : List Int} {V : Int} (h : LimbsOf w base a n c us V) : n = 0 ↔ V = 0 := by
  obtain ⟨h1, h2, h3, h4, h5⟩ := h
  constructor
  · intro q
    rw [← h4, List.length_eq_zero_iff.mp (h2.symm.trans q)]; rfl
  · intro q
    rw [h2]
    by_cases hl : us.length = 0
    · exact hl
    · exfalso
      have hne : us ≠ [] := fun z => hl (by rw [z]; rfl)
      have e := List.dropLast_concat_getLast hne
      by_cases z : us.getLast hne = 0
      · rw [z] at e
        have := strip_length us.dropLast
        have s := strip_zero_end us.dropLast
        rw [e, h5] at s
        rw [← s, List.length_dropLast] at this
        omega
      · have g := h3 (us.getLast hne) (List.getLast_mem hne)
        have v : val 4294967296 us = val 4294967296 us.dropLast + 4294967296 ^ us.dropLast.length * us.getLast hne := by
          have := congrArg (val 4294967296) e
          rw [val_append] at this
          rw [← this]
          simp [val]
        have p : (0 : Int) < 4294967296 ^ us.dropLast.length := Int.pow_pos (by omega)
        have q1 := Int.mul_le_mul_of_nonneg_left (show 1 ≤ us.getLast hne by omega) (Int.le_of_lt p)
        have q2 : 0 ≤ val 4294967296 us.dropLast := val_nonneg (by omega) (fun y hy => h3 y (by rw [List.dropLast_eq_take] at hy; exact List.mem_of_mem_take hy))
        omega
/-- what the document's Trim has come to -/
def TrI (X V : Int) (k : Nat) : Prop := 0 ≤ V ∧ X = V * 10 ^ k ∧ (X = 0 → k = 0)
theorem trI_next {X V : Int} {k : Nat} (h : TrI X V k) (hV : 0 < V) (h0 : V % 10 = 0) : TrI X (V / 10) (k + 1) ∧ 0 < V / 10 := by
  obtain ⟨h1, h2, h3⟩ := h
  have e : V = V / 10 * 10 := by omega
  refine ⟨⟨by omega, ?_, fun q => ?_⟩, by omega⟩
  · rw [Int.pow_succ, Int.mul_comm (10 ^ k) 10, ← Int.mul_assoc, ← e]; exact h2
  · exfalso
    have p : (0 : Int) < 10 ^ k := Int.pow_pos (by omega)
    have := Int.mul_pos hV p
    omega
theorem trI_bound {X V : Int} {k : Nat} (h : TrI X V k) (h0 : 0 ≤ X) (hL : (words X).length ≤ 3000000) : k ≤ 192000000 := by
  by_cases q : X = 0
  · have := h.2.2 q; omega
  · have hV : 0 < V := by
      by_cases z : V = 0
      · have := h.2.1; rw [z, Int.zero_mul] at this; omega
      · have := h.1; omega
    have a := zeros_ge hV h.2.1
    have b := zeros_le (X := X) (L := 3000000) h0 hL
    omega
set_option maxHeartbeats 3200000 in
set_option maxRecDepth 100000 in
theorem refTrim4_any {a : Option Addr} {n cap : Nat} {xs : List Int} {w : World} (hrow : RowC w a n cap xs) (hw : Ws xs) (hn : n ≤ 2500000) :
    Calls Tryz.prog 88 #[.slice a n cap] w fun e w' => ∃ (va : Option Addr) (l c : Nat) (V : Int) (k : Nat), e = .returned (.tuple #[.slice va l c, .int .i64 (k : Int)]) ∧ (RowC w' va l c (words V) ∧ TrI (num xs) V k ∧ (0 < num xs → V % 10 ≠ 0)) ∧ Below w.heap.size w w' := by
  obtain ⟨i_u64, hi_u64, hz0_u64, hz1_u64, hz2_u64⟩ := info_parts info_u64
  have h0 := num_nonneg hw
  have lc := limbs4_any hrow hw hn
  have HLX : Fits (num xs) := by
    have := words_len hw
    have := hrow.1.1
    unfold Fits; omega
  generalize num xs = X at *
  go_enter Tryz.func88, Tryz.ntmps88
  go_wp2_with fail
  refine lc.mono ?_
  rintro e w1 ⟨va, l, c, us, rfl, ⟨hlim, hl9⟩, hb1⟩
  clear lc hrow
  go_wp2
  go_loopw [4, 5, 6, 7] (fun v i _ _ wr => ∃ (la : Option Addr) (ll lc k : Nat) (ls : List Int) (V : Int), v = .slice la ll lc ∧ i = .int .i64 (k : Int) ∧ Hid (LimbsOf wr w.heap.size la ll lc ls V) ∧ ll ≤ 5000000 ∧ Hid (TrI X V k) ∧ Below w.heap.size w wr) (fun _ i _ _ _ => 300000000 - (RowKit.intOf i).toNat)
  case atStart => exact ⟨va, l, c, 0, us, X, rfl, rfl, hlim, by omega, ⟨h0, by simp, fun _ => rfl⟩, hb1⟩
  case round =>
    obtain ⟨la, ll, lc, k, ls, V, rfl, rfl, hli, hl5, htr, hnx⟩ := hrel
    clear hlim hb1
    have hkb := trI_bound htr.out h0 HLX
    have hnone := limbs_none hli.out
    have hdone : ∀ (q : 0 < X → V % 10 ≠ 0) (w5 : World) (oa : Option Addr) (ol oc : Nat), RowC w5 oa ol oc (words V) → Below wr.heap.size wr w5 → Hid ((RowC w5 oa ol oc (words V) ∧ TrI X V k ∧ (0 < X → V % 10 ≠ 0)) ∧ Below w.heap.size w w5) := fun q w5 oa ol oc hr hb => ⟨⟨hr, htr.out, q⟩, hnx.trans (hb.mono hnx.size)⟩
    by_cases hz : ll = 0
    · have hV : V = 0 := hnone.mp hz
      have hX : X = 0 := by rw [htr.out.2.1, hV, Int.zero_mul]
      have hfin := hdone (fun q => by omega)
      obtain ⟨l1, l2, l3, l4, l5⟩ := hli.out
      have wc := words4_any (l1.rowS) l3 (by omega)
      rw [l4] at wc
      clear hdone hnone l1 l2 l3 l4 l5 hli htr hX hV
      subst hz
      go_wp2_with fail
      refine wc.mono ?_
      rintro e w5 ⟨oa, ol, oc, rfl, hr, hb⟩
      have hf := hfin w5 oa ol oc hr hb
      clear wc hfin hr hb
      go_wp2
      go_ret2
      exact ⟨oa, ol, oc, V, k, rfl, hf.out⟩
    · have hVp : 0 < V := by
        have := htr.out.1
        by_cases q : V = 0
        · exact absurd (hnone.mpr q) hz
        · omega
      obtain ⟨l1, l2, l3, l4, l5⟩ := hli.out
      have hlp : 0 < ls.length := by omega
      obtain ⟨g0, c0, hs, hg0⟩ := l1.shape hlp
      simp only [Value.slice.injEq] at hs
      obtain ⟨rfl, hsl, rfl⟩ := hs
      clear hsl
      have hba : Below wr.heap.size wr (wr.alloc (.cells #[] 22)) := (Below.refl _ _).alloc (Nat.le_refl _) _
      have hrl := l1.rowS
      have hla := hrl.1.later hba
      obtain ⟨b, off, hab, hbB, hc⟩ := hla.at (by omega)
      simp only [Option.some.injEq, Addr.mk.injEq] at hab
      obtain ⟨rfl, rfl, _⟩ := hab
      have hnews := row_news4 hla.1 hc
      have HL2 : Hid (ll = ls.length) := l2
      have hll : 0 < ll := by omega
      have HS : Hid (ls.length = ll) := l2.symm
      clear hnone hc hla l1 l2 hlp hbB
      go_wp2_with (at_builtin; refine wpList_append_own _ rfl _ _ 30 rfl wr.heap.size 22 i_u64 (.int .u64 0) 1 8 Tryz.underlying30 hi_u64 hz0_u64 hz1_u64 hz2_u64 rfl (by decide) _ 0 [] rfl (own_empty wr 22) ⟨g0, 0, none⟩ ll lc (ls.map (Value.int .u64)) rfl (by rw [List.length_map, HS.out, Nat.mul_one]) hnews ints_one4 (by unfold maxLen; omega) (by omega) (by simp) ?_)
      intro v1 w2 hown hgrow _
      have h1 : Own .u64 w2 wr.heap.size 22 v1 ls := by unfold Own; rw [HS.out]; exact hown
      have hb2 : Below wr.heap.size wr w2 := hba.grown hgrow (by simp) (fun k hk => by simp [Value.ownBlock] at hk; omega)
      obtain ⟨g1, c1, rfl, hg1⟩ := h1.shape (by rw [HS.out]; exact hll)
      rw [HS.out] at h1 ⊢
      have tk := take4_any (m := 10) h1 HL2.out l3 (by omega) (by omega) (by omega)
      rw [l4] at tk
      clear hown hgrow hnews hba h1
      by_cases hr : V % 10 = 0
      · obtain ⟨t1, t2⟩ := trI_next htr.out hVp hr
        have HT : Hid (TrI X (V / 10) (k + 1)) := t1
        have hkb2 := trI_bound t1 h0 HLX
        rw [hr] at tk
        clear t1 t2 hdone hr hli htr hrl l3 l4 l5 HL2 HS
        go_wp2_with fail
        refine tk.mono ?_
        rintro e w3 ⟨n', us', rfl, ⟨ho3, e3, hn3, d3, v3, s3⟩, hin⟩
        have hb3 := below_inn hb2 hin hg1 (Nat.le_refl _)
        have hB3 := hnx.trans (hb3.mono hnx.size)
        have HLI : Hid (LimbsOf w3 w.heap.size (some ⟨g1, 0, none⟩) n' c1 us' (V / 10)) := ⟨ho3.wider hnx.size, e3, d3, v3, s3⟩
        clear tk ho3 e3 d3 v3 s3 hin hb2 hb3
        go_wp2
        go_roundw
        case rel => exact ⟨_, n', c1, k + 1, us', V / 10, rfl, by go_num, HLI, by omega, HT, hB3⟩
        case measure => simp [RowKit.intOf]; omega
      · have hrn : (V % 10 != 0) = true := by rw [bne_iff_ne]; exact hr
        have hrb : 0 ≤ V % 10 := by omega
        have hrb2 : V % 10 < 10 := by omega
        have hfin := hdone (fun _ => hr)
        have hwc := fun w3 (h : Below wr.heap.size wr w3) => words4_any (hrl.later h) l3 (by omega)
        rw [l4] at hwc
        clear hdone hli htr hrl l3 l4 l5 HL2 HS
        obtain ⟨R, hR⟩ : ∃ R, R = V % 10 := ⟨_, rfl⟩
        rw [← hR] at tk hrn hrb hrb2
        clear hR hr
        go_wp2_with fail
        refine tk.mono ?_
        rintro e w3 ⟨n', us', rfl, ⟨ho3, e3, hn3, d3, v3, s3⟩, hin⟩
        have hb3 := below_inn hb2 hin hg1 (Nat.le_refl _)
        have wc := hwc w3 hb3
        clear tk ho3 e3 d3 v3 s3 hin hb2 hwc
        go_wp2_with fail
        refine wc.mono ?_
        rintro e w5 ⟨oa, ol, oc, rfl, hr5, hb5⟩
        have hf := hfin w5 oa ol oc hr5 (hb3.trans (hb5.mono hb3.size))
        clear wc hfin hr5 hb5 hb3
        go_wp2
        go_ret2
        exact ⟨oa, ol, oc, V, k, rfl, hf.out⟩
end Go.Proofs.YtceecgklgkiffaaGreatDoor

/- the document's Text: digits the lowest first, cut and turned about. -/
namespace Go.Proofs.YtceecgklgkiffaaGreatDoor
open Go.ChangeShapes Go.WideShapes Go.ChangeAt Go.RowKit
open Na Ar
set_option linter.unusedVariables false
namespace Na
/-- digits, the lowest first -/
def lowD (b : Int) (k : Nat) (X : Int) : List Int := (laidD b k X).reverse
theorem lowD_length (b : Int) (k : Nat) (X : Int) : (lowD b k X).length = k := by unfold lowD; rw [List.length_reverse, laidD_length]
theorem lowD_next {b : Int} (hb : 2 ≤ b) (k : Nat) (X : Int) : lowD b (k + 1) X = lowD b k X ++ [dch (X / b ^ k % b)] := by
  unfold lowD; rw [laidD_cons hb, List.reverse_cons]
theorem lowD_join {b : Int} (hb : 2 ≤ b) (n K : Nat) (X : Int) : lowD b (K + n) X = lowD b K X ++ lowD b n (X / b ^ K % b ^ n) := by
  unfold lowD; rw [laidD_mod hb, Nat.add_comm, laidD_split hb, List.reverse_append]
theorem lowD_bd {b : Int} (hb : 2 ≤ b) (hb9 : b ≤ 36) (m : Nat) (X : Int) : ∀ x ∈ lowD b m X, 48 ≤ x ∧ x ≤ 122 := by
  intro x hx; unfold lowD at hx; exact laidD_bd hb hb9 m X x (List.mem_reverse.mp hx)
theorem step_small4 {b : Int} {c : Nat} (hb : 2 ≤ b) (h : b ^ c < 4294967296) : c < 32 := by
  by_cases g : c < 32
  · exact g
  · have a : (2 : Int) ^ 32 ≤ 2 ^ c := p2mono (by omega)
    have e : (2 : Int) ^ c ≤ b ^ c := ipow_base (by omega) hb c
    have f : (2 : Int) ^ 32 = 4294967296 := by decide
    omega
theorem getD_setI {l : List Int} {i j : Nat} {x : Int} : (l.set i x).getD j 0 = if i = j ∧ j < l.length then x else l.getD j 0 := by
  rw [List.getD_eq_getElem?_getD, List.getElem?_set, List.getD_eq_getElem?_getD]
  by_cases h : i = j
  · subst h
    by_cases q : i < l.length
    · simp [q]
    · rw [if_pos rfl, if_neg q, if_neg (by omega), List.getElem?_eq_none (by omega)]
  · rw [if_neg h, if_neg (by omega)]
theorem rev_getD {zs : List Int} {j : Nat} (h : j < zs.length) : zs.reverse.getD j 0 = zs.getD (zs.length - 1 - j) 0 := by
  rw [List.getD_eq_getElem?_getD, List.getElem?_reverse h, List.getD_eq_getElem?_getD]
/-- i pairs have been turned about -/
def RvI (zs ys : List Int) (i : Nat) : Prop := ys.length = zs.length ∧ ∀ j, j < zs.length → ys.getD j 0 = if j < i ∨ zs.length - i ≤ j then zs.getD (zs.length - 1 - j) 0 else zs.getD j 0
theorem rvI_start (zs : List Int) : RvI zs zs 0 := ⟨rfl, fun j hj => by rw [if_neg (by omega)]⟩
theorem rvI_step {zs ys : List Int} {i : Nat} (h : RvI zs ys i) (hi : i < zs.length / 2) : RvI zs ((ys.set i (ys.getD (zs.length - 1 - i) 0)).set (zs.length - 1 - i) (ys.getD i 0)) (i + 1) := by
  obtain ⟨h1, h2⟩ := h
  have a := h2 i (by omega)
  have b := h2 (zs.length - 1 - i) (by omega)
  rw [if_neg (by omega)] at a b
  refine ⟨by rw [List.length_set, List.length_set, h1], fun j hj => ?_⟩
  rw [getD_setI, getD_setI, List.length_set, a, b]
  by_cases q1 : zs.length - 1 - i = j
  · rw [if_pos ⟨q1, by omega⟩, if_pos (by omega)]
    congr 1; omega
  · rw [if_neg (by omega)]
    by_cases q2 : i = j
    · rw [if_pos ⟨q2, by omega⟩, if_pos (by omega), q2]
    · rw [if_neg (by omega), h2 j hj]
      by_cases q3 : j < i ∨ zs.length - i ≤ j
      · rw [if_pos q3, if_pos (by omega)]
      · rw [if_neg q3, if_neg (by omega)]
theorem rvI_done {zs ys : List Int} {i : Nat} (h : RvI zs ys i) (hi : ¬ i < zs.length / 2) : ys = zs.reverse := by
  obtain ⟨h1, h2⟩ := h
  refine List.ext_getElem (by rw [List.length_reverse, h1]) (fun j p q => ?_)
  have e1 : ys[j] = ys.getD j 0 := by rw [List.getD_eq_getElem?_getD, List.getElem?_eq_getElem p]; rfl
  have e2 : zs.reverse[j] = zs.reverse.getD j 0 := by rw [List.getD_eq_getElem?_getD, List.getElem?_eq_getElem q]; rfl
  rw [e1, e2, h2 j (by omega), rev_getD (by omega)]
  by_cases g : j < i ∨ zs.length - i ≤ j
  · rw [if_pos g]
  · rw [if_neg g]
    congr 1; omega
/-- what is cut off the digits' end are zeros, and no more can be -/
def Cut48 (zs : List Int) (m : Nat) : Prop := m ≤ zs.length ∧ ∀ j, m ≤ j → j < zs.length → zs.getD j 0 = 48
theorem cut48_start (zs : List Int) : Cut48 zs zs.length := ⟨Nat.le_refl _, fun j a b => by omega⟩
theorem cut48_step {zs : List Int} {m : Nat} (h : Cut48 zs (m + 1)) (h0 : zs.getD m 0 = 48) : Cut48 zs m := by
  refine ⟨by have := h.1; omega, fun j a b => ?_⟩
  by_cases q : j = m
  · rw [q]; exact h0
  · exact h.2 j (by omega) b
theorem textIs_low {X b : Int} {K m : Nat} {t : ByteArray} (hb : 2 ≤ b) (hb9 : b ≤ 36) (hK : 1 ≤ K) (hX : X < b ^ K) (hc : Cut48 (lowD b K X) m) (hlast : m = 0 ∨ (lowD b K X).getD (m - 1) 0 ≠ 48) (ht : t.data.toList = bytesOf ((lowD b K X).take m).reverse) : TextIs X b t := by
  have hl := lowD_length b K X
  have hmK : m ≤ K := by have := hc.1; omega
  have hbd := laidD_bd hb hb9 K X
  have hll := laidD_length b K X
  have hz : ∀ j, j < K → (laidD b K X).getD j 0 = (lowD b K X).getD (K - 1 - j) 0 := by
    intro j hj
    have e : laidD b K X = (lowD b K X).reverse := by unfold lowD; rw [List.reverse_reverse]
    rw [e, rev_getD (by omega), hl]
  have hdrop : ((lowD b K X).take m).reverse = (laidD b K X).drop (K - m) := by
    unfold lowD
    rw [List.take_reverse, List.reverse_reverse, hll]
  obtain ⟨u, hu⟩ : ∃ u : ByteArray, u.data.toList = bytesOf (laidD b K X) := ⟨⟨(bytesOf (laidD b K X)).toArray⟩, by simp⟩
  have hul : u.size = K := by rw [bytes_size hu, hll]
  have hbyte : ∀ j, j < K → u.get! j = UInt8.ofNat ((laidD b K X).getD j 0).toNat := by
    intro j hj
    rw [byte_list, hu]
    unfold bytesOf
    rw [List.getD_eq_getElem?_getD, List.getElem?_map, List.getD_eq_getElem?_getD, List.getElem?_eq_getElem (by omega)]
    rfl
  refine ⟨K, u, hK, hX, hu, K - m, ⟨?_, by omega⟩, fun j hj => ?_, fun hk => ?_⟩
  · rw [ht, hdrop, hu]; unfold bytesOf; rw [List.map_drop]
  · rw [hbyte j (by omega), hz j (by omega), hc.2 _ (by omega) (by omega)]; rfl
  · rw [hbyte _ (by omega), hz _ (by omega)]
    rw [hul] at hk
    have hne := hlast.resolve_left (by omega)
    rw [show K - 1 - (K - m) = m - 1 by omega]
    have mem : (lowD b K X).getD (m - 1) 0 ∈ lowD b K X := by
      rw [List.getD_eq_getElem?_getD, List.getElem?_eq_getElem (by omega)]; exact List.getElem_mem _
    have bd := lowD_bd hb hb9 K X _ mem
    generalize (lowD b K X).getD (m - 1) 0 = z at *
    intro e
    have a := congrArg UInt8.toNat e
    rw [UInt8.toNat_ofNat'] at a
    have f : (48 : UInt8).toNat = 48 := rfl
    rw [f] at a
    omega
theorem bytes_eq {s t : ByteArray} (h : s.data.toList = t.data.toList) : s = t := by
  cases s with
  | mk d => cases t with
    | mk d2 => simp at h; rw [h]
theorem textIs_uniq {X b : Int} {s t : ByteArray} (hb : 2 ≤ b) (hb9 : b ≤ 36) (hX : 0 < X) (hs : TextIs X b s) (ht : TextIs X b t) : s = t := by
  obtain ⟨d, d1, d2⟩ := has_log hb hX
  exact bytes_eq ((text_bytes hs hb hb9 d1 d2).trans (text_bytes ht hb hb9 d1 d2).symm)
theorem textIs_pos {X b : Int} {t : ByteArray} (hb : 2 ≤ b) (hb9 : b ≤ 36) (hX : 0 < X) (ht : TextIs X b t) : 0 < t.size := by
  obtain ⟨d, d1, d2⟩ := has_log hb hX
  rw [bytes_size (text_bytes ht hb hb9 d1 d2), laidD_length]; omega
theorem count_text {X d : Int} {t : ByteArray} (hX : 0 < X) (ht : TextIs X 10 t) (hd : CountIs X d) : d = (t.size : Int) := by
  rcases hd with ⟨q, _⟩ | ⟨n, rfl, d1, d2⟩
  · omega
  · rw [bytes_size (text_bytes ht (by omega) (by omega) d1 d2), laidD_length]; omega
end Na
end Go.Proofs.YtceecgklgkiffaaGreatDoor

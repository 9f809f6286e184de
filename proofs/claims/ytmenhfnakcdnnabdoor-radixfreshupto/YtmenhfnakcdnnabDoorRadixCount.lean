/- radix.Count. -/
import Derived.Test.YtmenhfnakcdnnabDoorRadixAlive
namespace Go.Proofs.YtmenhfnakcdnnabDoor
open Go.ChangeShapes Go.WideShapes Go.ChangeAt Go.RowKit
open Na Ar
set_option linter.unusedVariables false
namespace Na
theorem conv_fact : ∀ A B N : Nat, A = 97879 → B = 325147 → N = 1000000 → Nat.ble (10 ^ A) (2 ^ B) = true ∧ Nat.ble (2 ^ B * N) (10 ^ A * (N + 1)) = true := by
  intro A B N h1 h2 h3
  subst h1 h2 h3
  constructor
  · kernel_rfl
  · kernel_rfl
theorem bern {N : Nat} : ∀ b : Nat, b ≤ N → (N + 1) ^ b * (N - b) ≤ N ^ b * N := by
  intro b
  induction b with
  | zero => intro _; simp
  | succ b ih =>
    intro h
    have i := ih (by omega)
    have k : (N + 1) * (N - (b + 1)) ≤ N * (N - b) := by
      obtain ⟨c, hc⟩ : ∃ c, N = c + (b + 1) := ⟨N - (b + 1), by omega⟩
      have e1 : N - (b + 1) = c := by omega
      have e2 : N - b = c + 1 := by omega
      rw [e1, e2, Nat.add_mul, Nat.mul_add]
      omega
    calc (N + 1) ^ (b + 1) * (N - (b + 1)) = (N + 1) ^ b * ((N + 1) * (N - (b + 1))) := by rw [Nat.pow_succ, Nat.mul_assoc]
      _ ≤ (N + 1) ^ b * (N * (N - b)) := Nat.mul_le_mul_left _ k
      _ = N * ((N + 1) ^ b * (N - b)) := by rw [← Nat.mul_assoc, Nat.mul_comm _ N, Nat.mul_assoc]
      _ ≤ N * (N ^ b * N) := Nat.mul_le_mul_left _ i
      _ = N ^ (b + 1) * N := by rw [Nat.pow_succ, ← Nat.mul_assoc, Nat.mul_comm N (N ^ b)]
/-- a convergent a/b of log 2: what is below, what is above -/
theorem conv_low {A B P Q : Nat} (hB : 0 < B) (h : 10 ^ A ≤ 2 ^ B) (hT : P * B ≤ Q * A) : 10 ^ P ≤ 2 ^ Q := by
  have a : (10 ^ P) ^ B ≤ (2 ^ Q) ^ B := by
    calc (10 ^ P) ^ B = 10 ^ (P * B) := by rw [← Nat.pow_mul]
      _ ≤ 10 ^ (Q * A) := Nat.pow_le_pow_right (by omega) hT
      _ = (10 ^ A) ^ Q := by rw [← Nat.pow_mul, Nat.mul_comm]
      _ ≤ (2 ^ B) ^ Q := Nat.pow_le_pow_left h Q
      _ = (2 ^ Q) ^ B := by rw [← Nat.pow_mul, ← Nat.pow_mul, Nat.mul_comm]
  exact (Nat.pow_le_pow_iff_left (by omega)).mp a
theorem conv_high {A B P Q N : Nat} (hB : 0 < B) (h : 2 ^ B * N ≤ 10 ^ A * (N + 1)) (hT : Q * A < P * B) (hQ : 2 * Q ≤ N) (hN : 0 < N) : 2 ^ Q < 10 ^ P := by
  have a : (2 ^ Q) ^ B < (10 ^ P) ^ B := by
    have p1 : ((2 : Nat) ^ B) ^ Q * N ^ Q ≤ (10 ^ A) ^ Q * (N + 1) ^ Q := by
      rw [← Nat.mul_pow, ← Nat.mul_pow]
      exact Nat.pow_le_pow_left h Q
    have b := bern (N := N) Q (by omega)
    -- (N + 1)^Q * N ≤ 2 * N^Q * N
    have b2 : (N + 1) ^ Q ≤ 2 * N ^ Q := by
      have m : (N + 1) ^ Q * N ≤ 2 * N ^ Q * N := by
        have c : (N + 1) ^ Q * N ≤ (N + 1) ^ Q * (2 * (N - Q)) := Nat.mul_le_mul_left _ (by omega)
        calc (N + 1) ^ Q * N ≤ (N + 1) ^ Q * (2 * (N - Q)) := c
          _ = 2 * ((N + 1) ^ Q * (N - Q)) := by rw [← Nat.mul_assoc, Nat.mul_comm _ 2, Nat.mul_assoc]
          _ ≤ 2 * (N ^ Q * N) := Nat.mul_le_mul_left _ b
          _ = 2 * N ^ Q * N := by rw [Nat.mul_assoc]
      exact Nat.le_of_mul_le_mul_right m hN
    have pN : 0 < N ^ Q := Nat.pow_pos hN
    have p3 : ((2 : Nat) ^ B) ^ Q * N ^ Q ≤ (10 ^ A) ^ Q * 2 * N ^ Q := by
      calc ((2 : Nat) ^ B) ^ Q * N ^ Q ≤ (10 ^ A) ^ Q * (N + 1) ^ Q := p1
        _ ≤ (10 ^ A) ^ Q * (2 * N ^ Q) := Nat.mul_le_mul_left _ b2
        _ = (10 ^ A) ^ Q * 2 * N ^ Q := by rw [Nat.mul_assoc]
    have p4 := Nat.le_of_mul_le_mul_right p3 pN
    have pt : 0 < ((10 : Nat) ^ A) ^ Q := Nat.pow_pos (Nat.pow_pos (by omega))
    calc ((2 : Nat) ^ Q) ^ B = (2 ^ B) ^ Q := by rw [← Nat.pow_mul, ← Nat.pow_mul, Nat.mul_comm]
      _ ≤ (10 ^ A) ^ Q * 2 := p4
      _ < (10 ^ A) ^ Q * 10 := by omega
      _ = 10 ^ (Q * A + 1) := by rw [← Nat.pow_mul, Nat.mul_comm A Q, Nat.pow_succ]
      _ ≤ 10 ^ (P * B) := Nat.pow_le_pow_right (by omega) (by omega)
      _ = (10 ^ P) ^ B := by rw [← Nat.pow_mul]
  exact (Nat.pow_lt_pow_iff_left (by omega)).mp a
theorem tens_gen {A B N β T : Nat} (hl : Nat.ble (10 ^ A) (2 ^ B) = true) (hh : Nat.ble (2 ^ B * N) (10 ^ A * (N + 1)) = true) (hB : 0 < B) (hN : 0 < N) (hT : T * B ≤ β * A) (hT2 : β * A < (T + 1) * B) (hβ : 2 * β ≤ N) : 10 ^ T ≤ 2 ^ β ∧ 2 ^ β < 10 ^ (T + 1) :=
  ⟨conv_low hB (Nat.ble_eq.mp hl) hT, conv_high hB (Nat.ble_eq.mp hh) hT2 hβ hN⟩
theorem tens_nat {β T : Nat} (hT : T = β * 97879 / 325147) (hβ : β ≤ 300000) : 10 ^ T ≤ 2 ^ β ∧ 2 ^ β < 10 ^ (T + 1) := by
  obtain ⟨A, hA⟩ : ∃ A : Nat, A = 97879 := ⟨_, rfl⟩
  obtain ⟨B, hB⟩ : ∃ B : Nat, B = 325147 := ⟨_, rfl⟩
  obtain ⟨N, hN⟩ : ∃ N : Nat, N = 1000000 := ⟨_, rfl⟩
  obtain ⟨h1, h2⟩ := conv_fact A B N hA hB hN
  exact tens_gen h1 h2 (by omega) (by omega) (by rw [hA, hB]; omega) (by rw [hA, hB]; omega) (by omega)
theorem tens_int {β T : Nat} (hT : T = β * 97879 / 325147) (hβ : β ≤ 300000) : (10 : Int) ^ T ≤ 2 ^ β ∧ (2 : Int) ^ β < 10 ^ (T + 1) := by
  obtain ⟨h1, h2⟩ := tens_nat hT hβ
  have c10 : ∀ k : Nat, ((10 ^ k : Nat) : Int) = (10 : Int) ^ k := fun k => by simp
  rw [← c10, ← c10, ← p2cast]
  exact ⟨by omega, by omega⟩
theorem ten_less {n : Nat} (h : n ≤ 78913) : (10 : Int) ^ n < 2 ^ 262144 := by
  have a : (10 : Int) ^ n ≤ 10 ^ 78913 := ipow_mono (by omega) h
  have l := pow_lt (b := 10) (m := 78913) (n := n) (K := 4096) (by omega) ten_most h
  have := l.2
  rw [show (18446744073709551616 : Int) = 2 ^ 64 by decide, ← Int.pow_mul] at this
  exact this
/-- so many digits -/
def CountIs (X d : Int) : Prop := (X = 0 ∧ d = 1) ∨ ∃ n : Nat, d = n + 1 ∧ 10 ^ n ≤ X ∧ X < 10 ^ (n + 1)
theorem count_pow {s : Nat} {d : Int} (h : CountIs (10 ^ s) d) : d = s + 1 := by
  have p : (0 : Int) < 10 ^ s := Int.pow_pos (by omega)
  rcases h with ⟨h, _⟩ | ⟨n, h1, h2, h3⟩
  · omega
  · have a : ¬ s < n := fun q => by
      have := ipow_mono (X := 10) (by omega) (show s + 1 ≤ n by omega)
      rw [Int.pow_succ] at this
      omega
    have b : ¬ n < s := fun q => by
      have := ipow_mono (X := 10) (by omega) (show n + 1 ≤ s by omega)
      omega
    omega
end Na
set_option maxRecDepth 100000 in
theorem tens_any {β : Int} (h0 : 0 ≤ β) (h : β ≤ 300000) (w : World) :
    Calls Tryd.prog 35 #[.int .i64 β] w fun e w' => e = .returned (.int .i64 (β * 97879 / 325147)) ∧ w = w' := by
  go_enter Tryd.func35, Tryd.ntmps35
  go_wp2
  go_ret
  exact ⟨rfl, rfl⟩
set_option maxHeartbeats 1600000 in
set_option maxRecDepth 100000 in
theorem count_any {a : Option Addr} {l c : Nat} {xs : List Int} {w : World} (hr : RowC w a l c xs) (hw : Ws xs) (hl : l ≤ 3000000) (hfit : bitsN (num xs) ≤ 262144) :
    Calls Tryd.prog 12 #[.slice a l c] w fun e w' => ∃ d : Int, e = .returned (.int .i64 d) ∧ CountIs (num xs) d ∧ Below w.heap.size w w' := by
  have h0 := num_nonneg hw
  have bc := natBits_any hr hw (by omega)
  by_cases hz : num xs = 0
  · rw [hz, bits_none] at bc
    have HF : CountIs (num xs) 1 := Or.inl ⟨hz, rfl⟩
    clear hz
    go_enter Tryd.func12, Tryd.ntmps12
    go_wp2_with fail
    refine bc.mono ?_
    rintro e w1 ⟨rfl, hb1⟩
    clear bc
    go_wp2
    go_ret
    exact ⟨1, rfl, HF, hb1⟩
  · obtain ⟨b, hb, l1, l2⟩ := bits_some (show 0 < num xs by omega)
    rw [hb] at bc hfit
    obtain ⟨n, hn⟩ : ∃ n : Nat, (n : Int) = (b : Int) * 97879 / 325147 := ⟨((b : Int) * 97879 / 325147).toNat, by omega⟩
    obtain ⟨m, hm⟩ : ∃ m : Nat, (m : Int) = ((b : Int) + 1) * 97879 / 325147 := ⟨(((b : Int) + 1) * 97879 / 325147).toNat, by omega⟩
    obtain ⟨t1, t2⟩ := tens_int (β := b) (T := n) (by omega) (by omega)
    obtain ⟨t3, t4⟩ := tens_int (β := b + 1) (T := m) (by omega) (by omega)
    have hn9 : n ≤ 78912 := by omega
    have tc1 := fun w => tens_any (β := (b : Int)) (by omega) (by omega) w
    have tc2 := fun w => tens_any (β := (b : Int) + 1) (by omega) (by omega) w
    rw [← hn] at tc1
    rw [← hm] at tc2
    have HS : n = m → CountIs (num xs) ((n : Int) + 1) := fun q => Or.inr ⟨n, rfl, by omega, by rw [q]; omega⟩
    have HL : num xs < 10 ^ (n + 1) → CountIs (num xs) ((n : Int) + 1) := fun q => Or.inr ⟨n, rfl, by omega, q⟩
    have HM : ¬ num xs < 10 ^ (n + 1) → CountIs (num xs) ((n : Int) + 2) := fun q => Or.inr ⟨n + 1, by omega, by omega, by
      have e : (2 : Int) ^ (b + 1) = 2 ^ b * 2 := Int.pow_succ _ _
      have e2 : (10 : Int) ^ (n + 1 + 1) = 10 ^ (n + 1) * 10 := Int.pow_succ _ _
      omega⟩
    have hten := fun w => ten_any ((n : Int) + 1) (by omega) (by omega) w
    have E1 : pwE 78913 ((n : Int) + 1) = 0 := by unfold pwE; rw [if_neg (by omega), if_neg (by omega)]
    have E2 : pwL 10 78913 ((n : Int) + 1) = words (10 ^ (n + 1)) := by
      unfold pwL
      rw [if_neg (by omega), if_neg (by omega)]
      congr 2
    rw [E1, E2] at hten
    have hp0 : (0 : Int) < 10 ^ (n + 1) := Int.pow_pos (by omega)
    have hlp : (words (10 ^ (n + 1))).length ≤ 4096 := by
      refine bits_words (β := 262144) (Int.le_of_lt hp0) ?_ (Nat.le_refl _)
      have h2 : (2 : Int) ^ (b + 1) ≤ 2 ^ 262144 := p2mono (by omega)
      have h3 := ten_less (n := n + 1) (by omega)
      exact h3
    have nP := num_words (Int.le_of_lt hp0)
    have dP := Dg_words ((10 : Int) ^ (n + 1))
    have hbb : 0 ≤ b := Nat.zero_le _
    have HNP : Hid (num (words ((10 : Int) ^ (n + 1))) = 10 ^ (n + 1)) := nP
    have HLP : Hid ((words ((10 : Int) ^ (n + 1))).length ≤ 4096) := hlp
    clear t1 t2 t3 t4 l1 l2 hb E1 E2 nP hlp hp0
    have HB : Hid (0 ≤ (b : Int)) := by show _ ≤ _; omega
    obtain ⟨β, hβ⟩ : ∃ β : Int, β = (b : Int) := ⟨_, rfl⟩
    have hβ0 : 0 ≤ β := by omega
    rw [← hβ] at bc hfit tc1 tc2
    clear hbb hn hm HB hβ
    by_cases hnm : n = m
    · have HF := HS hnm
      subst hnm
      clear HS HL HM hten
      go_enter Tryd.func12, Tryd.ntmps12
      go_wp2_with fail
      refine bc.mono ?_
      rintro e w1 ⟨rfl, hb1⟩
      clear bc
      go_wp2_with fail
      refine (tc1 _).mono ?_
      rintro e w' ⟨rfl, rfl⟩
      go_wp2_with fail
      refine (tc2 _).mono ?_
      rintro e w' ⟨rfl, rfl⟩
      clear tc1 tc2
      go_wp2
      go_ret
      exact ⟨_, rfl, HF, hb1⟩
    · have hnm' : ((n : Int) == (m : Int)) = false := by rw [beq_eq_false_iff_ne]; omega
      have hnm2 : ¬ (n : Int) = (m : Int) := by omega
      clear HS hnm
      go_enter Tryd.func12, Tryd.ntmps12
      go_wp2_with fail
      refine bc.mono ?_
      rintro e w1 ⟨rfl, hb1⟩
      have hr1 := hr.later hb1
      clear bc
      go_wp2_with fail
      refine (tc1 _).mono ?_
      rintro e w' ⟨rfl, rfl⟩
      go_wp2_with fail
      refine (tc2 _).mono ?_
      rintro e w' ⟨rfl, rfl⟩
      clear tc1 tc2
      go_wp2_with fail
      refine (hten _).mono ?_
      rintro e w2 ⟨v, rfl, ho, hb2⟩
      obtain ⟨pa, pc, rfl, hp⟩ := ho.readsC
      have hr2 := hr1.later hb2
      have hB2 := hb1.trans (hb2.mono hb1.size)
      have hlp := HLP.out
      have cc := natCmp_any hr2 hp hw dP (by omega) (by omega)
      rw [HNP.out] at cc
      clear hten ho hr hr1 dP HNP HLP
      generalize (words (10 ^ (n + 1))).length = lp at *
      by_cases hlt : num xs < 10 ^ (n + 1)
      · rw [ordN_lt hlt] at cc
        have HF := HL hlt
        clear HL HM hlt
        go_wp2_with fail
        refine cc.mono ?_
        rintro e w3 ⟨rfl, hb3⟩
        clear cc
        go_wp2
        go_ret
        exact ⟨_, rfl, HF, hB2.trans (hb3.mono hB2.size)⟩
      · have HF := HM (by omega)
        have HO : 0 ≤ ordN (num xs) (10 ^ (n + 1)) := by unfold ordN; rw [if_neg hlt]; split <;> omega
        clear HL HM hlt
        generalize ordN (num xs) (10 ^ (n + 1)) = od at *
        go_wp2_with fail
        refine cc.mono ?_
        rintro e w3 ⟨rfl, hb3⟩
        clear cc
        go_wp2
        go_ret
        exact ⟨_, rfl, HF, hB2.trans (hb3.mono hB2.size)⟩
end Go.Proofs.YtmenhfnakcdnnabDoor

/- radix.surelyHuge, api.Wrap, radix.Parse. -/
import Derived.Test.YtmenhfnakcdnnabDoorRadixNum
import Derived.Test.YtmenhfnakcdnnabDoorRadixPw
namespace Go.Proofs.YtmenhfnakcdnnabDoor
open Go.ChangeShapes Go.WideShapes Go.ChangeAt Go.RowKit
open Na Ar
open Go.Lib
set_option linter.unusedVariables false
namespace Na
theorem sure_huge {b X : Int} {n K β : Nat} (hb : 2 ≤ b) (h2 : (2 : Int) ^ β ≤ b ^ K) (hq : 262144 ≤ n / K * β) (hX : b ^ n ≤ X) : 4096 < (words X).length := by
  refine dig_len_ge ?_
  rw [wpow2]
  have e : 64 * 4096 = 262144 := by omega
  rw [e]
  have a1 : (2 : Int) ^ 262144 ≤ 2 ^ (n / K * β) := p2mono hq
  have a2 : (2 : Int) ^ (n / K * β) ≤ b ^ (K * (n / K)) := by
    rw [Nat.mul_comm, Int.pow_mul, Int.pow_mul]
    exact ipow_base (Int.le_of_lt (p2pos β)) h2 _
  have a3 : b ^ (K * (n / K)) ≤ b ^ n := ipow_monoB (by omega) (Nat.mul_div_le n K)
  omega
end Na
set_option maxHeartbeats 1600000 in
set_option maxRecDepth 100000 in
theorem surelyHuge_any (n : Nat) (b : Int) (hb : 2 ≤ b) (hb9 : b ≤ 36) (hn : n ≤ 11000000) (w : World) :
    Calls Tryd.prog 47 #[.int .i64 (n : Int), .int .i64 b] w fun e w' => ∃ H : Bool, e = .returned (.bool H) ∧ (H = true → 1 ≤ n ∧ ∀ X, b ^ (n - 1) ≤ X → 4096 < (words X).length) ∧ Below w.heap.size w w' := by
  go_enter Tryd.func47, Tryd.ntmps47
  go_wp2_with fail
  refine (step_any b hb hb9 w).mono ?_
  rintro e w' ⟨K, rfl, hst, rfl⟩
  obtain ⟨k1, k2, k3, k4⟩ := hst
  have k0 : 0 < b ^ K := Int.pow_pos (by omega)
  obtain ⟨β, hβ, p1, p2⟩ := bits_some k0
  have hsh := fun X (hq : 262144 ≤ (n - 1) / K * β) (hX : b ^ (n - 1) ≤ X) => sure_huge hb p1 hq hX
  have hβ64 : β < 64 := by
    by_cases g : β < 64
    · exact g
    · have : (2 : Int) ^ 64 ≤ 2 ^ β := p2mono (by omega)
      have e : (2 : Int) ^ 64 = 18446744073709551616 := by decide
      omega
  have hfr := fun w => natFrom_any (v := b ^ K) ⟨by omega, k3⟩ w
  have dz := Dg_words (b ^ K)
  have nz := num_words (show 0 ≤ b ^ K by omega)
  have lz := words_len1 (v := b ^ K) ⟨by omega, k3⟩
  clear k4 p1 p2
  generalize b ^ K = M at *
  go_wp2_with fail
  refine (hfr _).mono ?_
  rintro e w1 ⟨o, rfl, ho, hb1⟩
  obtain ⟨oa, oc, rfl, hor⟩ := ho.readsC
  have hbt := natBits_any hor dz (by omega)
  rw [nz, hβ] at hbt
  generalize (words M).length = l at *
  clear hfr ho hβ
  go_wp2_with fail
  refine hbt.mono ?_
  rintro e w2 ⟨rfl, hb2⟩
  have hB := hb1.trans (hb2.mono hb1.size)
  clear hbt hor
  have c1 : (β : Int) + 1 - 1 = (β : Int) := by omega
  have kz : ((K : Int) == 0) = false := by simp; omega
  by_cases hn0 : n = 0
  · subst hn0
    have q0 : Int.tdiv 1 (K : Int) = 0 ∨ Int.tdiv 1 (K : Int) = 1 := by
      rw [Int.tdiv_eq_ediv_of_nonneg (by omega)]
      have a := Int.ediv_nonneg (show (0 : Int) ≤ 1 by omega) (show (0 : Int) ≤ (K : Int) by omega)
      have b := Int.ediv_le_self (a := 1) (K : Int) (by omega)
      omega
    have HQ : Hid (Int.tdiv 1 (K : Int) = 0 ∨ Int.tdiv 1 (K : Int) = 1) := q0
    clear q0 hsh
    go_wp2
    go_ret
    refine ⟨_, rfl, fun h => ?_, hB⟩
    exfalso
    have h2 := of_decide_eq_true h
    unfold wrap64 at h2
    rcases HQ.out with q | q
    · rw [q] at h2
      simp at h2
    · rw [q] at h2
      omega
  · obtain ⟨m, rfl⟩ : ∃ m, n = m + 1 := ⟨n - 1, by omega⟩
    have hq1 : ((m / K : Nat) : Int) = (m : Int) / (K : Int) := by simp
    have hq2 : m / K ≤ m := Nat.div_le_self m K
    have hw : wrap64 (wrap64 ((m : Int) / (K : Int)) * (β : Int)) = ((m / K * β : Nat) : Int) := by
      rw [← hq1]
      clear hq1 hsh
      generalize m / K = Q at *
      have a : wrap64 (Q : Int) = (Q : Int) := by unfold wrap64; omega
      rw [a, Int.natCast_mul]
      have hm : Q * β ≤ 11000000 * 64 := Nat.mul_le_mul (by omega) (by omega)
      have b : (Q : Int) * (β : Int) ≤ 704000000 := by
        have : ((Q * β : Nat) : Int) ≤ 704000000 := by omega
        rwa [Int.natCast_mul] at this
      have c : 0 ≤ (Q : Int) * (β : Int) := Int.mul_nonneg (by omega) (by omega)
      unfold wrap64
      omega
    have HW : Hid (wrap64 (wrap64 ((m : Int) / (K : Int)) * (β : Int)) = ((m / K * β : Nat) : Int)) := hw
    have HS : Hid (∀ X, 262144 ≤ (m + 1 - 1) / K * β → b ^ (m + 1 - 1) ≤ X → 4096 < (words X).length) := hsh
    clear hw hq1 hq2 hsh
    go_wp2
    go_ret
    refine ⟨_, rfl, fun h => ⟨by omega, fun X hX => HS.out X ?_ hX⟩, hB⟩
    have h2 := of_decide_eq_true h
    rw [HW.out] at h2
    have e : m + 1 - 1 = m := by omega
    rw [e]
    omega
/-- an error with its place -/
theorem wrap_any (p c : Int) (w : World) :
    Calls Tryd.prog 45 #[.int .i64 p, .int .i64 c] w fun e w' => ∃ t a, e = .returned (.iface t (.pointer (some a))) ∧ Below w.heap.size w w' := by
  go_enter Tryd.func45, Tryd.ntmps45
  go_wp2
  go_ret
  exact ⟨_, _, rfl, (Below.refl _ _).alloc (Nat.le_refl _) _⟩
namespace Na
theorem dgt_zero {s : ByteArray} {i : Nat} (h : s.get! i = 48) : dgt s i = 0 := by unfold dgt; rw [h]; rfl
theorem dgt_pos {s : ByteArray} {i : Nat} (h : s.get! i ≠ 48) : 1 ≤ dgt s i := by
  unfold dgt
  have q : ((s.get! i).toNat : Int) ≠ 48 := by
    intro e
    exact h (UInt8.toNat_inj.1 (by show (s.get! i).toNat = 48; omega))
  generalize ((s.get! i).toNat : Int) = r at *
  unfold valN
  split
  · omega
  · split
    · omega
    · split <;> omega
theorem from_dgt {s t : ByteArray} {k : Nat} (h : From s t k) (i : Nat) : dgt t i = dgt s (k + i) := by unfold dgt; rw [h.byte]
theorem numB_zeros {s : ByteArray} {b : Int} {k : Nat} (h : ∀ j, j < k → s.get! j = 48) : numB s b k = 0 := by
  induction k with
  | zero => rfl
  | succ k ih =>
    show numB s b k * b + dgt s k = 0
    rw [ih (fun j hj => h j (by omega)), dgt_zero (h k (by omega))]; simp
theorem numB_from {s t : ByteArray} {b : Int} {k : Nat} (h : From s t k) (hz : ∀ j, j < k → s.get! j = 48) (i : Nat) : numB t b i = numB s b (k + i) := by
  induction i with
  | zero => rw [Nat.add_zero, numB_zeros hz]; rfl
  | succ i ih =>
    show numB t b i * b + dgt t i = numB s b (k + i) * b + dgt s (k + i)
    rw [ih, from_dgt h]
theorem numB_ge {s : ByteArray} {b : Int} (hb : 2 ≤ b) (h0 : 1 ≤ dgt s 0) (n : Nat) : b ^ n ≤ numB s b (n + 1) := by
  induction n with
  | zero => show b ^ 0 ≤ 0 * b + dgt s 0; simp; omega
  | succ n ih =>
    show b ^ (n + 1) ≤ numB s b (n + 1) * b + dgt s (n + 1)
    have d := dgt_bd s (n + 1)
    have m := Int.mul_le_mul_of_nonneg_right ih (show 0 ≤ b by omega)
    rw [Int.pow_succ]
    omega
end Na
/-- what Parse gives of digits that say T -/
def ParsePost (w : World) (T : Int) (e : Ending) (w' : World) : Prop :=
  ((words T).length ≤ 4096 ∧ ∃ v, e = .returned (.tuple #[v, .nilIface]) ∧ Own .u64 w' w.heap.size 35 v (words T) ∧ Below w.heap.size w w') ∨
  (4096 < (words T).length ∧ ∃ t a, e = .returned (.tuple #[.slice none 0 0, .iface t (.pointer (some a))]) ∧ Below w.heap.size w w')
set_option maxHeartbeats 3200000 in
set_option maxRecDepth 100000 in
theorem parse_good (s : ByteArray) (b : Int) (hb : 2 ≤ b) (hb9 : b ≤ 36) (hs : s.size ≤ 10000000) (h0 : 0 < s.size) (hd : ∀ i, i < s.size → dgt s i < b) (w : World) :
    Calls Tryd.prog 19 #[.string s, .int .i64 b] w (ParsePost w (numB s b s.size)) := by
  have hk : knownB b = true := by unfold knownB; simp; omega
  have kc := known_any b w
  rw [hk] at kc
  have wc := wrong_any s b hb hb9 (by unfold maxLen; omega) w
  go_enter Tryd.func19, Tryd.ntmps19
  go_wp2_with fail
  refine kc.mono ?_
  rintro e w' ⟨rfl, rfl⟩
  go_wp2_with fail
  refine wc.mono ?_
  rintro e w1 ⟨at', ok, rfl, hwr, hb1⟩
  have hok : ok = false := by
    rcases hwr with ⟨_, q1, q2, _⟩ | ⟨_, q1, _⟩ | ⟨q, _⟩
    · have := hd at' q1; omega
    · omega
    · exact q
  subst hok
  clear kc wc hk hwr
  go_wp2_with fail
  refine (trimLeft_any s w1).mono ?_
  rintro e w' ⟨t, rfl, ⟨k, hF, hz, hnz⟩, rfl⟩
  have hts := hF.size
  have hkk := hF.2
  have hT : Hid (numB t b t.size = numB s b s.size) := by
    show _ = _
    rw [numB_from hF hz, hts]
    congr 1; omega
  have htd : ∀ i, i < t.size → dgt t i < b := fun i hi => by rw [from_dgt hF]; exact hd _ (by omega)
  have htp : Hid (1 ≤ t.size → b ^ (t.size - 1) ≤ numB t b t.size) := fun q => by
    have p0 : 1 ≤ dgt t 0 := by
      rw [from_dgt hF, Nat.add_zero]
      exact dgt_pos (hnz (by omega))
    have := numB_ge hb p0 (t.size - 1)
    rw [show t.size - 1 + 1 = t.size by omega] at this
    exact this
  have hsz : t.size ≤ 10000000 := by omega
  clear hF hz hnz hts hkk hd
  have hsh := surelyHuge_any t.size b hb hb9 (by omega) w1
  go_wp2_with fail
  refine hsh.mono ?_
  rintro e w2 ⟨H, rfl, hH, hb2⟩
  have hB2 := hb1.trans (hb2.mono hb1.size)
  clear hsh
  cases H with
  | true =>
    obtain ⟨q1, q2⟩ := hH rfl
    have hbig := q2 _ (htp.out q1)
    rw [hT.out] at hbig
    clear q2 htp hT hH
    go_wp2_with fail
    refine (wrap_any 0 21 w2).mono ?_
    rintro e w3 ⟨ty, ad, rfl, hb3⟩
    have hB3 := hB2.trans (hb3.mono hB2.size)
    go_wp2
    go_ret2
    exact Or.inr ⟨hbig, _, _, rfl, hB3⟩
  | false =>
    clear hH htp
    have hnm := number_any t b hb hb9 (by omega) htd w2
    rw [hT.out] at hnm
    go_wp2_with fail
    refine hnm.mono ?_
    rintro e w3 ⟨v, rfl, hv, hb3⟩
    have hB3 := hB2.trans (hb3.mono hB2.size)
    have hv3 := hv.wider hB2.size
    obtain ⟨va, vc, rfl, hvr⟩ := hv.readsC
    clear hnm hvr hv
    by_cases hbig : 4096 < (words (numB s b s.size)).length
    · have HB : Hid (4096 < (words (numB s b s.size)).length) := hbig
      clear hv3
      generalize hl : (words (numB s b s.size)).length = l at *
      have HL : Hid ((words (numB s b s.size)).length = l) := hl
      clear hl
      go_wp2_with fail
      refine (wrap_any 0 21 w3).mono ?_
      rintro e w4 ⟨ty, ad, rfl, hb4⟩
      have hB4 := hB3.trans (hb4.mono hB3.size)
      go_wp2
      go_ret2
      exact Or.inr ⟨by rw [HL.out]; exact HB.out, _, _, rfl, hB4⟩
    · have HB : Hid ((words (numB s b s.size)).length ≤ 4096) := by show _ ≤ _; omega
      have HV : Hid (Own .u64 w3 w.heap.size 35 (.slice va (words (numB s b s.size)).length vc) (words (numB s b s.size))) := hv3
      clear hv3
      generalize hl : (words (numB s b s.size)).length = l at *
      have HL : Hid ((words (numB s b s.size)).length = l) := hl
      clear hl
      go_wp2
      go_ret2
      exact Or.inl ⟨by rw [HL.out]; exact HB.out, _, rfl, by exact HV.out, hB3⟩
end Go.Proofs.YtmenhfnakcdnnabDoor

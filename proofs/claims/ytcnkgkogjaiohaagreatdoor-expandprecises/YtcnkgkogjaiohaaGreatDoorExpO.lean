/- Layer 13: the document's Digits. -/
import Derived.Test.YtcnkgkogjaiohaaGreatDoorExpJ
import Derived.Test.YtcnkgkogjaiohaaGreatDoorBaseI
import Derived.Test.YtcnkgkogjaiohaaGreatDoorBaseG
import Derived.Test.YtcnkgkogjaiohaaGreatDoorRef3MulW
import Derived.Test.YtcnkgkogjaiohaaGreatDoorRef3Shl
import Derived.Test.YtcnkgkogjaiohaaGreatDoorBaseJ
namespace Go.Proofs.YtcnkgkogjaiohaaGreatDoor
open Go.ChangeShapes Go.WideShapes Go.ChangeAt Go.RowKit
open Na Ar Ep
set_option linter.unusedVariables false
namespace Ep
theorem bits_of_lt {X : Nat} {k : Nat} (h : Lt (X : Int) k) (hk : k ≤ 4096) : bitsN (X : Int) ≤ 262144 := by
  have h1 : X < 18446744073709551616 ^ k := by
    have := h.2
    have e : ((18446744073709551616 ^ k : Nat) : Int) = (18446744073709551616 : Int) ^ k := by rw [Int.natCast_pow]; rfl
    rw [← e] at this
    omega
  rw [show (18446744073709551616 : Nat) = 2 ^ 64 from rfl, ← Nat.pow_mul] at h1
  unfold bitsN
  split
  · omega
  · have hX : X ≠ 0 := by omega
    rw [Int.toNat_natCast]
    have := (Nat.log2_lt hX).2 h1
    omega
end Ep
set_option maxHeartbeats 3200000 in
set_option maxRecDepth 100000 in
theorem rdigits_fin {b : Int} (hu : U b) (hf : ef b ≠ 2047) (w : World) :
    Calls Tryz.prog 44 #[.int .u64 b] w fun e w' => ∃ (N L : Nat) (x : Int), e = .returned (.tuple #[.string ⟨(dg L N).toArray⟩, .int .i64 x, .int .i64 0]) ∧ Dz (szA b) N L x ∧ (1 ≤ L ∧ L ≤ 1300 ∧ -1100 ≤ x ∧ x ≤ 1300) ∧ Below w.heap.size w w' := by
  have hSp := fun w => r6Split_any hu w
  have hE : fiE b = 0 := by unfold fiE; rw [if_neg hf]
  rw [hE] at hSp
  obtain ⟨P, e1, e2', e3, e4, e5, e6, e7⟩ := num_parts hu hf
  by_cases h0 : spM b = 0
  · have hA : szA b = 0 := by unfold szA; rw [e7, h0, Int.zero_mul]; rfl
    rw [hA]
    rw [h0] at hSp
    generalize spS b = sS at *
    generalize spX b = sX at *
    clear hE e7 h0 hA e1 e2' e3 e4 e5 e6
    go_enter Tryz.func44, Tryz.ntmps44
    go_wp2_with (refine (hSp _).mono ?_; rintro e w' ⟨rfl, rfl⟩)
    refine bodyPost_ret (v := .tuple #[.string ⟨#[48]⟩, .int .i64 0, .int .i64 0]) (by simp [results, Tryz.results44, go_sem]) rfl ?_
    exact ⟨0, 1, 0, rfl, Or.inl ⟨rfl, rfl, rfl, rfl⟩, by omega, Below.refl _ _⟩
  · obtain ⟨m, hm⟩ := Int.eq_ofNat_of_zero_le e3
    have hm0 : 0 < m := by omega
    have hsz : szA b = m * 2 ^ P := by
      unfold szA
      rw [e7, hm]
      have : ((m : Int) * 2 ^ P) = ((m * 2 ^ P : Nat) : Int) := by push_cast; rfl
      rw [this]
      rfl
    have hA0 : 0 < szA b := by rw [hsz]; exact Nat.mul_pos hm0 (Nat.pow_pos (by omega))
    have hmU : (m : Int) < 18446744073709551616 := by omega
    have hmz : ((m : Int) == 0) = false := by simp; omega
    have hxb : -1074 ≤ spX b ∧ spX b ≤ 971 := by omega
    have HP : Hid (spX b + 1074 = P) := e1
    rw [hm] at hSp
    generalize hsX : spX b = sX at *
    generalize spS b = sS at *
    generalize szA b = A at *
    have lm : Lt (m : Int) 1 := Lt.word ⟨by omega, hmU⟩
    have nm1 : Nm [(m : Int)] (m : Int) := Nm.one ⟨by omega, hmU⟩
    -- what Trim and Text make of a whole number
    have FIN : ∀ (X p : Nat) (T : Int), 0 < X → Lt (X : Int) 60 → (∀ N L k : Nat, X = N * 10 ^ k → 1 ≤ L → 10 ^ (L - 1) ≤ N → N < 10 ^ L → N % 10 ≠ 0 → Dec A N L ((k : Int) + T)) → ∀ (w1 : World) (a1 : Option Addr) (n1 c1 : Nat), RowC w1 a1 n1 c1 (words (X : Int)) → Calls Tryz.prog 88 #[.slice a1 n1 c1] w1 fun e w2 => ∃ (a2 : Option Addr) (n2 c2 k N L : Nat), e = .returned (.tuple #[.slice a2 n2 c2, .int .i64 (k : Int)]) ∧ (k < 1300 ∧ 1 ≤ L ∧ L ≤ 1300) ∧ Dec A N L ((k : Int) + T) ∧ (∀ w3, Below w2.heap.size w2 w3 → Calls Tryz.prog 89 #[.slice a2 n2 c2, .int .i64 10] w3 fun e w4 => e = .returned (.tuple #[.string ⟨(dg L N).toArray⟩, .int .i64 0]) ∧ Below w3.heap.size w3 w4) ∧ Below w1.heap.size w1 w2 := by
      intro X p T hX0 hL hdec w1 a1 n1 c1 hr
      have hnm := hL.nm (by omega)
      have hlen := hL.len
      refine (refTrim4_any hr hnm.ws (by have := hr.1.1; omega)).mono ?_
      rintro e w2 ⟨a2, n2, c2, V, k, rfl, ⟨r2, htr, h10⟩, hb⟩
      rw [hnm.num] at htr h10
      obtain ⟨hV0, hVX, _⟩ := htr
      obtain ⟨N, rfl⟩ := Int.eq_ofNat_of_zero_le hV0
      have hNX : X = N * 10 ^ k := by exact_mod_cast hVX
      have hN10 : N % 10 ≠ 0 := by have := h10 (by omega); omega
      have hN0 : 0 < N := by
        rcases Nat.eq_zero_or_pos N with z | z
        · rw [z] at hN10; exact absurd rfl hN10
        · exact z
      obtain ⟨L, hL1, hLo, hLi⟩ := digits_of N hN0
      have hk9 : k < 1300 := lt_ten hL (pow_le_mul hNX hN0)
      have hL9 : L ≤ 1300 := by
        have := lt_ten hL (Nat.le_trans hLo (le_mul_pow hNX))
        omega
      have hLN : Lt (N : Int) 60 := hL.le (by omega) (by exact_mod_cast le_mul_pow hNX)
      have m4 := hLN.nm (by omega)
      refine ⟨a2, n2, c2, k, N, L, rfl, ⟨hk9, hL1, hL9⟩, hdec N L k hNX hL1 hLo hLi hN10, fun w3 hb3 => ?_, hb⟩
      have r3 := r2.later hb3
      refine (refText4_any r3 m4.ws (by have := hLN.len; have := r3.1.1; omega) (by omega) (by omega) (by rw [m4.num]; exact bits_of_lt hLN (by omega)) (by rw [m4.num]; omega)).mono ?_
      rintro e w4 ⟨t4, rfl, ht4, hb4⟩
      rw [m4.num] at ht4
      have hdt := text10 ht4 rfl hL1 hLo hLi
      have : t4 = ⟨(dg L N).toArray⟩ := by
        apply ByteArray.ext
        apply Array.ext'
        simpa using hdt
      exact ⟨by rw [this], hb4⟩
    have r1 := rowC_one w (m : Int) 22
    have hba := alloc_below (w := w) (.cells #[.int .u64 (m : Int)] 22)
    obtain ⟨w0, hw0⟩ : ∃ w0, w0 = w.alloc (.cells #[.int .u64 (m : Int)] 22) := ⟨_, rfl⟩
    rw [← hw0] at r1 hba
    by_cases hx : 0 ≤ sX
    · obtain ⟨t, rfl⟩ := Int.eq_ofNat_of_zero_le hx
      obtain ⟨X, hX⟩ : ∃ X, X = m * 2 ^ t := ⟨_, rfl⟩
      have hX0 : 0 < X := by rw [hX]; exact Nat.mul_pos hm0 (Nat.pow_pos (by omega))
      have hXi : (m : Int) * 2 ^ t = (X : Int) := by rw [hX]; push_cast; rfl
      have hLX : Lt (X : Int) 60 := by rw [← hXi]; exact (lm.pow2 (t := t)).mono (by omega)
      have hSh := ref3Shl_any (c1 := 1) r1.1 nm1.ws (by omega) t (by omega)
      rw [nm1.num, hXi] at hSh
      have hdec : ∀ N L k : Nat, X = N * 10 ^ k → 1 ≤ L → 10 ^ (L - 1) ≤ N → N < 10 ^ L → N % 10 ≠ 0 → Dec A N L ((k : Int) + 0) := fun N L k h1 h2 h3 h4 h5 => by
        have := dec_of (A := A) (B := X) (p := 0) (by omega) (by
          have hd : dX = 1074 := rfl
          have hPt : P = t + (dX - 0) := by have := HP.out; omega
          rw [hsz, hX, Nat.mul_assoc, ← Nat.pow_add, hPt]) (by rw [Nat.pow_zero, Nat.mul_one]; exact h1) h2 h3 h4 h5
        simpa using this
      have hT := FIN X 0 0 hX0 hLX hdec
      clear FIN hdec hsz e7 hm lm nm1 hXi hX HP hsX e1 e2' e3 e4 e5 e6 h0 hE
      go_enter Tryz.func44, Tryz.ntmps44
      go_wp2_with fail
      refine (hSp _).mono ?_
      rintro e w1 ⟨rfl, rfl⟩
      clear hSp
      go_wp2_with fail
      rw [← hw0]
      clear hw0
      refine hSh.mono ?_
      rintro e w2 ⟨v2, rfl, ho2, hb2⟩
      obtain ⟨a2, c2, rfl, r2⟩ := ho2.readsC
      have hB2 := hba.trans (hb2.mono hba.size)
      have hT2 := hT w2 a2 _ c2 r2
      clear hSh hT hb2 ho2 r2 hba r1
      go_wp2_with fail
      refine hT2.mono ?_
      rintro e w3 ⟨a3, n3, c3, k, N, L, rfl, hbd, hDec, hTx, hb3⟩
      have hB3 := hB2.trans (hb3.mono hB2.size)
      have hTx3 := hTx w3 (Below.refl _ _)
      have hk1 : (k : Int) < 1300 := by omega
      clear hT2 hb3 hTx hB2
      go_wp2_with fail
      refine hTx3.mono ?_
      rintro e w4 ⟨rfl, hb4⟩
      have hB4 := hB3.trans (hb4.mono hB3.size)
      clear hTx3 hb4 hB3
      obtain ⟨DL, hDL⟩ : ∃ DL, DL = dg L N := ⟨_, rfl⟩
      rw [← hDL]
      have HDL : Hid (dg L N = DL) := hDL.symm
      clear hDL
      go_wp2
      refine bodyPost_ret (v := .tuple #[.string ⟨DL.toArray⟩, .int .i64 (k : Int), .int .i64 0]) (by simp [results, Tryz.results44, go_sem]) rfl ?_
      exact ⟨N, L, (k : Int), by rw [HDL.out], Or.inr ⟨hA0, by simpa using hDec⟩, by omega, hB4⟩
    · obtain ⟨p, hp⟩ : ∃ p : Nat, -sX = (p : Int) := ⟨(-sX).toNat, by omega⟩
      obtain ⟨X, hX⟩ : ∃ X, X = m * 5 ^ p := ⟨_, rfl⟩
      have hX0 : 0 < X := by rw [hX]; exact Nat.mul_pos hm0 (Nat.pow_pos (by omega))
      have hXi : (m : Int) * 5 ^ p = (X : Int) := by rw [hX]; push_cast; rfl
      have l5 : Lt ((5 : Int) ^ p) 40 := pow_lt (b := 5) (m := 1100) (n := p) (by omega) five_big (by omega)
      have hLX : Lt (X : Int) 60 := by rw [← hXi]; exact (lm.mul l5).mono (by omega)
      have hPw := fun w => power_any (b := 5) (by omega) p (by omega) w
      rw [← hp] at hPw
      have hs0 : sX < 0 := by omega
      have hs1 : -1074 ≤ sX := by omega
      have n5 := l5.nm (by omega)
      have hdec : ∀ N L k : Nat, X = N * 10 ^ k → 1 ≤ L → 10 ^ (L - 1) ≤ N → N < 10 ^ L → N % 10 ≠ 0 → Dec A N L ((k : Int) + sX) := fun N L k h1 h2 h3 h4 h5 => by
        have := dec_of (A := A) (B := m) (p := p) (by have : dX = 1074 := rfl; omega) (by
          have hd : dX = 1074 := rfl
          have hPt : dX - p = P := by have := HP.out; omega
          rw [hsz, hPt]) (by rw [← hX]; exact h1) h2 h3 h4 h5
        rwa [show (k : Int) - (p : Int) = (k : Int) + sX by omega] at this
      have hT := FIN X 0 sX hX0 hLX hdec
      have l5n := l5.len
      have HXi : Hid ((m : Int) * 5 ^ p = (X : Int)) := hXi
      have HN5 : Hid (Nm (words (5 ^ p)) (5 ^ p)) := n5
      have HL5 : Hid ((words ((5 : Int) ^ p)).length ≤ 40) := l5n
      clear hXi n5 l5n l5 hLX hp hx hxb
      clear FIN hdec hsz e7 hm hX HP hsX e1 e2' e3 e4 e5 e6 h0 hE lm
      generalize (5 : Int) ^ p = F5 at *
      have hd0 : decide (0 ≤ sX) = false := by simp; omega
      have HT : Hid _ := hT
      have HPw : Hid _ := hPw
      have HR1 : Hid _ := r1
      clear hT hPw r1
      go_enter Tryz.func44, Tryz.ntmps44
      go_wp2_with fail
      refine (hSp _).mono ?_
      rintro e w1 ⟨rfl, rfl⟩
      clear hSp
      go_wp2_with fail
      rw [← hw0]
      clear hw0
      have hPw := HPw.out
      have r1 := HR1.out
      have hT := HT.out
      refine (hPw _).mono ?_
      rintro e w2 ⟨a2, l2, c2, rfl, r2, hb2⟩
      have hB2 := hba.trans (hb2.mono hba.size)
      have hM := ref3Mul_any (c1 := 1) (c2 := c2) (r1.1.later hb2) r2.1 nm1.ws HN5.out.ws (by omega) (by have := r2.1.1; have := HL5.out; omega)
      rw [nm1.num, HN5.out.num, HXi.out] at hM
      clear hPw hb2 r2 hba r1
      go_wp2_with fail
      refine hM.mono ?_
      rintro e w2 ⟨v2, rfl, ho2, hb2⟩
      obtain ⟨a2, c2, rfl, r2⟩ := ho2.readsC
      have hB2' := hB2.trans (hb2.mono hB2.size)
      have hT2 := hT w2 a2 _ c2 r2
      clear hM hT hb2 ho2 r2 hB2 nm1
      go_wp2_with fail
      refine hT2.mono ?_
      rintro e w3 ⟨a3, n3, c3, k, N, L, rfl, hbd, hDec, hTx, hb3⟩
      have hB3 := hB2'.trans (hb3.mono hB2'.size)
      have hTx3 := hTx w3 (Below.refl _ _)
      have hk1 : (k : Int) < 1300 := by omega
      clear hT2 hb3 hTx hB2'
      go_wp2_with fail
      refine hTx3.mono ?_
      rintro e w4 ⟨rfl, hb4⟩
      have hB4 := hB3.trans (hb4.mono hB3.size)
      clear hTx3 hb4 hB3
      obtain ⟨DL, hDL⟩ : ∃ DL, DL = dg L N := ⟨_, rfl⟩
      rw [← hDL]
      have HDL : Hid (dg L N = DL) := hDL.symm
      have HC : Hid ((k : Int) + sX = sX + (k : Int)) := Int.add_comm _ _
      rw [HC.out] at hDec
      clear hDL
      go_wp2
      refine bodyPost_ret (v := .tuple #[.string ⟨DL.toArray⟩, .int .i64 (sX + (k : Int)), .int .i64 0]) (by simp [results, Tryz.results44, go_sem]) rfl ?_
      exact ⟨N, L, sX + (k : Int), by rw [HDL.out], Or.inr ⟨hA0, hDec⟩, by omega, hB4⟩
set_option maxHeartbeats 1600000 in
set_option maxRecDepth 100000 in
theorem rdigits_inf {b : Int} (hu : U b) (hf : ef b = 2047) (w : World) :
    Calls Tryz.prog 44 #[.int .u64 b] w fun e w' => e = .returned (.tuple #[.string ⟨#[]⟩, .int .i64 0, .int .i64 60]) ∧ Below w.heap.size w w' := by
  have hSp := fun w => r6Split_any hu w
  have hE : fiE b = 60 := by unfold fiE; rw [if_pos hf]
  rw [hE] at hSp
  go_enter Tryz.func44, Tryz.ntmps44
  go_wp2_with (refine (hSp _).mono ?_; rintro e w' ⟨rfl, rfl⟩)
  refine bodyPost_ret (v := .tuple #[.string ⟨#[]⟩, .int .i64 0, .int .i64 60]) (by simp [results, Tryz.results44, go_sem]) rfl ?_
  exact ⟨rfl, Below.refl _ _⟩
end Go.Proofs.YtcnkgkogjaiohaaGreatDoor

import Derived.Below
import Derived.BigQuiet
import Derived.BigRegion
import Derived.ChangeOld
import Derived.Deep.DeepCutAuto
import Derived.Deep.DeepFit
import Derived.Deep.LoopGhost
import Derived.Deep.QuietTactic
import Derived.Deep.RegionHeld3
import Derived.Deep.RegionHeldLaw
import Derived.Deep.RegionLaw
import Derived.Deep.RegionWith
import Derived.Defers
import Derived.KernelRfl
import Derived.Laws.BitsAllLaws
import Derived.Laws.CopyRow
import Derived.Laws.EntriesVeiled
import Derived.Laws.IdiomCopy
import Derived.Laws.IdiomRangeMap
import Derived.Laws.IdiomStrings
import Derived.Laws.RangeAny
import Derived.Laws.Strings3
import Derived.Lib.AtoiErrMem
import Derived.Lib.BytesEntry
import Derived.Lib.ConvBytes
import Derived.Lib.IndexBytes
import Derived.Lib.MakeNoZero
import Derived.Lib.OthersKept
import Derived.Lib.Strings
import Derived.Lib.TrimByte
import Derived.Lib.Walk
import Derived.OpenShut
import Derived.Orders
import Derived.OwnWalk
import Derived.ProofKit
import Derived.Recover
import Derived.Scope
import Derived.ShutString
import Derived.WalkKit
import Derived.WalkLawsBesides
import Derived.WalkMore
import Derived.WalkSpells
import Derived.Test.YtceecgklgkiffaaGreatDoorXf2
import Derived.Test.YtceecgklgkiffaaGreatDoorXf5
import Derived.Test.YtceecgklgkiffaaGreatDoorXf8
import Derived.Test.YtceecgklgkiffaaGreatDoorXf17
import Derived.Test.YtceecgklgkiffaaGreatDoorXf18
import Derived.Test.YtceecgklgkiffaaGreatDoorXf19
/- Layer 13: the document's Digits. -/
namespace Go.Proofs.YtceecgklgkiffaaGreatDoor
open Go.ChangeShapes Go.WideShapes Go.ChangeAt Go.RowKit
open Na Ar Ep
set_option linter.unusedVariables false
namespace Ep
theorem bits_of_lt {X : Nat} {k : Nat} (h : Lt (X : Int) k) (hk : k ≤ 4096) : bitsN (X : Int) ≤ 262144 := by
  have h1 : X < 18446744073709551616 ^ k := by
    have := h.2
    have e : ((18446744073709551616 ^ k : Nat) : Int) = (18446744073709551616 : Int) ^ k := by rw [Int.natCast_pow]; rfl
    rw [← e] at this
    omega
  rw [show (18446744073709551616 : Nat) = 2 ^ 64 from rfl, ← Nat.pow_mul] at h1
  unfold bitsN
  split
  · omega
  · have hX : X ≠ 0 := by omega
    rw [Int.toNat_natCast]
    have := (Nat.log2_lt hX).2 h1
    omega
end Ep
set_option maxHeartbeats 3200000 in
set_option maxRecDepth 100000 in
theorem rdigits_fin {b : Int} (hu : U b) (hf : ef b ≠ 2047) (w : World) :
    Calls Tryz.prog 44 #[.int .u64 b] w fun e w' => ∃ (N L : Nat) (x : Int), e = .returned (.tuple #[.string ⟨(dg L N).toArray⟩, .int .i64 x, .int .i64 0]) ∧ Dz (szA b) N L x ∧ (1 ≤ L ∧ L ≤ 1300 ∧ -1100 ≤ x ∧ x ≤ 1300) ∧ Below w.heap.size w w' := by
  have hSp := fun w => r6Split_any hu w
  have hE : fiE b = 0 := by unfold fiE; rw [if_neg hf]
  rw [hE] at hSp
  obtain ⟨P, e1, e2', e3, e4, e5, e6, e7⟩ := num_parts hu hf
  by_cases h0 : spM b = 0
  · have hA : szA b = 0 := by unfold szA; rw [e7, h0, Int.zero_mul]; rfl
    rw [hA]
    rw [h0] at hSp
    generalize spS b = sS at *
    generalize spX b = sX at *
    clear hE e7 h0 hA e1 e2' e3 e4 e5 e6
    go_enter Tryz.func44, Tryz.ntmps44
    go_wp2_with (refine (hSp _).mono ?_; rintro e w' ⟨rfl, rfl⟩)
    refine bodyPost_ret (v := .tuple #[.string ⟨#[48]⟩, .int .i64 0, .int .i64 0]) (by simp [results, Tryz.results44, go_sem]) rfl ?_
    exact ⟨0, 1, 0, rfl, Or.inl ⟨rfl, rfl, rfl, rfl⟩, by omega, Below.refl _ _⟩
  · obtain ⟨m, hm⟩ := Int.eq_ofNat_of_zero_le e3
    have hm0 : 0 < m := by omega
    have hsz : szA b = m * 2 ^ P := by
      unfold szA
      rw [e7, hm]
      have : ((m : Int) * 2 ^ P) = ((m * 2 ^ P : Nat) : Int) := by push_cast; rfl
      rw [this]
      rfl
    have hA0 : 0 < szA b := by rw [hsz]; exact Nat.mul_pos hm0 (Nat.pow_pos (by omega))
    have hmU : (m : Int) < 18446744073709551616 := by omega
    have hmz : ((m : Int) == 0) = false := by simp; omega
    have hxb : -1074 ≤ spX b ∧ spX b ≤ 971 := by omega
    have HP : Hid (spX b + 1074 = P) := e1
    rw [hm] at hSp
    generalize hsX : spX b = sX at *
    generalize spS b = sS at *
    generalize szA b = A at *
    have lm : Lt (m : Int) 1 := Lt.word ⟨by omega, hmU⟩
    have nm1 : Nm [(m : Int)] (m : Int) := Nm.one ⟨by omega, hmU⟩
    -- what Trim and Text make of a whole number
    have FIN : ∀ (X p : Nat) (T : Int), 0 < X → Lt (X : Int) 60 → (∀ N L k : Nat, X = N * 10 ^ k → 1 ≤ L → 10 ^ (L - 1) ≤ N → N < 10 ^ L → N % 10 ≠ 0 → Dec A N L ((k : Int) + T)) → ∀ (w1 : World) (a1 : Option Addr) (n1 c1 : Nat), RowC w1 a1 n1 c1 (words (X : Int)) → Calls Tryz.prog 88 #[.slice a1 n1 c1] w1 fun e w2 => ∃ (a2 : Option Addr) (n2 c2 k N L : Nat), e = .returned (.tuple #[.slice a2 n2 c2, .int .i64 (k : Int)]) ∧ (k < 1300 ∧ 1 ≤ L ∧ L ≤ 1300) ∧ Dec A N L ((k : Int) + T) ∧ (∀ w3, Below w2.heap.size w2 w3 → Calls Tryz.prog 89 #[.slice a2 n2 c2, .int .i64 10] w3 fun e w4 => e = .returned (.tuple #[.string ⟨(dg L N).toArray⟩, .int .i64 0]) ∧ Below w3.heap.size w3 w4) ∧ Below w1.heap.size w1 w2 := by
      intro X p T hX0 hL hdec w1 a1 n1 c1 hr
      have hnm := hL.nm (by omega)
      have hlen := hL.len
      refine (refTrim4_any hr hnm.ws (by have := hr.1.1; omega)).mono ?_
      rintro e w2 ⟨a2, n2, c2, V, k, rfl, ⟨r2, htr, h10⟩, hb⟩
      rw [hnm.num] at htr h10
      obtain ⟨hV0, hVX, _⟩ := htr
      obtain ⟨N, rfl⟩ := Int.eq_ofNat_of_zero_le hV0
      have hNX : X = N * 10 ^ k := by exact_mod_cast hVX
      have hN10 : N % 10 ≠ 0 := by have := h10 (by omega); omega
      have hN0 : 0 < N := by
        rcases Nat.eq_zero_or_pos N with z | z
        · rw [z] at hN10; exact absurd rfl hN10
        · exact z
      obtain ⟨L, hL1, hLo, hLi⟩ := digits_of N hN0
      have hk9 : k < 1300 := lt_ten hL (pow_le_mul hNX hN0)
      have hL9 : L ≤ 1300 := by
        have := lt_ten hL (Nat.le_trans hLo (le_mul_pow hNX))
        omega
      have hLN : Lt (N : Int) 60 := hL.le (by omega) (by exact_mod_cast le_mul_pow hNX)
      have m4 := hLN.nm (by omega)
      refine ⟨a2, n2, c2, k, N, L, rfl, ⟨hk9, hL1, hL9⟩, hdec N L k hNX hL1 hLo hLi hN10, fun w3 hb3 => ?_, hb⟩
      have r3 := r2.later hb3
      refine (refText4_any r3 m4.ws (by have := hLN.len; have := r3.1.1; omega) (by omega) (by omega) (by rw [m4.num]; exact bits_of_lt hLN (by omega)) (by rw [m4.num]; omega)).mono ?_
      rintro e w4 ⟨t4, rfl, ht4, hb4⟩
      rw [m4.num] at ht4
      have hdt := text10 ht4 rfl hL1 hLo hLi
      have : t4 = ⟨(dg L N).toArray⟩ := by
        apply ByteArray.ext
        apply Array.ext'
        simpa using hdt
      exact ⟨by rw [this], hb4⟩
    have r1 := rowC_one w (m : Int) 22
    have hba := alloc_below (w := w) (.cells #[.int .u64 (m : Int)] 22)
    obtain ⟨w0, hw0⟩ : ∃ w0, w0 = w.alloc (.cells #[.int .u64 (m : Int)] 22) := ⟨_, rfl⟩
    rw [← hw0] at r1 hba
    by_cases hx : 0 ≤ sX
    · obtain ⟨t, rfl⟩ := Int.eq_ofNat_of_zero_le hx
      obtain ⟨X, hX⟩ : ∃ X, X = m * 2 ^ t := ⟨_, rfl⟩
      have hX0 : 0 < X := by rw [hX]; exact Nat.mul_pos hm0 (Nat.pow_pos (by omega))
      have hXi : (m : Int) * 2 ^ t = (X : Int) := by rw [hX]; push_cast; rfl
      have hLX : Lt (X : Int) 60 := by rw [← hXi]; exact (lm.pow2 (t := t)).mono (by omega)
      have hSh := ref3Shl_any (c1 := 1) r1.1 nm1.ws (by omega) t (by omega)
      rw [nm1.num, hXi] at hSh
      have hdec : ∀ N L k : Nat, X = N * 10 ^ k → 1 ≤ L → 10 ^ (L - 1) ≤ N → N < 10 ^ L → N % 10 ≠ 0 → Dec A N L ((k : Int) + 0) := fun N L k h1 h2 h3 h4 h5 => by
        have := dec_of (A := A) (B := X) (p := 0) (by omega) (by
          have hd : dX = 1074 := rfl
          have hPt : P = t + (dX - 0) := by have := HP.out; omega
          rw [hsz, hX, Nat.mul_assoc, ← Nat.pow_add, hPt]) (by rw [Nat.pow_zero, Nat.mul_one]; exact h1) h2 h3 h4 h5
        simpa using this
      have hT := FIN X 0 0 hX0 hLX hdec
      clear FIN hdec hsz e7 hm lm nm1 hXi hX HP hsX e1 e2' e3 e4 e5 e6 h0 hE
      go_enter Tryz.func44, Tryz.ntmps44
      go_wp2_with fail
      refine (hSp _).mono ?_
      rintro e w1 ⟨rfl, rfl⟩
      clear hSp
      go_wp2_with fail
      rw [← hw0]
      clear hw0
      refine hSh.mono ?_
      rintro e w2 ⟨v2, rfl, ho2, hb2⟩
      obtain ⟨a2, c2, rfl, r2⟩ := ho2.readsC
      have hB2 := hba.trans (hb2.mono hba.size)
      have hT2 := hT w2 a2 _ c2 r2
      clear hSh hT hb2 ho2 r2 hba r1
      go_wp2_with fail
      refine hT2.mono ?_
      rintro e w3 ⟨a3, n3, c3, k, N, L, rfl, hbd, hDec, hTx, hb3⟩
      have hB3 := hB2.trans (hb3.mono hB2.size)
      have hTx3 := hTx w3 (Below.refl _ _)
      have hk1 : (k : Int) < 1300 := by omega
      clear hT2 hb3 hTx hB2
      go_wp2_with fail
      refine hTx3.mono ?_
      rintro e w4 ⟨rfl, hb4⟩
      have hB4 := hB3.trans (hb4.mono hB3.size)
      clear hTx3 hb4 hB3
      obtain ⟨DL, hDL⟩ : ∃ DL, DL = dg L N := ⟨_, rfl⟩
      rw [← hDL]
      have HDL : Hid (dg L N = DL) := hDL.symm
      clear hDL
      go_wp2
      refine bodyPost_ret (v := .tuple #[.string ⟨DL.toArray⟩, .int .i64 (k : Int), .int .i64 0]) (by simp [results, Tryz.results44, go_sem]) rfl ?_
      exact ⟨N, L, (k : Int), by rw [HDL.out], Or.inr ⟨hA0, by simpa using hDec⟩, by omega, hB4⟩
    · obtain ⟨p, hp⟩ : ∃ p : Nat, -sX = (p : Int) := ⟨(-sX).toNat, by omega⟩
      obtain ⟨X, hX⟩ : ∃ X, X = m * 5 ^ p := ⟨_, rfl⟩
      have hX0 : 0 < X := by rw [hX]; exact Nat.mul_pos hm0 (Nat.pow_pos (by omega))
      have hXi : (m : Int) * 5 ^ p = (X : Int) := by rw [hX]; push_cast; rfl
      have l5 : Lt ((5 : Int) ^ p) 40 := pow_lt (b := 5) (m := 1100) (n := p) (by omega) five_big (by omega)
      have hLX : Lt (X : Int) 60 := by rw [← hXi]; exact (lm.mul l5).mono (by omega)
      have hPw := fun w => power_any (b := 5) (by omega) p (by omega) w
      rw [← hp] at hPw
      have hs0 : sX < 0 := by omega
      have hs1 : -1074 ≤ sX := by omega
      have n5 := l5.nm (by omega)
      have hdec : ∀ N L k : Nat, X = N * 10 ^ k → 1 ≤ L → 10 ^ (L - 1) ≤ N → N < 10 ^ L → N % 10 ≠ 0 → Dec A N L ((k : Int) + sX) := fun N L k h1 h2 h3 h4 h5 => by
        have := dec_of (A := A) (B := m) (p := p) (by have : dX = 1074 := rfl; omega) (by
          have hd : dX = 1074 := rfl
          have hPt : dX - p = P := by have := HP.out; omega
          rw [hsz, hPt]) (by rw [← hX]; exact h1) h2 h3 h4 h5
        rwa [show (k : Int) - (p : Int) = (k : Int) + sX by omega] at this
      have hT := FIN X 0 sX hX0 hLX hdec
      have l5n := l5.len
      have HXi : Hid ((m : Int) * 5 ^ p = (X : Int)) := hXi
      have HN5 : Hid (Nm (words (5 ^ p)) (5 ^ p)) := n5
      have HL5 : Hid ((words ((5 : Int) ^ p)).length ≤ 40) := l5n
      clear hXi n5 l5n l5 hLX hp hx hxb
      clear FIN hdec hsz e7 hm hX HP hsX e1 e2' e3 e4 e5 e6 h0 hE lm
      generalize (5 : Int) ^ p = F5 at *
      have hd0 : decide (0 ≤ sX) = false := by simp; omega
      have HT : Hid _ := hT
      have HPw : Hid _ := hPw
      have HR1 : Hid _ := r1
      clear hT hPw r1
      go_enter Tryz.func44, Tryz.ntmps44
      go_wp2_with fail
      refine (hSp _).mono ?_
      rintro e w1 ⟨rfl, rfl⟩
      clear hSp
      go_wp2_with fail
      rw [← hw0]
      clear hw0
      have hPw := HPw.out
      have r1 := HR1.out
      have hT := HT.out
      refine (hPw _).mono ?_
      rintro e w2 ⟨a2, l2, c2, rfl, r2, hb2⟩
      have hB2 := hba.trans (hb2.mono hba.size)
      have hM := ref3Mul_any (c1 := 1) (c2 := c2) (r1.1.later hb2) r2.1 nm1.ws HN5.out.ws (by omega) (by have := r2.1.1; have := HL5.out; omega)
      rw [nm1.num, HN5.out.num, HXi.out] at hM
      clear hPw hb2 r2 hba r1
      go_wp2_with fail
      refine hM.mono ?_
      rintro e w2 ⟨v2, rfl, ho2, hb2⟩
      obtain ⟨a2, c2, rfl, r2⟩ := ho2.readsC
      have hB2' := hB2.trans (hb2.mono hB2.size)
      have hT2 := hT w2 a2 _ c2 r2
      clear hM hT hb2 ho2 r2 hB2 nm1
      go_wp2_with fail
      refine hT2.mono ?_
      rintro e w3 ⟨a3, n3, c3, k, N, L, rfl, hbd, hDec, hTx, hb3⟩
      have hB3 := hB2'.trans (hb3.mono hB2'.size)
      have hTx3 := hTx w3 (Below.refl _ _)
      have hk1 : (k : Int) < 1300 := by omega
      clear hT2 hb3 hTx hB2'
      go_wp2_with fail
      refine hTx3.mono ?_
      rintro e w4 ⟨rfl, hb4⟩
      have hB4 := hB3.trans (hb4.mono hB3.size)
      clear hTx3 hb4 hB3
      obtain ⟨DL, hDL⟩ : ∃ DL, DL = dg L N := ⟨_, rfl⟩
      rw [← hDL]
      have HDL : Hid (dg L N = DL) := hDL.symm
      have HC : Hid ((k : Int) + sX = sX + (k : Int)) := Int.add_comm _ _
      rw [HC.out] at hDec
      clear hDL
      go_wp2
      refine bodyPost_ret (v := .tuple #[.string ⟨DL.toArray⟩, .int .i64 (sX + (k : Int)), .int .i64 0]) (by simp [results, Tryz.results44, go_sem]) rfl ?_
      exact ⟨N, L, sX + (k : Int), by rw [HDL.out], Or.inr ⟨hA0, hDec⟩, by omega, hB4⟩
set_option maxHeartbeats 1600000 in
set_option maxRecDepth 100000 in
theorem rdigits_inf {b : Int} (hu : U b) (hf : ef b = 2047) (w : World) :
    Calls Tryz.prog 44 #[.int .u64 b] w fun e w' => e = .returned (.tuple #[.string ⟨#[]⟩, .int .i64 0, .int .i64 60]) ∧ Below w.heap.size w w' := by
  have hSp := fun w => r6Split_any hu w
  have hE : fiE b = 60 := by unfold fiE; rw [if_pos hf]
  rw [hE] at hSp
  go_enter Tryz.func44, Tryz.ntmps44
  go_wp2_with (refine (hSp _).mono ?_; rintro e w' ⟨rfl, rfl⟩)
  refine bodyPost_ret (v := .tuple #[.string ⟨#[]⟩, .int .i64 0, .int .i64 60]) (by simp [results, Tryz.results44, go_sem]) rfl ?_
  exact ⟨rfl, Below.refl _ _⟩
end Go.Proofs.YtceecgklgkiffaaGreatDoor

/- Layer 13: the document's zeros, plus, rounded. -/
namespace Go.Proofs.YtceecgklgkiffaaGreatDoor
open Go.ChangeShapes Go.WideShapes Go.ChangeAt Go.RowKit
open Na Ar Ep
set_option linter.unusedVariables false
theorem bytesW13 (w : World) (t : ByteArray) (l : List UInt8) (ht : t.data.toList = l) (hl : l.length ≤ 100000) : ∃ (c : Nat) (w' : World), (convert 9 60 (.string t)).run Tryz.prog w = .ok (.slice (some ⟨w.heap.size, 0, none⟩) l.length c) w' ∧ (l.length ≤ c ∧ c ≤ 9223372036854775807) ∧ Wr w' w.heap.size w.heap.size l.length l ∧ Below w.heap.size w w' := by
  have hs : t.size = l.length := by rw [Lib.size_eq, ht]
  have hr := Lib.run_convert_string_bytes (P := Tryz.prog) w 9 60 5 t (u := .string) Tryz.underlying9 Tryz.underlying60 Tryz.underlying5
  have hge := grownCap_ge w t.size 0 5
  have hle := grownCap_le_maxLen w t.size 0 5 (by unfold maxLen; omega)
  rw [hs] at hr hge hle
  refine ⟨_, _, hr, ⟨hge, by unfold maxLen at hle; omega⟩, ⟨Nat.le_refl _, by rw [Lib.bytesWorld_size]; omega, rfl, fun j hj => ?_, fun j hj => ?_⟩, Lib.bytesWorld_below w 5 t⟩
  · have := Lib.bytesWorld_cell w 5 t j (by omega)
    rw [ht] at this
    exact this
  · rw [← hs] at hj
    unfold World.frozen?
    rw [Lib.bytesWorld_at_new]
    have l : t.size ≤ (Lib.bytesCells w 5 t).size := by
      unfold Lib.bytesCells
      have : t.data.size = t.size := rfl
      simp
    simp
    omega
set_option maxHeartbeats 1600000 in
set_option maxRecDepth 100000 in
theorem rzeros_any {n : Nat} (hn : n ≤ 100000) (w : World) : Calls Tryz.prog 46 #[.int .i64 (n : Int)] w fun e w' => e = .returned (.string ⟨(List.replicate n 48).toArray⟩) ∧ Below w.heap.size w w' := by
  obtain ⟨i_u8, hi_u8, hz0_u8, hz1_u8, hz2_u8⟩ := info_parts info8
  have z0 : (n : Int) ≤ 100000 := by omega
  go_enter Tryz.func46, Tryz.ntmps46
  go_wp2
  go_loopg [3, 4] n (fun k s3 s4 wr => ∃ i : Nat, s4 = .int .i64 (i : Int) ∧ i ≤ n ∧ n - i ≤ k ∧ Own .u8 wr w.heap.size 5 s3 (nz (List.replicate i 48)) ∧ Below w.heap.size w wr)
  case atStart => exact ⟨0, rfl, Nat.zero_le _, by omega, own_nil _ _ _ _, Below.refl _ _⟩
  case round =>
    obtain ⟨i, rfl, hi, hk, hO, hB⟩ := hrel
    by_cases hlt : i < n
    · have q0 : (i : Int) < (n : Int) := by omega
      have HW : Hid (List.replicate (i + 1) (48 : UInt8) = List.replicate i 48 ++ [48]) := List.replicate_succ'
      obtain ⟨a3, c3, rfl, hR3⟩ := rb_own hO
      rw [List.length_replicate] at hO ⊢
      have hnl : (nz (List.replicate i (48 : UInt8))).length = i := by rw [nz_len, List.length_replicate]
      have hBs := hB.size
      clear hR3
      go_wp2_with (at_builtin; refine wpList_append_own _ rfl _ _ 60 rfl w.heap.size 5 i_u8 (.int .u8 0) 1 1 Tryz.underlying60 hi_u8 hz0_u8 hz1_u8 hz2_u8 rfl (by decide) _ _ _ rfl (hO.row.alloc _) ⟨wr.heap.size, 0, none⟩ 1 1 [.int .u8 48] rfl rfl one_new one_cell (by rw [hnl]; unfold maxLen; omega) (by rw [hnl]; omega) (by simp; omega) ?_)
      intro v4 w4 hv4 hg4 hn4
      have hO4 : Own .u8 w4 w.heap.size 5 v4 (nz (List.replicate (i + 1) 48)) := by
        rw [HW.out, nz_app]
        exact own_next hv4 hnl.symm
      have hB4 : Below w.heap.size w w4 := grow_below hBs hO.row hB hg4
      clear hv4 hg4 hn4 hO hB hnl
      go_wp2
      go_roundg (n - (i + 1))
      case measure => omega
      case rel => exact ⟨i + 1, by go_num, by omega, by omega, hO4, hB4⟩
    · have hi2 : i = n := by omega
      subst hi2
      obtain ⟨a3, c3, rfl, hR3⟩ := rb_own hO
      have hcv := conv8 hR3
      clear hO hR3
      obtain ⟨DL, hDL⟩ : ∃ DL, DL = List.replicate i (48 : UInt8) := ⟨_, rfl⟩
      rw [← hDL] at hcv ⊢
      have HDL : Hid (List.replicate i (48 : UInt8) = DL) := hDL.symm
      clear hDL
      go_wp2
      go_ret
      exact ⟨by rw [HDL.out]; rfl, hB⟩
namespace Ep
theorem one_app (l : List UInt8) : (⟨#[49]⟩ : ByteArray) ++ ⟨l.toArray⟩ = ⟨(49 :: l).toArray⟩ := by
  apply ByteArray.ext
  simp
theorem two_app (l m : List UInt8) : (⟨l.toArray⟩ : ByteArray) ++ ⟨m.toArray⟩ = ⟨(l ++ m).toArray⟩ := by
  apply ByteArray.ext
  simp
end Ep
set_option maxHeartbeats 3200000 in
set_option maxRecDepth 100000 in
theorem rplus_any {n Q : Nat} (hn : n ≤ 8000) (hQ : Q < 10 ^ n) (w : World) :
    Calls Tryz.prog 90 #[.string ⟨(dg n Q).toArray⟩] w fun e w' => e = .returned (.string ⟨(dg (nxl n Q) (Q + 1)).toArray⟩) ∧ Below w.heap.size w w' := by
  obtain ⟨c, w1, hcv, ⟨hc, hc9⟩, hW1, hb1⟩ := bytesW13 w ⟨(dg n Q).toArray⟩ (dg n Q) rfl (by rw [dg_len]; omega)
  rw [dg_len] at hcv hW1 hc
  have HQ : Hid (Q < 10 ^ n) := hQ
  have z0 : (n : Int) ≤ 8000 := by omega
  obtain ⟨g, hg⟩ : ∃ g, g = w.heap.size := ⟨_, rfl⟩
  have HG : Hid (w.heap.size = g) := hg.symm
  rw [← hg] at hcv hW1
  rw [← nineL_zero] at hW1
  obtain ⟨s, hs⟩ : ∃ s : ByteArray, s = ⟨(dg n Q).toArray⟩ := ⟨_, rfl⟩
  rw [← hs] at hcv ⊢
  clear hQ hg hs
  go_enter Tryz.func90, Tryz.ntmps90
  go_wp2
  go_loopg [4] (n + 1) (fun k s4 wr => ∃ (j : Nat) (I : Int), s4 = .int .i64 I ∧ I = (n : Int) - 1 - (j : Int) ∧ j ≤ n ∧ n - j < k + 1 ∧ Hid (Q % 10 ^ j = 10 ^ j - 1) ∧ Wr wr g g n (nineL n Q j) ∧ Below w.heap.size w wr)
  case atStart => exact ⟨0, _, rfl, by first | rfl | omega, Nat.zero_le _, by omega, (by show _ = _; rw [Nat.pow_zero]; omega), hW1, hb1⟩
  case round =>
    obtain ⟨j, I, rfl, hI, hj, hk, h9, hW, hB⟩ := hrel
    clear hW1 hb1 hcv
    by_cases hlt : j < n
    · obtain ⟨i, hi⟩ : ∃ i, i = n - 1 - j := ⟨_, rfl⟩
      have hIi : I = (i : Int) := by omega
      subst hIi
      clear hI
      have hin : i < n := by omega
      have hcc := hW.cell i hin
      have hf := hW.free i hin
      obtain ⟨d, hd⟩ : ∃ d, d = Q / 10 ^ j % 10 := ⟨_, rfl⟩
      have hd9 : d < 10 := by omega
      rw [hi, nineL_at hlt, ← hi, ← hd, dch_nat hd9] at hcc
      have HD : Hid (d = Q / 10 ^ j % 10) := hd
      have HI : Hid (i = n - 1 - j) := hi
      have q1 : (i : Int) < (n : Int) := by omega
      have q2 : (0 : Int) ≤ (i : Int) := by omega
      have q3 : ¬ (i : Int) < 0 := by omega
      have HC : Hid (((48 + d : Nat) : Int) = 48 + (d : Int)) := by show _ = _; omega
      rw [HC.out] at hcc
      clear hi hd
      by_cases hne : d = 9
      · obtain ⟨hs, hsb⟩ := hW.set i 48 48 rfl hin
        have HS : Hid ((nineL n Q j).set i 48 = nineL n Q (j + 1)) := by show _ = _; rw [HI.out]; exact nineL_next hlt
        rw [HS.out] at hs
        have HN : Hid (Q % 10 ^ (j + 1) = 10 ^ (j + 1) - 1) := nines_next h9.out (by rw [← HD.out]; exact hne)
        have hB3 : Below w.heap.size w (wr.setCell ⟨g, i, none⟩ (.int .u8 48)) := hB.trans (by rw [HG.out]; exact hsb)
        have hv : (48 + (d : Int)) = 57 := by rw [hne]; rfl
        rw [hv] at hcc
        clear hW hB hsb hne hv
        go_wp2
        go_roundg (n - j - 1)
        case measure => omega
        case rel => exact ⟨j + 1, _, rfl, by have := HI.out; omega, by omega, by omega, HN.out, hs, hB3⟩
      · obtain ⟨hs, hsb⟩ := hW.set i (UInt8.ofNat (48 + Q / 10 ^ j % 10 + 1)) (48 + (d : Int) + 1) (by
            rw [← HD.out, Nat.add_assoc, UInt8.toNat_ofNat']
            omega) hin
        have hnx := next_nines hlt h9.out (by rw [← HD.out]; exact hne)
        have HS : Hid ((nineL n Q j).set i (UInt8.ofNat (48 + Q / 10 ^ j % 10 + 1)) = dg n (Q + 1)) := by show _ = _; rw [HI.out, nineL_set hlt]; exact hnx.1
        rw [HS.out] at hs
        have hB3 : Below w.heap.size w (wr.setCell ⟨g, i, none⟩ (.int .u8 (48 + (d : Int) + 1))) := hB.trans (by rw [HG.out]; exact hsb)
        have hlt2 : Q + 1 < 10 ^ n := hnx.2 HQ.out
        have HL2 : Hid (nxl n Q = n) := by show _ = _; unfold nxl; rw [if_pos hlt2]
        have hb9 : (48 + (d : Int) == 57) = false := by simp; omega
        have hR := hs.row (c := c) hc hc9
        have hcv2 := conv8 hR
        obtain ⟨DL, hDL⟩ : ∃ DL, DL = dg n (Q + 1) := ⟨_, rfl⟩
        rw [← hDL] at hcv2
        have HDL : Hid (dg n (Q + 1) = DL) := hDL.symm
        clear hW hB hsb hnx hs hlt2 hR hDL
        go_wp2
        go_ret
        exact ⟨by rw [HL2.out, HDL.out]; rfl, hB3⟩
    · obtain rfl : j = n := by omega
      have hIi : I < 0 := by omega
      clear hI
      have hR := hW.row (c := c) hc hc9
      have hQ1 := nines_all HQ.out h9.out
      have HL : Hid (49 :: nineL j Q j = dg (nxl j Q) (Q + 1)) := by
        show _ = _
        have : nxl j Q = j + 1 := by unfold nxl; rw [if_neg (by omega)]
        rw [this, hQ1, one_zeros]
        unfold nineL
        rw [Nat.sub_self]
        rfl
      have hcv2 := conv8 hR
      have hln : (nineL j Q j).length = j := nineL_len (Nat.le_refl _)
      obtain ⟨DL, hDL⟩ : ∃ DL, DL = nineL j Q j := ⟨_, rfl⟩
      rw [← hDL] at hcv2 hln
      have HLD : Hid (49 :: DL = dg (nxl j Q) (Q + 1)) := by show _ = _; rw [hDL]; exact HL.out
      have hone := one_app DL
      rw [HLD.out] at hone
      have hlen : DL.length ≤ 8000 := by omega
      have hsz2 : DL.toArray.size ≤ 8000 := by simp; omega
      have hsz : ((⟨DL.toArray⟩ : ByteArray).size : Int) ≤ 8000 := by
        have : (⟨DL.toArray⟩ : ByteArray).size = DL.length := by rw [Lib.size_eq]
        omega
      obtain ⟨EL, hEL⟩ : ∃ EL, EL = dg (nxl j Q) (Q + 1) := ⟨_, rfl⟩
      rw [← hEL] at hone
      have HEL : Hid (dg (nxl j Q) (Q + 1) = EL) := hEL.symm
      clear hW hR hQ1 h9 hDL hEL HL hln HLD
      go_wp2
      go_ret
      exact ⟨by rw [HEL.out]; rfl, hB⟩
namespace Ep
/-- how the document rounds: the digit behind, and what is behind it -/
def upR (L N t : Nat) : Bool := decide (5 < N / 10 ^ (L - t - 1) % 10) || (decide (N / 10 ^ (L - t - 1) % 10 = 5) && (decide (N / 10 ^ (L - t) % 2 = 1) || decide (N % 10 ^ (L - t - 1) ≠ 0)))
theorem upR_up {L N t : Nat} (h : t < L) : upR L N t = up N (10 ^ (L - t)) := by
  obtain ⟨k, hk⟩ : ∃ k, L - t = k + 1 := ⟨L - t - 1, by omega⟩
  unfold upR up
  rw [hk, Nat.add_sub_cancel]
  have p : 0 < 10 ^ k := Nat.pow_pos (by omega)
  have e : N % 10 ^ (k + 1) = 10 ^ k * (N / 10 ^ k % 10) + N % 10 ^ k := by
    rw [Nat.pow_succ, Nat.mod_mul]
    omega
  have hr := Nat.mod_lt N p
  have hd := Nat.mod_lt (N / 10 ^ k) (show 0 < 10 by omega)
  have e10 : 10 ^ (k + 1) = 10 * 10 ^ k := by rw [Nat.pow_succ, Nat.mul_comm]
  rw [e]
  generalize N / 10 ^ k % 10 = d at *
  generalize N % 10 ^ k = r at *
  generalize N / 10 ^ (k + 1) % 2 = o at *
  rw [e10]
  generalize 10 ^ k = P at *
  have key : (10 * P < 2 * (P * d + r) ↔ 5 < d ∨ (d = 5 ∧ r ≠ 0)) ∧ (2 * (P * d + r) = 10 * P ↔ d = 5 ∧ r = 0) := by
    rcases Nat.lt_trichotomy d 5 with q | q | q
    · have : P * d ≤ P * 4 := Nat.mul_le_mul_left _ (by omega)
      omega
    · subst q
      omega
    · have : P * 6 ≤ P * d := Nat.mul_le_mul_left _ (by omega)
      omega
  rw [Bool.eq_iff_iff]
  simp only [Bool.or_eq_true, Bool.and_eq_true, decide_eq_true_eq]
  rw [key.1, key.2]
  omega
end Ep
end Go.Proofs.YtceecgklgkiffaaGreatDoor

/- Layer 13: the document's rounded. -/
namespace Go.Proofs.YtceecgklgkiffaaGreatDoor
open Go.ChangeShapes Go.WideShapes Go.ChangeAt Go.RowKit
open Na Ar Ep
set_option linter.unusedVariables false
namespace Ep
/-- the digits between t and i, taken as a number -/
def btw (L N t i : Nat) : Nat := N / 10 ^ (L - i) % 10 ^ (i - t - 1)
theorem btw_start (L N t : Nat) : btw L N t (t + 1) = 0 := by
  unfold btw
  rw [show t + 1 - t - 1 = 0 by omega, Nat.pow_zero, Nat.mod_one]
theorem btw_next {L N t i : Nat} (h1 : t < i) (h2 : i < L) : btw L N t (i + 1) = 10 * btw L N t i + N / 10 ^ (L - 1 - i) % 10 := by
  unfold btw
  obtain ⟨j, hj⟩ : ∃ j, i - t - 1 = j := ⟨_, rfl⟩
  rw [show i + 1 - t - 1 = j + 1 by omega, hj, show L - i = (L - 1 - i) + 1 by omega, show L - (i + 1) = L - 1 - i by omega]
  rw [Nat.pow_succ 10 (L - 1 - i), ← Nat.div_div_eq_div_mul]
  generalize N / 10 ^ (L - 1 - i) = y
  rw [Nat.pow_succ, Nat.mul_comm (10 ^ j) 10, Nat.mod_mul]
  omega
theorem btw_end (L N t : Nat) : btw L N t L = N % 10 ^ (L - t - 1) := by
  unfold btw
  rw [Nat.sub_self, Nat.pow_zero, Nat.div_one]
theorem extract_take {s : ByteArray} {l : List UInt8} {t : Nat} (h : s.data.toList = l) (ht : t ≤ l.length) : s.extract 0 t = ⟨(l.take t).toArray⟩ := by
  apply ByteArray.ext
  rw [ByteArray.data_extract]
  apply Array.ext'
  rw [Array.toList_extract, h]
  simp
end Ep
set_option maxHeartbeats 3200000 in
set_option maxRecDepth 100000 in
theorem rrounded_any {L N t : Nat} (hL : 1 ≤ L) (hL9 : L ≤ 4000) (ht : t ≤ 4000) (hN : N < 10 ^ L) (w : World) :
    Calls Tryz.prog 45 #[.string ⟨(dg L N).toArray⟩, .int .i64 (t : Int)] w fun e w' => e = .returned (.string ⟨(rw13 L N t).toArray⟩) ∧ Below w.heap.size w w' := by
  obtain ⟨s, hs⟩ : ∃ s : ByteArray, s = ⟨(dg L N).toArray⟩ := ⟨_, rfl⟩
  have hsl : s.data.toList = dg L N := by rw [hs]
  have hsz : s.size = L := by rw [Lib.size_eq, hsl]; exact dg_len L N
  have q0 : (0 : Int) ≤ (t : Int) := by omega
  by_cases hlt : L ≤ t
  · have HR : Hid (rw13 L N t = dg L N ++ List.replicate (t - L) 48) := rw13_short hN hlt
    have hZ := fun w => rzeros_any (n := t - L) (by omega) w
    have htl : (t : Int) - (L : Int) = ((t - L : Nat) : Int) := by omega
    have q1 : (L : Int) ≤ (t : Int) := by omega
    have hcat : s ++ (⟨(List.replicate (t - L) (48 : UInt8)).toArray⟩ : ByteArray) = ⟨(rw13 L N t).toArray⟩ := by rw [hs, two_app, HR.out]
    have hl2 : (List.replicate (t - L) (48 : UInt8)).length ≤ 4000 := by rw [List.length_replicate]; omega
    obtain ⟨Z, hZZ⟩ : ∃ Z, Z = List.replicate (t - L) (48 : UInt8) := ⟨_, rfl⟩
    rw [← hZZ] at hZ hcat hl2
    have hsz3 : Z.toArray.size ≤ 4000 := by simpa using hl2
    have hsz4 : (s.size : Int) ≤ 4000 := by omega
    obtain ⟨RL, hRL⟩ : ∃ RL, RL = rw13 L N t := ⟨_, rfl⟩
    rw [← hRL] at hcat ⊢
    rw [← hs]
    clear hs hsl HR hZZ hRL
    go_enter Tryz.func45, Tryz.ntmps45
    go_wp2_with fail
    refine (hZ _).mono ?_
    rintro e w1 ⟨rfl, hb1⟩
    go_wp2
    go_ret
    exact ⟨rfl, hb1⟩
  · have hk : t < L := by omega
    have hu := upR_up (N := N) hk
    have h1 : ¬ (L : Int) ≤ (t : Int) := by omega
    have h2 : (t : Int) < (L : Int) := by omega
    have hQ : N / 10 ^ (L - t) < 10 ^ t := by
      rw [Nat.div_lt_iff_lt_mul (Nat.pow_pos (by omega)), ← Nat.pow_add, show t + (L - t) = L by omega]
      exact hN
    have hat : ∀ i, i < L → ∀ h, (s[i]'h) = UInt8.ofNat (48 + N / 10 ^ (L - 1 - i) % 10) := fun i hi h => by
      have := Lib.data_getElem? s i h
      rw [hsl, dg_at hi] at this
      exact (Option.some.inj this).symm
    have hPl := fun w => rplus_any (n := t) (Q := N / 10 ^ (L - t)) (by omega) hQ w
    have hhd : s.extract 0 t = ⟨(dg t (N / 10 ^ (L - t))).toArray⟩ := by
      rw [extract_take hsl (by rw [dg_len]; omega), dg_take (by omega)]
    -- the digit at t
    obtain ⟨d, hd⟩ : ∃ d, d = N / 10 ^ (L - t - 1) % 10 := ⟨_, rfl⟩
    have hd9 : d < 10 := by rw [hd]; exact Nat.mod_lt _ (by omega)
    obtain ⟨cd, hcd⟩ : ∃ cd, cd = UInt8.ofNat (48 + d) := ⟨_, rfl⟩
    have hst : ∀ h, (s[t]'h) = cd := fun h => by rw [hat t hk h, show L - 1 - t = L - t - 1 by omega, ← hd, hcd]
    have hdn : (cd.toNat : Int) = 48 + (d : Int) := by rw [hcd, dch_nat hd9]; omega
    have hsz5 : t < s.size := by omega
    have FINu : up N (10 ^ (L - t)) = true → rw13 L N t = dg (nxl t (N / 10 ^ (L - t))) (N / 10 ^ (L - t) + 1) := fun h => rw13_up hk h
    have FINd : up N (10 ^ (L - t)) = false → rw13 L N t = dg t (N / 10 ^ (L - t)) := fun h => (rw13_down hN hk h).1
    rw [← hu] at FINu FINd
    have hup : upR L N t = (decide (5 < d) || (decide (d = 5) && (decide (N / 10 ^ (L - t) % 2 = 1) || decide (N % 10 ^ (L - t - 1) ≠ 0)))) := by unfold upR; rw [hd]
    rw [hup] at FINu FINd
    rw [← hs]
    clear hu hup hs
    rcases Nat.lt_trichotomy d 5 with c5 | c5 | c5
    · have f1 := FINd (by simp; omega)
      rw [f1]
      have k1 : ((cd.toNat : Int) == 53) = false := by simp; omega
      have k2 : ¬ (53 : Int) < (cd.toNat : Int) := by omega
      generalize dg t (N / 10 ^ (L - t)) = HD at *
      clear FINu FINd hPl hat hd hsl f1 hQ hN c5 hdn hcd
      go_enter Tryz.func45, Tryz.ntmps45
      go_wp2
      go_ret
      exact ⟨rfl, Below.refl _ _⟩
    · subst c5
      have k1 : (cd.toNat : Int) = 53 := by omega
      have k2 : (cd.toNat : Int) == 53 := by rw [k1]; rfl
      obtain ⟨od, hod⟩ : ∃ od, od = decide (N / 10 ^ (L - t) % 2 = 1) := ⟨_, rfl⟩
      -- what the loop makes of it
      have hodd : t = 0 → od = false := fun h0 => by
        rw [hod, h0, Nat.sub_zero, Nat.div_eq_of_lt hN]
        rfl
      have FINu' : (od || decide (N % 10 ^ (L - t - 1) ≠ 0)) = true → rw13 L N t = dg (nxl t (N / 10 ^ (L - t))) (N / 10 ^ (L - t) + 1) := fun h => FINu (by rw [hod] at h; simpa using h)
      have FINd' : (od || decide (N % 10 ^ (L - t - 1) ≠ 0)) = false → rw13 L N t = dg t (N / 10 ^ (L - t)) := fun h => FINd (by rw [hod] at h; simpa using h)
      rw [← btw_end] at FINu' FINd'
      have hpar : t ≠ 0 → ∃ cp : UInt8, (∀ h, (s[t - 1]'h) = cp) ∧ 48 ≤ (cp.toNat : Int) ∧ (cp.toNat : Int) ≤ 57 ∧ (((cp.toNat : Int) - 48) % 2 == 0) = !od := fun h0 => by
        refine ⟨_, fun h => hat (t - 1) (by omega) h, ?_⟩
        have hm : N / 10 ^ (L - 1 - (t - 1)) % 10 < 10 := Nat.mod_lt _ (by omega)
        rw [dch_nat hm, show L - 1 - (t - 1) = L - t by omega] at *
        generalize N / 10 ^ (L - t) = y at *
        refine ⟨by omega, by omega, ?_⟩
        rw [hod]
        by_cases q : y % 2 = 1
        · rw [decide_eq_true q]
          refine beq_eq_false_iff_ne.2 ?_
          omega
        · rw [decide_eq_false q]
          refine beq_iff_eq.2 ?_
          omega
      have hdig : ∀ i, t < i → i < L → ∃ ci : UInt8, (∀ h, (s[i]'h) = ci) ∧ (btw L N t (i + 1) = 10 * btw L N t i + (ci.toNat - 48)) ∧ 48 ≤ ci.toNat := fun i h1 h2 => by
        refine ⟨_, fun h => hat i h2 h, ?_⟩
        have hm : N / 10 ^ (L - 1 - i) % 10 < 10 := Nat.mod_lt _ (by omega)
        rw [dch_nat hm, btw_next h1 h2]
        omega
      have hb0 := btw_start L N t
      have HB0 : Hid (btw L N t (t + 1) = 0) := hb0
      generalize dg (nxl t (N / 10 ^ (L - t))) (N / 10 ^ (L - t) + 1) = UPL at *
      generalize dg t (N / 10 ^ (L - t)) = HD at *
      generalize rw13 L N t = RL at *
      have HFu : Hid _ := FINu'
      have HFd : Hid _ := FINd'
      have HDg : Hid _ := hdig
      clear FINu FINd FINu' FINd' hat hd hsl hQ hN hdn hcd hod hdig hb0
      by_cases ht0 : t = 0
      · have z0 : ((t : Int) == 0) = true := by rw [ht0]; rfl
        have HOD : Hid (od = false) := hodd ht0
        clear ht0 hodd hpar
        go_enter Tryz.func45, Tryz.ntmps45
        go_wp2
        go_loopg [6, 8] L (fun k s6 s8 wr => ∃ i : Nat, s8 = .int .i64 (i : Int) ∧ t < i ∧ i ≤ L ∧ L - i ≤ k ∧ s6 = .bool (od || decide (btw L N t i ≠ 0)) ∧ wr = w)
        case atStart => exact ⟨t + 1, by go_num, by omega, by omega, by omega, by first | (rw [HB0.out, HOD.out]; rfl) | (rw [HB0.out]; simp; done) | (rw [HB0.out]; simp; exact HCP.out), rfl⟩
        case round =>
          obtain ⟨i, rfl, hti, hi, hkk, rfl, rfl⟩ := hrel
          by_cases hlt : i < L
          · obtain ⟨ci, hci, hbt, h48⟩ := HDg.out i hti hlt
            have v0 : (i : Int) < (L : Int) := by omega
            have v1 : i < s.size := by omega
            have HBT : Hid (btw L N t (i + 1) = 10 * btw L N t i + (ci.toNat - 48)) := hbt
            generalize hz : btw L N t i = z at *
            by_cases hu : (od || decide (z ≠ 0)) = true
            · have HU : Hid ((od || decide (btw L N t (i + 1) ≠ 0)) = true) := by
                show _ = _
                rw [HBT.out]
                simp only [Bool.or_eq_true, decide_eq_true_eq] at hu ⊢
                rcases hu with hu | hu
                · exact Or.inl hu
                · exact Or.inr (by omega)
              rw [hu]
              clear hbt hz hu HBT hci
              go_wp2
              go_roundg (L - (i + 1))
              case measure => omega
              case rel => exact ⟨i + 1, by go_num, by omega, by omega, by omega, by rw [HU.out], rfl⟩
            · have hu' : (od || decide (z ≠ 0)) = false := by simpa using hu
              have hz0 : od = false ∧ z = 0 := by
                simp only [Bool.or_eq_false_iff, decide_eq_false_iff_not] at hu'
                exact ⟨hu'.1, by omega⟩
              have HU : Hid ((od || decide (btw L N t (i + 1) ≠ 0)) = ((ci.toNat : Int) != 48)) := by
                show _ = _
                rw [HBT.out, hz0.1, hz0.2, Bool.false_or]
                by_cases q : ci.toNat = 48
                · rw [q]
                  rfl
                · have : ((ci.toNat : Int) != 48) = true := bne_iff_ne.2 (by omega)
                  rw [this]
                  exact decide_eq_true (by omega)
              rw [hu']
              clear hbt hz hu hu' hz0 HBT
              go_wp2
              go_roundg (L - (i + 1))
              case measure => omega
              case rel => exact ⟨i + 1, by go_num, by omega, by omega, by omega, by rw [HU.out], rfl⟩
          · have hiL : i = L := by omega
            subst hiL
            by_cases hu : (od || decide (btw i N t i ≠ 0)) = true
            · have f1 := HFu.out hu
              have HF1 : Hid (RL = UPL) := f1
              rw [hu]
              clear f1 hu
              go_wp2_with fail
              refine (hPl _).mono ?_
              rintro e w1 ⟨rfl, hb1⟩
              go_wp2
              go_ret
              exact ⟨by rw [HF1.out]; rfl, hb1⟩
            · have hu' : (od || decide (btw i N t i ≠ 0)) = false := by simpa using hu
              have f1 := HFd.out hu'
              have HF1 : Hid (RL = HD) := f1
              rw [hu']
              clear f1 hu hu'
              go_wp2
              go_ret
              exact ⟨by rw [HF1.out]; rfl, Below.refl _ _⟩
      · have z0 : ((t : Int) == 0) = false := by simp; omega
        obtain ⟨cp, hcp, c48, c57, cpar⟩ := hpar ht0
        have HCP : Hid ((((cp.toNat : Int) - 48) % 2 == 0) = !od) := cpar
        clear cpar
        have z1 : (t : Int) - 1 = ((t - 1 : Nat) : Int) := by omega
        have z2 : ((t - 1 : Nat) : Int) < (L : Int) := by omega
        have z3 : t - 1 < s.size := by omega
        clear ht0 hodd hpar
        go_enter Tryz.func45, Tryz.ntmps45
        go_wp2
        go_loopg [6, 8] L (fun k s6 s8 wr => ∃ i : Nat, s8 = .int .i64 (i : Int) ∧ t < i ∧ i ≤ L ∧ L - i ≤ k ∧ s6 = .bool (od || decide (btw L N t i ≠ 0)) ∧ wr = w)
        case atStart => exact ⟨t + 1, by go_num, by omega, by omega, by omega, by first | (rw [HB0.out, HOD.out]; rfl) | (rw [HB0.out]; simp; done) | (rw [HB0.out]; simp; exact HCP.out), rfl⟩
        case round =>
          obtain ⟨i, rfl, hti, hi, hkk, rfl, rfl⟩ := hrel
          by_cases hlt : i < L
          · obtain ⟨ci, hci, hbt, h48⟩ := HDg.out i hti hlt
            have v0 : (i : Int) < (L : Int) := by omega
            have v1 : i < s.size := by omega
            have HBT : Hid (btw L N t (i + 1) = 10 * btw L N t i + (ci.toNat - 48)) := hbt
            generalize hz : btw L N t i = z at *
            by_cases hu : (od || decide (z ≠ 0)) = true
            · have HU : Hid ((od || decide (btw L N t (i + 1) ≠ 0)) = true) := by
                show _ = _
                rw [HBT.out]
                simp only [Bool.or_eq_true, decide_eq_true_eq] at hu ⊢
                rcases hu with hu | hu
                · exact Or.inl hu
                · exact Or.inr (by omega)
              rw [hu]
              clear hbt hz hu HBT hci
              go_wp2
              go_roundg (L - (i + 1))
              case measure => omega
              case rel => exact ⟨i + 1, by go_num, by omega, by omega, by omega, by rw [HU.out], rfl⟩
            · have hu' : (od || decide (z ≠ 0)) = false := by simpa using hu
              have hz0 : od = false ∧ z = 0 := by
                simp only [Bool.or_eq_false_iff, decide_eq_false_iff_not] at hu'
                exact ⟨hu'.1, by omega⟩
              have HU : Hid ((od || decide (btw L N t (i + 1) ≠ 0)) = ((ci.toNat : Int) != 48)) := by
                show _ = _
                rw [HBT.out, hz0.1, hz0.2, Bool.false_or]
                by_cases q : ci.toNat = 48
                · rw [q]
                  rfl
                · have : ((ci.toNat : Int) != 48) = true := bne_iff_ne.2 (by omega)
                  rw [this]
                  exact decide_eq_true (by omega)
              rw [hu']
              clear hbt hz hu hu' hz0 HBT
              go_wp2
              go_roundg (L - (i + 1))
              case measure => omega
              case rel => exact ⟨i + 1, by go_num, by omega, by omega, by omega, by rw [HU.out], rfl⟩
          · have hiL : i = L := by omega
            subst hiL
            by_cases hu : (od || decide (btw i N t i ≠ 0)) = true
            · have f1 := HFu.out hu
              have HF1 : Hid (RL = UPL) := f1
              rw [hu]
              clear f1 hu
              go_wp2_with fail
              refine (hPl _).mono ?_
              rintro e w1 ⟨rfl, hb1⟩
              go_wp2
              go_ret
              exact ⟨by rw [HF1.out]; rfl, hb1⟩
            · have hu' : (od || decide (btw i N t i ≠ 0)) = false := by simpa using hu
              have f1 := HFd.out hu'
              have HF1 : Hid (RL = HD) := f1
              rw [hu']
              clear f1 hu hu'
              go_wp2
              go_ret
              exact ⟨by rw [HF1.out]; rfl, Below.refl _ _⟩
    · have f1 := FINu (by simp; omega)
      rw [f1]
      have k1 : ((cd.toNat : Int) == 53) = false := by simp; omega
      have k2 : (53 : Int) < (cd.toNat : Int) := by omega
      generalize dg (nxl t (N / 10 ^ (L - t))) (N / 10 ^ (L - t) + 1) = UPL at *
      generalize dg t (N / 10 ^ (L - t)) = HD at *
      clear FINu FINd hat hd hsl f1 hQ hN c5 hdn hcd
      go_enter Tryz.func45, Tryz.ntmps45
      go_wp2_with fail
      refine (hPl _).mono ?_
      rintro e w1 ⟨rfl, hb1⟩
      go_wp2
      go_ret
      exact ⟨rfl, hb1⟩
end Go.Proofs.YtceecgklgkiffaaGreatDoor

/- Layer 13: the document's Fixed; the walk of ExpandFixes. -/
namespace Go.Proofs.YtceecgklgkiffaaGreatDoor
open Go.ChangeShapes Go.WideShapes Go.ChangeAt Go.RowKit
open Na Ar Ep
set_option linter.unusedVariables false
namespace Ep
theorem extract_drop {s : ByteArray} {l : List UInt8} {t : Nat} (h : s.data.toList = l) (ht : t ≤ l.length) : s.extract t s.size = ⟨(l.drop t).toArray⟩ := by
  apply ByteArray.ext
  rw [ByteArray.data_extract]
  apply Array.ext'
  have hsz : s.size = l.length := by rw [Lib.size_eq, h]
  rw [Array.toList_extract, h, hsz]
  simp
  exact List.take_of_length_le (by rw [List.length_drop]; omega)
theorem minus_app2 (s : ByteArray) (l : List UInt8) (h : s = ⟨l.toArray⟩) : (⟨#[45]⟩ : ByteArray) ++ s = ⟨(sgL true ++ l).toArray⟩ := by rw [h, minus_app]
/-- the row of Fixed's number, filled up, does not begin with a 0 too many -/
theorem dg_first0 {M R n : Nat} (h : Mok R n M) : n + 1 < M → ∃ c, (dg M R)[0]? = some c ∧ c ≠ 48 := fun hlt => by
  rcases h with ⟨h1, _⟩ | ⟨_, h2, h3⟩
  · omega
  · obtain ⟨d, rfl⟩ : ∃ d, M = d + 1 := ⟨M - 1, by omega⟩
    rw [Nat.add_sub_cancel] at h2
    have p : 0 < 10 ^ d := Nat.pow_pos (by omega)
    have hq : R / 10 ^ d < 10 := by
      rw [Nat.div_lt_iff_lt_mul p]
      rw [Nat.pow_succ] at h3
      omega
    have hq1 : 1 ≤ R / 10 ^ d := by
      rw [Nat.le_div_iff_mul_le p]
      omega
    refine ⟨_, dg_at (by omega), fun e => ?_⟩
    have := congrArg UInt8.toNat e
    rw [show d + 1 - 1 - 0 = d by omega, Nat.mod_eq_of_lt hq, dch_nat hq] at this
    have e48 : (48 : UInt8).toNat = 48 := rfl
    omega
end Ep
set_option maxHeartbeats 3200000 in
set_option maxRecDepth 100000 in
theorem rfixed_fin {b : Int} {n : Nat} (hu : U b) (hf : ef b ≠ 2047) (hn : n ≤ 1100) (w : World) :
    Calls Tryz.prog 16 #[.int .u64 b, .int .i64 (n : Int)] w fun e w' => ∃ M, Mok (fxR (szA b) n) n M ∧ e = .returned (.tuple #[.string ⟨(sgL (spS b) ++ ptL M (fxR (szA b) n) n).toArray⟩, .int .i64 0]) ∧ Below w.heap.size w w' := by
  have hS := fun w => rdigits_fin hu hf w
  have z0 : (n : Int) ≤ 1100 := by omega
  have hsS : decide (9223372036854775808 ≤ b) = spS b := by unfold spS; rw [if_neg hf]
  generalize szA b = A at *
  generalize spS b = sS at *
  clear hf
  go_enter Tryz.func16, Tryz.ntmps16
  go_wp2_with fail
  refine (hS w).mono ?_
  rintro e w1 ⟨N, L, x, rfl, hD, hbd, hb1⟩
  obtain ⟨l, hl, hRl, hM, hrow⟩ := fix_plan hD hbd hn
  obtain ⟨M, hMM⟩ : ∃ M, M = max l (n + 1) := ⟨_, rfl⟩
  rw [← hMM] at hM
  obtain ⟨R, hRR⟩ : ∃ R, R = fxR A n := ⟨_, rfl⟩
  rw [← hRR] at hM hRl hrow
  have HRR : Hid (fxR A n = R) := hRR.symm
  have hL : (L : Int) ≤ 1300 := by omega
  have hx0 : -1100 ≤ x := by omega
  have hx1 : x ≤ 1300 := by omega
  have hM1 : l ≤ M ∧ n + 1 ≤ M ∧ M ≤ 4001 := by clear hrow; omega
  -- the row, filled up
  obtain ⟨r, hr⟩ : ∃ r : ByteArray, r = ⟨(dg M R).toArray⟩ := ⟨_, rfl⟩
  have hrl : r.data.toList = dg M R := by rw [hr]
  have hrz : r.size = M := by rw [Lib.size_eq, hrl]; exact dg_len M R
  have xf : n + 1 < M → ∃ c, c ≠ 48 ∧ ∀ h, (r[0]'h) = c := fun hlt => by
    obtain ⟨c, h1, h2⟩ := dg_first0 hM hlt
    refine ⟨c, h2, fun h => ?_⟩
    have := Lib.data_getElem? r 0 h
    rw [hrl, h1] at this
    exact (Option.some.inj this).symm
  obtain ⟨q, hq⟩ : ∃ q : ByteArray, q = ⟨(dg l R).toArray⟩ := ⟨_, rfl⟩
  have hql : q.data.toList = dg l R := by rw [hq]
  have hqz : q.size = l := by rw [Lib.size_eq, hql]; exact dg_len l R
  have hpad : (⟨(List.replicate (M - l) (48 : UInt8)).toArray⟩ : ByteArray) ++ q = r := by
    rw [hq, two_app, hr, ← dg_pad (M - l) hRl, show M - l + l = M by omega]
  have hcat : ∀ s : ByteArray, s = r → n ≠ 0 → s.extract 0 (M - n) ++ (⟨#[46]⟩ : ByteArray) ++ s.extract (M - n) M = ⟨(ptL M R n).toArray⟩ := fun s hs h0 => by
    have e1 := extract_take (t := M - n) hrl (by rw [dg_len]; omega)
    have e2 := extract_drop (t := M - n) hrl (by rw [dg_len]; omega)
    rw [hrz] at e2
    rw [hs, e1, e2, dg_take (by omega), dg_drop (by omega), show (⟨#[46]⟩ : ByteArray) = ⟨([46] : List UInt8).toArray⟩ from rfl, two_app, two_app]
    unfold ptL
    rw [if_neg h0, show M - (M - n) = n by omega, List.append_assoc]
    rfl
  have hpt0 : n = 0 → r = ⟨(ptL M R n).toArray⟩ := fun h0 => by rw [hr]; unfold ptL; rw [if_pos h0]
  obtain ⟨PP, hPP⟩ : ∃ PP, PP = ptL M R n := ⟨_, rfl⟩
  have HPP : Hid (ptL M R n = PP) := hPP.symm
  have HPP0 : Hid (n = 0 → r = ⟨PP.toArray⟩) := fun h => by rw [hPP]; exact hpt0 h
  have HC : Hid (n ≠ 0 → r.extract 0 (M - n) ++ (⟨#[46]⟩ : ByteArray) ++ r.extract (M - n) M = ⟨PP.toArray⟩) := fun h => by rw [hPP]; exact hcat r rfl h
  have HPL : Hid (PP.length ≤ 4100) := by
    show _ ≤ _
    rw [hPP]
    have := ptL_len (W := R) hM1.2.1
    omega
  have HPD : Hid (_ ++ q = r) := hpad
  have HMM : Hid (M = max l (n + 1)) := hMM
  have HQR : Hid (l = M → q = r) := fun h => by rw [hq, hr, h]
  have HM : Hid (Mok (fxR A n) n M) := by show Mok _ _ _; rw [HRR.out]; exact hM
  obtain ⟨s, hs⟩ : ∃ s : ByteArray, s = ⟨(dg L N).toArray⟩ := ⟨_, rfl⟩
  have hsz : s.size = L := by rw [hs, Lib.size_eq]; exact dg_len L N
  have hRd : ∀ T : Nat, T ≤ 4000 → rw13 L N T = dg l R → N < 10 ^ L → ∀ w, Calls Tryz.prog 45 #[.string s, .int .i64 (T : Int)] w fun e w' => e = .returned (.string q) ∧ Below w.heap.size w w' := fun T h1 h2 h3 w => by
    have := rrounded_any (t := T) hbd.1 (by omega) h1 h3 w
    rw [h2, ← hs, ← hq] at this
    exact this
  have hq0 : l = 0 → q = ⟨#[]⟩ := fun h => by rw [hq, h]; rfl
  rw [← hs]
  clear hs hcat hpt0 hpad hq hql hr hrl hMM hRR hM hS hD hPP hRl
  rcases Nat.eq_zero_or_pos n with hn0 | hn0
  · cases sS
    · have HU : Hid (r = ⟨PP.toArray⟩) := HPP0.out hn0
      have y6 : ¬ (0 : Int) < (n : Int) := by omega
      clear hn0 HC
      have y5 : ¬ (9223372036854775808 ≤ b) := of_decide_eq_false hsS
      have y5b : b < 9223372036854775808 := by omega
      have HQ : Hid (sgL false ++ ptL M (fxR A n) n = PP) := by show _ = _; rw [HRR.out, HPP.out]; rfl
      rcases hrow with ⟨t1, t2, t3⟩ | ⟨T, t1, t2, t3, t4, t5⟩
      · have e1 : ¬ (0 : Int) ≤ (L : Int) + x + (n : Int) := by omega
        have hq1 := hq0 t2
        have hMn : M = n + 1 := by have := HMM.out; omega
        have hZ := rzeros_any (n := n + 1) (by omega) w1
        have hpad := HPD.out
        have j1 : (0 : Int) < (n : Int) + 1 := by omega
        have k1 : ¬ (n : Int) + 1 < (M : Int) := by omega
        rw [show ((n + 1 : Nat) : Int) = (n : Int) + 1 by omega] at hZ
        rw [t2, Nat.sub_zero, hMn] at hpad
        have j4 : (⟨(List.replicate (n + 1) (48 : UInt8)).toArray⟩ : ByteArray).size ≤ 5000 := by rw [Lib.size_eq]; simp; omega
        generalize (⟨(List.replicate (n + 1) (48 : UInt8)).toArray⟩ : ByteArray) = zz at *
        subst hq1
        clear hRd hq0 t1 t2 t3 HPD hMn HQR hqz xf
        go_wp2_with fail
        refine hZ.mono ?_
        rintro e w3 ⟨rfl, hb3⟩
        have hB2 := hb1.trans (hb3.mono hb1.size)
        clear hZ hb3 hb1
        go_wp2
        refine wp_loop_rounds 1 ?_
        rw [rounds_succ]
        go_wp2
        refine bodyPost_ret (v := .tuple #[.string r, .int .i64 0]) (by simp [results, Tryz.results16, go_sem]) rfl ?_
        exact ⟨M, HM.out, by rw [HQ.out, HU.out], by first | exact hB2 | exact below_drewN hB2 _⟩
      · have hRd2 := hRd T t1 t3 t4
        clear hRd hq0 t1 t3 t4 t5
        have e1 : (0 : Int) ≤ (T : Int) := by omega
        rcases Nat.lt_or_ge l (n + 1) with hl1 | hl1
        · have hMn : M = n + 1 := by have := HMM.out; omega
          have j1 : (l : Int) < (n : Int) + 1 := by omega
          have j2 : (n : Int) + 1 - (l : Int) = ((M - l : Nat) : Int) := by omega
          have k1 : ¬ (n : Int) + 1 < (M : Int) := by omega
          have j4 : (⟨(List.replicate (M - l) (48 : UInt8)).toArray⟩ : ByteArray).size ≤ 5000 := by rw [Lib.size_eq]; simp; omega
          have hpad := HPD.out
          have hZ := fun w => rzeros_any (n := M - l) (by omega) w
          generalize (⟨(List.replicate (M - l) (48 : UInt8)).toArray⟩ : ByteArray) = zz at *
          clear hl1 hMn HPD HQR xf
          go_wp2_with fail
          refine (hRd2 w1).mono ?_
          rintro e w2 ⟨rfl, hb2⟩
          have hB1 := hb1.trans (hb2.mono hb1.size)
          clear hRd2 hb1 hb2
          go_wp2_with fail
          refine (hZ _).mono ?_
          rintro e w3 ⟨rfl, hb3⟩
          have hB2 := hB1.trans (hb3.mono hB1.size)
          clear hZ hb3 hB1
          go_wp2
          refine wp_loop_rounds 1 ?_
          rw [rounds_succ]
          go_wp2
          refine bodyPost_ret (v := .tuple #[.string r, .int .i64 0]) (by simp [results, Tryz.results16, go_sem]) rfl ?_
          exact ⟨M, HM.out, by rw [HQ.out, HU.out], by first | exact hB2 | exact below_drewN hB2 _⟩
        · have j1 : ¬ (l : Int) < (n : Int) + 1 := by omega
          have hqr : q = r := HQR.out (by have := HMM.out; omega)
          have hlM : l = M := by have := HMM.out; omega
          subst hqr
          clear hl1 HPD HQR HMM
          subst hlM
          rcases Nat.lt_or_eq_of_le hM1.2.1 with hm0 | hm0
          · obtain ⟨cf, hcf, xf0⟩ := xf hm0
            have k0 : ((cf.toNat : Int) == 48) = false := beq_eq_false_iff_ne.2 fun e => hcf (UInt8.toNat_inj.1 (by exact_mod_cast e))
            have k1 : (n : Int) + 1 < (l : Int) := by omega
            have k2 : 0 < q.size := by omega
            have k3 : (0 : Int) < (l : Int) := by omega
            clear xf hcf hm0
            go_wp2_with fail
            refine (hRd2 w1).mono ?_
            rintro e w2 ⟨rfl, hb2⟩
            have hB2 := hb1.trans (hb2.mono hb1.size)
            clear hRd2 hb1 hb2
            go_wp2
            refine wp_loop_rounds 1 ?_
            rw [rounds_succ]
            go_wp2
            refine bodyPost_ret (v := .tuple #[.string q, .int .i64 0]) (by simp [results, Tryz.results16, go_sem]) rfl ?_
            exact ⟨l, HM.out, by rw [HQ.out, HU.out], by first | exact hB2 | exact below_drewN hB2 _⟩
          · have k1 : ¬ (n : Int) + 1 < (l : Int) := by omega
            clear xf hm0
            go_wp2_with fail
            refine (hRd2 w1).mono ?_
            rintro e w2 ⟨rfl, hb2⟩
            have hB2 := hb1.trans (hb2.mono hb1.size)
            clear hRd2 hb1 hb2
            go_wp2
            refine wp_loop_rounds 1 ?_
            rw [rounds_succ]
            go_wp2
            refine bodyPost_ret (v := .tuple #[.string q, .int .i64 0]) (by simp [results, Tryz.results16, go_sem]) rfl ?_
            exact ⟨l, HM.out, by rw [HQ.out, HU.out], by first | exact hB2 | exact below_drewN hB2 _⟩
    · have HU : Hid (r = ⟨PP.toArray⟩) := HPP0.out hn0
      have y6 : ¬ (0 : Int) < (n : Int) := by omega
      clear hn0 HC
      have y5 : (9223372036854775808 ≤ b) := of_decide_eq_true hsS
      have hmin := minus_app2 r PP HU.out
      obtain ⟨QQ, hQQ⟩ : ∃ QQ, QQ = sgL true ++ PP := ⟨_, rfl⟩
      rw [← hQQ] at hmin
      have HQ : Hid (sgL true ++ ptL M (fxR A n) n = QQ) := by show _ = _; rw [HRR.out, HPP.out, hQQ]
      clear hQQ
      rcases hrow with ⟨t1, t2, t3⟩ | ⟨T, t1, t2, t3, t4, t5⟩
      · have e1 : ¬ (0 : Int) ≤ (L : Int) + x + (n : Int) := by omega
        have hq1 := hq0 t2
        have hMn : M = n + 1 := by have := HMM.out; omega
        have hZ := rzeros_any (n := n + 1) (by omega) w1
        have hpad := HPD.out
        have j1 : (0 : Int) < (n : Int) + 1 := by omega
        have k1 : ¬ (n : Int) + 1 < (M : Int) := by omega
        rw [show ((n + 1 : Nat) : Int) = (n : Int) + 1 by omega] at hZ
        rw [t2, Nat.sub_zero, hMn] at hpad
        have j4 : (⟨(List.replicate (n + 1) (48 : UInt8)).toArray⟩ : ByteArray).size ≤ 5000 := by rw [Lib.size_eq]; simp; omega
        generalize (⟨(List.replicate (n + 1) (48 : UInt8)).toArray⟩ : ByteArray) = zz at *
        subst hq1
        clear hRd hq0 t1 t2 t3 HPD hMn HQR hqz xf
        go_wp2_with fail
        refine hZ.mono ?_
        rintro e w3 ⟨rfl, hb3⟩
        have hB2 := hb1.trans (hb3.mono hb1.size)
        clear hZ hb3 hb1
        go_wp2
        refine wp_loop_rounds 1 ?_
        rw [rounds_succ]
        go_wp2
        refine bodyPost_ret (v := .tuple #[.string ⟨QQ.toArray⟩, .int .i64 0]) (by simp [results, Tryz.results16, go_sem]) rfl ?_
        exact ⟨M, HM.out, by rw [HQ.out], by first | exact hB2 | exact below_drewN hB2 _⟩
      · have hRd2 := hRd T t1 t3 t4
        clear hRd hq0 t1 t3 t4 t5
        have e1 : (0 : Int) ≤ (T : Int) := by omega
        rcases Nat.lt_or_ge l (n + 1) with hl1 | hl1
        · have hMn : M = n + 1 := by have := HMM.out; omega
          have j1 : (l : Int) < (n : Int) + 1 := by omega
          have j2 : (n : Int) + 1 - (l : Int) = ((M - l : Nat) : Int) := by omega
          have k1 : ¬ (n : Int) + 1 < (M : Int) := by omega
          have j4 : (⟨(List.replicate (M - l) (48 : UInt8)).toArray⟩ : ByteArray).size ≤ 5000 := by rw [Lib.size_eq]; simp; omega
          have hpad := HPD.out
          have hZ := fun w => rzeros_any (n := M - l) (by omega) w
          generalize (⟨(List.replicate (M - l) (48 : UInt8)).toArray⟩ : ByteArray) = zz at *
          clear hl1 hMn HPD HQR xf
          go_wp2_with fail
          refine (hRd2 w1).mono ?_
          rintro e w2 ⟨rfl, hb2⟩
          have hB1 := hb1.trans (hb2.mono hb1.size)
          clear hRd2 hb1 hb2
          go_wp2_with fail
          refine (hZ _).mono ?_
          rintro e w3 ⟨rfl, hb3⟩
          have hB2 := hB1.trans (hb3.mono hB1.size)
          clear hZ hb3 hB1
          go_wp2
          refine wp_loop_rounds 1 ?_
          rw [rounds_succ]
          go_wp2
          refine bodyPost_ret (v := .tuple #[.string ⟨QQ.toArray⟩, .int .i64 0]) (by simp [results, Tryz.results16, go_sem]) rfl ?_
          exact ⟨M, HM.out, by rw [HQ.out], by first | exact hB2 | exact below_drewN hB2 _⟩
        · have j1 : ¬ (l : Int) < (n : Int) + 1 := by omega
          have hqr : q = r := HQR.out (by have := HMM.out; omega)
          have hlM : l = M := by have := HMM.out; omega
          subst hqr
          clear hl1 HPD HQR HMM
          subst hlM
          rcases Nat.lt_or_eq_of_le hM1.2.1 with hm0 | hm0
          · obtain ⟨cf, hcf, xf0⟩ := xf hm0
            have k0 : ((cf.toNat : Int) == 48) = false := beq_eq_false_iff_ne.2 fun e => hcf (UInt8.toNat_inj.1 (by exact_mod_cast e))
            have k1 : (n : Int) + 1 < (l : Int) := by omega
            have k2 : 0 < q.size := by omega
            have k3 : (0 : Int) < (l : Int) := by omega
            clear xf hcf hm0
            go_wp2_with fail
            refine (hRd2 w1).mono ?_
            rintro e w2 ⟨rfl, hb2⟩
            have hB2 := hb1.trans (hb2.mono hb1.size)
            clear hRd2 hb1 hb2
            go_wp2
            refine wp_loop_rounds 1 ?_
            rw [rounds_succ]
            go_wp2
            refine bodyPost_ret (v := .tuple #[.string ⟨QQ.toArray⟩, .int .i64 0]) (by simp [results, Tryz.results16, go_sem]) rfl ?_
            exact ⟨l, HM.out, by rw [HQ.out], by first | exact hB2 | exact below_drewN hB2 _⟩
          · have k1 : ¬ (n : Int) + 1 < (l : Int) := by omega
            clear xf hm0
            go_wp2_with fail
            refine (hRd2 w1).mono ?_
            rintro e w2 ⟨rfl, hb2⟩
            have hB2 := hb1.trans (hb2.mono hb1.size)
            clear hRd2 hb1 hb2
            go_wp2
            refine wp_loop_rounds 1 ?_
            rw [rounds_succ]
            go_wp2
            refine bodyPost_ret (v := .tuple #[.string ⟨QQ.toArray⟩, .int .i64 0]) (by simp [results, Tryz.results16, go_sem]) rfl ?_
            exact ⟨l, HM.out, by rw [HQ.out], by first | exact hB2 | exact below_drewN hB2 _⟩
  · cases sS
    · obtain ⟨u, hu'⟩ : ∃ u, u = r.extract 0 (M - n) ++ (⟨#[46]⟩ : ByteArray) ++ r.extract (M - n) M := ⟨_, rfl⟩
      have HU : Hid (u = ⟨PP.toArray⟩) := by show _ = _; rw [hu']; exact HC.out (by omega)
      have y6 : (0 : Int) < (n : Int) := by omega
      have y7 : (M : Int) - (n : Int) = ((M - n : Nat) : Int) := by omega
      have y8 : ((M - n : Nat) : Int) ≤ (M : Int) := by omega
      have y9 : (r.extract 0 (M - n)).size ≤ 5000 := by rw [ByteArray.size_extract]; omega
      have ya : (r.extract (M - n) M).size ≤ 5000 := by rw [ByteArray.size_extract]; omega
      have yb : (r.extract 0 (M - n) ++ (⟨#[46]⟩ : ByteArray)).size ≤ 5001 := by
        rw [ByteArray.size_append, ByteArray.size_extract]
        have : (⟨#[46]⟩ : ByteArray).size = 1 := rfl
        omega
      have yc := hu'.symm
      have hus : u.size ≤ 4100 := by
        rw [HU.out, Lib.size_eq]
        exact HPL.out
      clear hn0 HC hu'
      have y5 : ¬ (9223372036854775808 ≤ b) := of_decide_eq_false hsS
      have y5b : b < 9223372036854775808 := by omega
      have HQ : Hid (sgL false ++ ptL M (fxR A n) n = PP) := by show _ = _; rw [HRR.out, HPP.out]; rfl
      rcases hrow with ⟨t1, t2, t3⟩ | ⟨T, t1, t2, t3, t4, t5⟩
      · have e1 : ¬ (0 : Int) ≤ (L : Int) + x + (n : Int) := by omega
        have hq1 := hq0 t2
        have hMn : M = n + 1 := by have := HMM.out; omega
        have hZ := rzeros_any (n := n + 1) (by omega) w1
        have hpad := HPD.out
        have j1 : (0 : Int) < (n : Int) + 1 := by omega
        have k1 : ¬ (n : Int) + 1 < (M : Int) := by omega
        rw [show ((n + 1 : Nat) : Int) = (n : Int) + 1 by omega] at hZ
        rw [t2, Nat.sub_zero, hMn] at hpad
        have j4 : (⟨(List.replicate (n + 1) (48 : UInt8)).toArray⟩ : ByteArray).size ≤ 5000 := by rw [Lib.size_eq]; simp; omega
        generalize (⟨(List.replicate (n + 1) (48 : UInt8)).toArray⟩ : ByteArray) = zz at *
        subst hq1
        clear hRd hq0 t1 t2 t3 HPD hMn HQR hqz xf
        go_wp2_with fail
        refine hZ.mono ?_
        rintro e w3 ⟨rfl, hb3⟩
        have hB2 := hb1.trans (hb3.mono hb1.size)
        clear hZ hb3 hb1
        go_wp2
        refine wp_loop_rounds 1 ?_
        rw [rounds_succ]
        go_wp2
        go_quiet (fail)
        go_wp2
        refine bodyPost_ret (v := .tuple #[.string u, .int .i64 0]) (by simp [results, Tryz.results16, go_sem]) rfl ?_
        exact ⟨M, HM.out, by rw [HQ.out, HU.out], by first | exact hB2 | exact below_drewN hB2 _⟩
      · have hRd2 := hRd T t1 t3 t4
        clear hRd hq0 t1 t3 t4 t5
        have e1 : (0 : Int) ≤ (T : Int) := by omega
        rcases Nat.lt_or_ge l (n + 1) with hl1 | hl1
        · have hMn : M = n + 1 := by have := HMM.out; omega
          have j1 : (l : Int) < (n : Int) + 1 := by omega
          have j2 : (n : Int) + 1 - (l : Int) = ((M - l : Nat) : Int) := by omega
          have k1 : ¬ (n : Int) + 1 < (M : Int) := by omega
          have j4 : (⟨(List.replicate (M - l) (48 : UInt8)).toArray⟩ : ByteArray).size ≤ 5000 := by rw [Lib.size_eq]; simp; omega
          have hpad := HPD.out
          have hZ := fun w => rzeros_any (n := M - l) (by omega) w
          generalize (⟨(List.replicate (M - l) (48 : UInt8)).toArray⟩ : ByteArray) = zz at *
          clear hl1 hMn HPD HQR xf
          go_wp2_with fail
          refine (hRd2 w1).mono ?_
          rintro e w2 ⟨rfl, hb2⟩
          have hB1 := hb1.trans (hb2.mono hb1.size)
          clear hRd2 hb1 hb2
          go_wp2_with fail
          refine (hZ _).mono ?_
          rintro e w3 ⟨rfl, hb3⟩
          have hB2 := hB1.trans (hb3.mono hB1.size)
          clear hZ hb3 hB1
          go_wp2
          refine wp_loop_rounds 1 ?_
          rw [rounds_succ]
          go_wp2
          go_quiet (fail)
          go_wp2
          refine bodyPost_ret (v := .tuple #[.string u, .int .i64 0]) (by simp [results, Tryz.results16, go_sem]) rfl ?_
          exact ⟨M, HM.out, by rw [HQ.out, HU.out], by first | exact hB2 | exact below_drewN hB2 _⟩
        · have j1 : ¬ (l : Int) < (n : Int) + 1 := by omega
          have hqr : q = r := HQR.out (by have := HMM.out; omega)
          have hlM : l = M := by have := HMM.out; omega
          subst hqr
          clear hl1 HPD HQR HMM
          subst hlM
          rcases Nat.lt_or_eq_of_le hM1.2.1 with hm0 | hm0
          · obtain ⟨cf, hcf, xf0⟩ := xf hm0
            have k0 : ((cf.toNat : Int) == 48) = false := beq_eq_false_iff_ne.2 fun e => hcf (UInt8.toNat_inj.1 (by exact_mod_cast e))
            have k1 : (n : Int) + 1 < (l : Int) := by omega
            have k2 : 0 < q.size := by omega
            have k3 : (0 : Int) < (l : Int) := by omega
            clear xf hcf hm0
            go_wp2_with fail
            refine (hRd2 w1).mono ?_
            rintro e w2 ⟨rfl, hb2⟩
            have hB2 := hb1.trans (hb2.mono hb1.size)
            clear hRd2 hb1 hb2
            go_wp2
            refine wp_loop_rounds 1 ?_
            rw [rounds_succ]
            go_wp2
            go_quiet (fail)
            go_wp2
            refine bodyPost_ret (v := .tuple #[.string u, .int .i64 0]) (by simp [results, Tryz.results16, go_sem]) rfl ?_
            exact ⟨l, HM.out, by rw [HQ.out, HU.out], by first | exact hB2 | exact below_drewN hB2 _⟩
          · have k1 : ¬ (n : Int) + 1 < (l : Int) := by omega
            clear xf hm0
            go_wp2_with fail
            refine (hRd2 w1).mono ?_
            rintro e w2 ⟨rfl, hb2⟩
            have hB2 := hb1.trans (hb2.mono hb1.size)
            clear hRd2 hb1 hb2
            go_wp2
            refine wp_loop_rounds 1 ?_
            rw [rounds_succ]
            go_wp2
            go_quiet (fail)
            go_wp2
            refine bodyPost_ret (v := .tuple #[.string u, .int .i64 0]) (by simp [results, Tryz.results16, go_sem]) rfl ?_
            exact ⟨l, HM.out, by rw [HQ.out, HU.out], by first | exact hB2 | exact below_drewN hB2 _⟩
    · obtain ⟨u, hu'⟩ : ∃ u, u = r.extract 0 (M - n) ++ (⟨#[46]⟩ : ByteArray) ++ r.extract (M - n) M := ⟨_, rfl⟩
      have HU : Hid (u = ⟨PP.toArray⟩) := by show _ = _; rw [hu']; exact HC.out (by omega)
      have y6 : (0 : Int) < (n : Int) := by omega
      have y7 : (M : Int) - (n : Int) = ((M - n : Nat) : Int) := by omega
      have y8 : ((M - n : Nat) : Int) ≤ (M : Int) := by omega
      have y9 : (r.extract 0 (M - n)).size ≤ 5000 := by rw [ByteArray.size_extract]; omega
      have ya : (r.extract (M - n) M).size ≤ 5000 := by rw [ByteArray.size_extract]; omega
      have yb : (r.extract 0 (M - n) ++ (⟨#[46]⟩ : ByteArray)).size ≤ 5001 := by
        rw [ByteArray.size_append, ByteArray.size_extract]
        have : (⟨#[46]⟩ : ByteArray).size = 1 := rfl
        omega
      have yc := hu'.symm
      have hus : u.size ≤ 4100 := by
        rw [HU.out, Lib.size_eq]
        exact HPL.out
      clear hn0 HC hu'
      have y5 : (9223372036854775808 ≤ b) := of_decide_eq_true hsS
      have hmin := minus_app2 u PP HU.out
      obtain ⟨QQ, hQQ⟩ : ∃ QQ, QQ = sgL true ++ PP := ⟨_, rfl⟩
      rw [← hQQ] at hmin
      have HQ : Hid (sgL true ++ ptL M (fxR A n) n = QQ) := by show _ = _; rw [HRR.out, HPP.out, hQQ]
      clear hQQ
      rcases hrow with ⟨t1, t2, t3⟩ | ⟨T, t1, t2, t3, t4, t5⟩
      · have e1 : ¬ (0 : Int) ≤ (L : Int) + x + (n : Int) := by omega
        have hq1 := hq0 t2
        have hMn : M = n + 1 := by have := HMM.out; omega
        have hZ := rzeros_any (n := n + 1) (by omega) w1
        have hpad := HPD.out
        have j1 : (0 : Int) < (n : Int) + 1 := by omega
        have k1 : ¬ (n : Int) + 1 < (M : Int) := by omega
        rw [show ((n + 1 : Nat) : Int) = (n : Int) + 1 by omega] at hZ
        rw [t2, Nat.sub_zero, hMn] at hpad
        have j4 : (⟨(List.replicate (n + 1) (48 : UInt8)).toArray⟩ : ByteArray).size ≤ 5000 := by rw [Lib.size_eq]; simp; omega
        generalize (⟨(List.replicate (n + 1) (48 : UInt8)).toArray⟩ : ByteArray) = zz at *
        subst hq1
        clear hRd hq0 t1 t2 t3 HPD hMn HQR hqz xf
        go_wp2_with fail
        refine hZ.mono ?_
        rintro e w3 ⟨rfl, hb3⟩
        have hB2 := hb1.trans (hb3.mono hb1.size)
        clear hZ hb3 hb1
        go_wp2
        refine wp_loop_rounds 1 ?_
        rw [rounds_succ]
        go_wp2
        go_quiet (fail)
        go_wp2
        refine bodyPost_ret (v := .tuple #[.string ⟨QQ.toArray⟩, .int .i64 0]) (by simp [results, Tryz.results16, go_sem]) rfl ?_
        exact ⟨M, HM.out, by rw [HQ.out], by first | exact hB2 | exact below_drewN hB2 _⟩
      · have hRd2 := hRd T t1 t3 t4
        clear hRd hq0 t1 t3 t4 t5
        have e1 : (0 : Int) ≤ (T : Int) := by omega
        rcases Nat.lt_or_ge l (n + 1) with hl1 | hl1
        · have hMn : M = n + 1 := by have := HMM.out; omega
          have j1 : (l : Int) < (n : Int) + 1 := by omega
          have j2 : (n : Int) + 1 - (l : Int) = ((M - l : Nat) : Int) := by omega
          have k1 : ¬ (n : Int) + 1 < (M : Int) := by omega
          have j4 : (⟨(List.replicate (M - l) (48 : UInt8)).toArray⟩ : ByteArray).size ≤ 5000 := by rw [Lib.size_eq]; simp; omega
          have hpad := HPD.out
          have hZ := fun w => rzeros_any (n := M - l) (by omega) w
          generalize (⟨(List.replicate (M - l) (48 : UInt8)).toArray⟩ : ByteArray) = zz at *
          clear hl1 hMn HPD HQR xf
          go_wp2_with fail
          refine (hRd2 w1).mono ?_
          rintro e w2 ⟨rfl, hb2⟩
          have hB1 := hb1.trans (hb2.mono hb1.size)
          clear hRd2 hb1 hb2
          go_wp2_with fail
          refine (hZ _).mono ?_
          rintro e w3 ⟨rfl, hb3⟩
          have hB2 := hB1.trans (hb3.mono hB1.size)
          clear hZ hb3 hB1
          go_wp2
          refine wp_loop_rounds 1 ?_
          rw [rounds_succ]
          go_wp2
          go_quiet (fail)
          go_wp2
          refine bodyPost_ret (v := .tuple #[.string ⟨QQ.toArray⟩, .int .i64 0]) (by simp [results, Tryz.results16, go_sem]) rfl ?_
          exact ⟨M, HM.out, by rw [HQ.out], by first | exact hB2 | exact below_drewN hB2 _⟩
        · have j1 : ¬ (l : Int) < (n : Int) + 1 := by omega
          have hqr : q = r := HQR.out (by have := HMM.out; omega)
          have hlM : l = M := by have := HMM.out; omega
          subst hqr
          clear hl1 HPD HQR HMM
          subst hlM
          rcases Nat.lt_or_eq_of_le hM1.2.1 with hm0 | hm0
          · obtain ⟨cf, hcf, xf0⟩ := xf hm0
            have k0 : ((cf.toNat : Int) == 48) = false := beq_eq_false_iff_ne.2 fun e => hcf (UInt8.toNat_inj.1 (by exact_mod_cast e))
            have k1 : (n : Int) + 1 < (l : Int) := by omega
            have k2 : 0 < q.size := by omega
            have k3 : (0 : Int) < (l : Int) := by omega
            clear xf hcf hm0
            go_wp2_with fail
            refine (hRd2 w1).mono ?_
            rintro e w2 ⟨rfl, hb2⟩
            have hB2 := hb1.trans (hb2.mono hb1.size)
            clear hRd2 hb1 hb2
            go_wp2
            refine wp_loop_rounds 1 ?_
            rw [rounds_succ]
            go_wp2
            go_quiet (fail)
            go_wp2
            refine bodyPost_ret (v := .tuple #[.string ⟨QQ.toArray⟩, .int .i64 0]) (by simp [results, Tryz.results16, go_sem]) rfl ?_
            exact ⟨l, HM.out, by rw [HQ.out], by first | exact hB2 | exact below_drewN hB2 _⟩
          · have k1 : ¬ (n : Int) + 1 < (l : Int) := by omega
            clear xf hm0
            go_wp2_with fail
            refine (hRd2 w1).mono ?_
            rintro e w2 ⟨rfl, hb2⟩
            have hB2 := hb1.trans (hb2.mono hb1.size)
            clear hRd2 hb1 hb2
            go_wp2
            refine wp_loop_rounds 1 ?_
            rw [rounds_succ]
            go_wp2
            go_quiet (fail)
            go_wp2
            refine bodyPost_ret (v := .tuple #[.string ⟨QQ.toArray⟩, .int .i64 0]) (by simp [results, Tryz.results16, go_sem]) rfl ?_
            exact ⟨l, HM.out, by rw [HQ.out], by first | exact hB2 | exact below_drewN hB2 _⟩
set_option maxHeartbeats 1600000 in
set_option maxRecDepth 100000 in
theorem rfixed_inf {b : Int} {n : Nat} (hu : U b) (hf : ef b = 2047) (hn : n ≤ 1100) (w : World) :
    Calls Tryz.prog 16 #[.int .u64 b, .int .i64 (n : Int)] w fun e w' => e = .returned (.tuple #[.string ⟨#[]⟩, .int .i64 60]) ∧ Below w.heap.size w w' := by
  have hS := fun w => rdigits_inf hu hf w
  have z0 : (n : Int) ≤ 1100 := by omega
  go_enter Tryz.func16, Tryz.ntmps16
  go_wp2_with fail
  refine (hS w).mono ?_
  rintro e w1 ⟨rfl, hb1⟩
  go_wp2
  refine bodyPost_ret (v := .tuple #[.string ⟨#[]⟩, .int .i64 60]) (by simp [results, Tryz.results16, go_sem]) rfl ?_
  exact ⟨rfl, hb1⟩
set_option maxHeartbeats 1600000 in
set_option maxRecDepth 100000 in
theorem rfixed_bad {b n : Int} (hn : n < 0 ∨ 1100 < n) (w : World) :
    Calls Tryz.prog 16 #[.int .u64 b, .int .i64 n] w fun e w' => e = .returned (.tuple #[.string ⟨#[]⟩, .int .i64 130]) ∧ Below w.heap.size w w' := by
  rcases hn with hn | hn
  all_goals
    go_enter Tryz.func16, Tryz.ntmps16
    go_wp2
    first
      | (refine bodyPost_ret (v := .tuple #[.string ⟨#[]⟩, .int .i64 130]) (by simp [results, Tryz.results16, go_sem]) rfl ?_
         exact ⟨rfl, Below.refl _ _⟩)
set_option maxHeartbeats 1600000 in
set_option maxRecDepth 100000 in
theorem fixes_go {b n0 : Int} {s : ByteArray} {E : Int} (h1 : ∀ w, Calls Tryz.prog 12 #[.int .u64 b, .int .i64 n0] w fun e w' => e = .returned (.tuple #[.string s, .int .i64 E]) ∧ Below w.heap.size w w')
    (h2 : ∀ w, Calls Tryz.prog 16 #[.int .u64 b, .int .i64 n0] w fun e w' => e = .returned (.tuple #[.string s, .int .i64 E]) ∧ Below w.heap.size w w') (hE : -1000 ≤ E ∧ E ≤ 1000) {w : World} :
    Calls Tryz.prog 4 #[.int .u64 b, .int .i64 n0] w fun r w' => r = .returned (.bool true) ∧ Below w.heap.size w w' := by
  have hA := alive13_any
  go_enter Tryz.func4, Tryz.ntmps4
  go_wp2_with fail
  refine (h1 w).mono ?_
  rintro e w1 ⟨rfl, hb1⟩
  go_wp2_with fail
  refine (h2 w1).mono ?_
  rintro e w2 ⟨rfl, hb2⟩
  have hB2 := hb1.trans (hb2.mono hb1.size)
  go_wp2_with fail
  refine (hA w2).mono ?_
  rintro e w3 ⟨rfl, hb3⟩
  have hB3 := hB2.trans (hb3.mono hB2.size)
  go_wp2
  go_ret
  exact ⟨rfl, hB3⟩
theorem fixes_walk {b n0 : Int} (hu : U b) (i0 : -9223372036854775808 ≤ n0) (i1 : n0 ≤ 9223372036854775807) {w : World} :
    Calls Tryz.prog 4 #[.int .u64 b, .int .i64 n0] w fun r w' => r = .returned (.bool true) ∧ Below w.heap.size w w' := by
  by_cases hn : n0 < 0 ∨ 1100 < n0
  · exact fixes_go (fun w => fixed_bad hn w) (fun w => rfixed_bad hn w) (by omega)
  · obtain ⟨n, rfl⟩ := Int.eq_ofNat_of_zero_le (show 0 ≤ n0 by omega)
    by_cases hf : ef b = 2047
    · exact fixes_go (fun w => fixed_inf hu hf (by omega) w) (fun w => rfixed_inf hu hf (by omega) w) (by omega)
    · obtain ⟨M, hM⟩ : ∃ M, Mok (fxR (szA b) n) n M := by
        by_cases h : fxR (szA b) n < 10 ^ (n + 1)
        · exact ⟨n + 1, Or.inl ⟨rfl, h⟩⟩
        · obtain ⟨L, h1, h2, h3⟩ := digits_of (fxR (szA b) n) (by have := Nat.pow_pos (n := n + 1) (show 0 < 10 by omega); omega)
          refine ⟨L, Or.inr ⟨?_, h2, h3⟩⟩
          by_cases q : n + 1 < L
          · exact q
          · have := Nat.pow_le_pow_right (n := 10) (by omega) (show L ≤ n + 1 by omega)
            omega
      refine fixes_go (s := ⟨(sgL (spS b) ++ ptL M (fxR (szA b) n) n).toArray⟩) (E := 0) (fun w => ?_) (fun w => ?_) (by omega)
      · refine (fixed_fin hu hf (by omega) w).mono ?_
        rintro e w' ⟨M', h1, _, rfl, hb⟩
        have := mok_uniq h1 hM
        subst this
        exact ⟨rfl, hb⟩
      · refine (rfixed_fin hu hf (by omega) w).mono ?_
        rintro e w' ⟨M', h1, rfl, hb⟩
        have := mok_uniq h1 hM
        subst this
        exact ⟨rfl, hb⟩
end Go.Proofs.YtceecgklgkiffaaGreatDoor


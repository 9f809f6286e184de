/- plumbref04.Trim. -/
import Derived.Test.YtmenhfnakcdnnabDoorRadixRoom
import Derived.Test.YtmenhfnakcdnnabDoorRadixStrip
namespace Go.Proofs.YtmenhfnakcdnnabDoor
open Go.ChangeShapes Go.WideShapes Go.ChangeAt Go.RowKit
open Na Ar
set_option linter.unusedVariables false
theorem Own.shape {w : World} {base : Nat} {e : TypeId} {v : Value} {xs : List Int} (h : Own .u64 w base e v xs) (hp : 0 < xs.length) : ∃ g c, v = .slice (some ⟨g, 0, none⟩) xs.length c ∧ base ≤ g := by
  rcases h.2 with ⟨_, h0⟩ | ⟨g, c, cur, hv, hb, _⟩
  · omega
  · exact ⟨g, c, hv, hb⟩
theorem limbs_none {w : World} {base : Nat} {a : Option Addr} {n c : Nat} {us : List Int} {V : Int} (h : LimbsOf w base a n c us V) : n = 0 ↔ V = 0 := by
  obtain ⟨h1, h2, h3, h4, h5⟩ := h
  constructor
  · intro q
    rw [← h4, List.length_eq_zero_iff.mp (h2.symm.trans q)]; rfl
  · intro q
    rw [h2]
    by_cases hl : us.length = 0
    · exact hl
    · exfalso
      have hne : us ≠ [] := fun z => hl (by rw [z]; rfl)
      have e := List.dropLast_concat_getLast hne
      by_cases z : us.getLast hne = 0
      · rw [z] at e
        have := strip_length us.dropLast
        have s := strip_zero_end us.dropLast
        rw [e, h5] at s
        rw [← s, List.length_dropLast] at this
        omega
      · have g := h3 (us.getLast hne) (List.getLast_mem hne)
        have v : val 4294967296 us = val 4294967296 us.dropLast + 4294967296 ^ us.dropLast.length * us.getLast hne := by
          have := congrArg (val 4294967296) e
          rw [val_append] at this
          rw [← this]
          simp [val]
        have p : (0 : Int) < 4294967296 ^ us.dropLast.length := Int.pow_pos (by omega)
        have q1 := Int.mul_le_mul_of_nonneg_left (show 1 ≤ us.getLast hne by omega) (Int.le_of_lt p)
        have q2 : 0 ≤ val 4294967296 us.dropLast := val_nonneg (by omega) (fun y hy => h3 y (by rw [List.dropLast_eq_take] at hy; exact List.mem_of_mem_take hy))
        omega
/-- what the document's Trim has come to -/
def TrI (X V : Int) (k : Nat) : Prop := 0 ≤ V ∧ X = V * 10 ^ k ∧ (X = 0 → k = 0)
theorem trI_next {X V : Int} {k : Nat} (h : TrI X V k) (hV : 0 < V) (h0 : V % 10 = 0) : TrI X (V / 10) (k + 1) ∧ 0 < V / 10 := by
  obtain ⟨h1, h2, h3⟩ := h
  have e : V = V / 10 * 10 := by omega
  refine ⟨⟨by omega, ?_, fun q => ?_⟩, by omega⟩
  · rw [Int.pow_succ, Int.mul_comm (10 ^ k) 10, ← Int.mul_assoc, ← e]; exact h2
  · exfalso
    have p : (0 : Int) < 10 ^ k := Int.pow_pos (by omega)
    have := Int.mul_pos hV p
    omega
theorem trI_bound {X V : Int} {k : Nat} (h : TrI X V k) (h0 : 0 ≤ X) (hL : (words X).length ≤ 3000000) : k ≤ 192000000 := by
  by_cases q : X = 0
  · have := h.2.2 q; omega
  · have hV : 0 < V := by
      by_cases z : V = 0
      · have := h.2.1; rw [z, Int.zero_mul] at this; omega
      · have := h.1; omega
    have a := zeros_ge hV h.2.1
    have b := zeros_le (X := X) (L := 3000000) h0 hL
    omega
set_option maxHeartbeats 3200000 in
set_option maxRecDepth 100000 in
theorem refTrim4_any {a : Option Addr} {n cap : Nat} {xs : List Int} {w : World} (hrow : RowC w a n cap xs) (hw : Ws xs) (hn : n ≤ 2500000) :
    Calls Tryd.prog 28 #[.slice a n cap] w fun e w' => ∃ (va : Option Addr) (l c : Nat) (V : Int) (k : Nat), e = .returned (.tuple #[.slice va l c, .int .i64 (k : Int)]) ∧ (RowC w' va l c (words V) ∧ TrI (num xs) V k ∧ (0 < num xs → V % 10 ≠ 0)) ∧ Below w.heap.size w w' := by
  obtain ⟨i_u64, hi_u64, hz0_u64, hz1_u64, hz2_u64⟩ := info_parts info_u64
  have h0 := num_nonneg hw
  have lc := limbs4_any hrow hw hn
  have HLX : Fits (num xs) := by
    have := words_len hw
    have := hrow.1.1
    unfold Fits; omega
  generalize num xs = X at *
  go_enter Tryd.func28, Tryd.ntmps28
  go_wp2_with fail
  refine lc.mono ?_
  rintro e w1 ⟨va, l, c, us, rfl, ⟨hlim, hl9⟩, hb1⟩
  clear lc hrow
  go_wp2
  go_loopw [4, 5, 6, 7] (fun v i _ _ wr => ∃ (la : Option Addr) (ll lc k : Nat) (ls : List Int) (V : Int), v = .slice la ll lc ∧ i = .int .i64 (k : Int) ∧ Hid (LimbsOf wr w.heap.size la ll lc ls V) ∧ ll ≤ 5000000 ∧ Hid (TrI X V k) ∧ Below w.heap.size w wr) (fun _ i _ _ _ => 300000000 - (RowKit.intOf i).toNat)
  case atStart => exact ⟨va, l, c, 0, us, X, rfl, rfl, hlim, by omega, ⟨h0, by simp, fun _ => rfl⟩, hb1⟩
  case round =>
    obtain ⟨la, ll, lc, k, ls, V, rfl, rfl, hli, hl5, htr, hnx⟩ := hrel
    clear hlim hb1
    have hkb := trI_bound htr.out h0 HLX
    have hnone := limbs_none hli.out
    have hdone : ∀ (q : 0 < X → V % 10 ≠ 0) (w5 : World) (oa : Option Addr) (ol oc : Nat), RowC w5 oa ol oc (words V) → Below wr.heap.size wr w5 → Hid ((RowC w5 oa ol oc (words V) ∧ TrI X V k ∧ (0 < X → V % 10 ≠ 0)) ∧ Below w.heap.size w w5) := fun q w5 oa ol oc hr hb => ⟨⟨hr, htr.out, q⟩, hnx.trans (hb.mono hnx.size)⟩
    by_cases hz : ll = 0
    · have hV : V = 0 := hnone.mp hz
      have hX : X = 0 := by rw [htr.out.2.1, hV, Int.zero_mul]
      have hfin := hdone (fun q => by omega)
      obtain ⟨l1, l2, l3, l4, l5⟩ := hli.out
      have wc := words4_any (l1.rowS) l3 (by omega)
      rw [l4] at wc
      clear hdone hnone l1 l2 l3 l4 l5 hli htr hX hV
      subst hz
      go_wp2_with fail
      refine wc.mono ?_
      rintro e w5 ⟨oa, ol, oc, rfl, hr, hb⟩
      have hf := hfin w5 oa ol oc hr hb
      clear wc hfin hr hb
      go_wp2
      go_ret2
      exact ⟨oa, ol, oc, V, k, rfl, hf.out⟩
    · have hVp : 0 < V := by
        have := htr.out.1
        by_cases q : V = 0
        · exact absurd (hnone.mpr q) hz
        · omega
      obtain ⟨l1, l2, l3, l4, l5⟩ := hli.out
      have hlp : 0 < ls.length := by omega
      obtain ⟨g0, c0, hs, hg0⟩ := l1.shape hlp
      simp only [Value.slice.injEq] at hs
      obtain ⟨rfl, hsl, rfl⟩ := hs
      clear hsl
      have hba : Below wr.heap.size wr (wr.alloc (.cells #[] 35)) := (Below.refl _ _).alloc (Nat.le_refl _) _
      have hrl := l1.rowS
      have hla := hrl.1.later hba
      obtain ⟨b, off, hab, hbB, hc⟩ := hla.at (by omega)
      simp only [Option.some.injEq, Addr.mk.injEq] at hab
      obtain ⟨rfl, rfl, _⟩ := hab
      have hnews := row_news4 hla.1 hc
      have HL2 : Hid (ll = ls.length) := l2
      have hll : 0 < ll := by omega
      have HS : Hid (ls.length = ll) := l2.symm
      clear hnone hc hla l1 l2 hlp hbB
      go_wp2_with (at_builtin; refine wpList_append_own _ rfl _ _ 22 rfl wr.heap.size 35 i_u64 (.int .u64 0) 1 8 Tryd.underlying22 hi_u64 hz0_u64 hz1_u64 hz2_u64 rfl (by decide) _ 0 [] rfl (own_empty wr 35) ⟨g0, 0, none⟩ ll lc (ls.map (Value.int .u64)) rfl (by rw [List.length_map, HS.out, Nat.mul_one]) hnews ints_one4 (by unfold maxLen; omega) (by omega) (by simp) ?_)
      intro v1 w2 hown hgrow _
      have h1 : Own .u64 w2 wr.heap.size 35 v1 ls := by unfold Own; rw [HS.out]; exact hown
      have hb2 : Below wr.heap.size wr w2 := hba.grown hgrow (by simp) (fun k hk => by simp [Value.ownBlock] at hk; omega)
      obtain ⟨g1, c1, rfl, hg1⟩ := h1.shape (by rw [HS.out]; exact hll)
      rw [HS.out] at h1 ⊢
      have tk := take4_any (m := 10) h1 HL2.out l3 (by omega) (by omega) (by omega)
      rw [l4] at tk
      clear hown hgrow hnews hba h1
      by_cases hr : V % 10 = 0
      · obtain ⟨t1, t2⟩ := trI_next htr.out hVp hr
        have HT : Hid (TrI X (V / 10) (k + 1)) := t1
        have hkb2 := trI_bound t1 h0 HLX
        rw [hr] at tk
        clear t1 t2 hdone hr hli htr hrl l3 l4 l5 HL2 HS
        go_wp2_with fail
        refine tk.mono ?_
        rintro e w3 ⟨n', us', rfl, ⟨ho3, e3, hn3, d3, v3, s3⟩, hin⟩
        have hb3 := below_inn hb2 hin hg1 (Nat.le_refl _)
        have hB3 := hnx.trans (hb3.mono hnx.size)
        have HLI : Hid (LimbsOf w3 w.heap.size (some ⟨g1, 0, none⟩) n' c1 us' (V / 10)) := ⟨ho3.wider hnx.size, e3, d3, v3, s3⟩
        clear tk ho3 e3 d3 v3 s3 hin hb2 hb3
        go_wp2
        go_roundw
        case rel => exact ⟨_, n', c1, k + 1, us', V / 10, rfl, by go_num, HLI, by omega, HT, hB3⟩
        case measure => simp [RowKit.intOf]; omega
      · have hrn : (V % 10 != 0) = true := by rw [bne_iff_ne]; exact hr
        have hrb : 0 ≤ V % 10 := by omega
        have hrb2 : V % 10 < 10 := by omega
        have hfin := hdone (fun _ => hr)
        have hwc := fun w3 (h : Below wr.heap.size wr w3) => words4_any (hrl.later h) l3 (by omega)
        rw [l4] at hwc
        clear hdone hli htr hrl l3 l4 l5 HL2 HS
        obtain ⟨R, hR⟩ : ∃ R, R = V % 10 := ⟨_, rfl⟩
        rw [← hR] at tk hrn hrb hrb2
        clear hR hr
        go_wp2_with fail
        refine tk.mono ?_
        rintro e w3 ⟨n', us', rfl, ⟨ho3, e3, hn3, d3, v3, s3⟩, hin⟩
        have hb3 := below_inn hb2 hin hg1 (Nat.le_refl _)
        have wc := hwc w3 hb3
        clear tk ho3 e3 d3 v3 s3 hin hb2 hwc
        go_wp2_with fail
        refine wc.mono ?_
        rintro e w5 ⟨oa, ol, oc, rfl, hr5, hb5⟩
        have hf := hfin w5 oa ol oc hr5 (hb3.trans (hb5.mono hb3.size))
        clear wc hfin hr5 hb5 hb3
        go_wp2
        go_ret2
        exact ⟨oa, ol, oc, V, k, rfl, hf.out⟩
end Go.Proofs.YtmenhfnakcdnnabDoor

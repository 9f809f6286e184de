import Derived.WalkLawsBesides
import Derived.WalkSpells
import Derived.Deep.RegionWith
import Derived.Deep.DeepCutAuto
import Derived.Deep.DeepFit
import Derived.Below
import Derived.BigQuiet
import Derived.BigRegion
import Derived.ChangeOld
import Derived.Deep.QuietTactic
import Derived.Deep.RegionLaw
import Derived.KernelRfl
import Derived.Laws.BitsAllLaws
import Derived.Laws.CopyRow
import Derived.Laws.IdiomCopy
import Derived.Laws.IdiomRangeMap
import Derived.Laws.IdiomStrings
import Derived.Laws.RangeAny
import Derived.Laws.Strings3
import Derived.Lib.OthersKept
import Derived.Lib.Strings
import Derived.Lib.TrimByte
import Derived.Lib.Walk
import Derived.OpenShut
import Derived.OwnWalk
import Derived.ProofKit
import Derived.Scope
import Derived.ShutString
import Derived.WalkKit
import Derived.WalkMore
import Derived.Test.YtceecgklgkiffaaGreatDoorXf5
import Derived.Test.YtceecgklgkiffaaGreatDoorXf17
/- plumbref04: step, TooLong, Text, Count. -/
namespace Go.Proofs.YtceecgklgkiffaaGreatDoor
open Go.ChangeShapes Go.WideShapes Go.ChangeAt Go.RowKit
open Na Ar
set_option linter.unusedVariables false
/-- lists of unlike kinds lie in unlike blocks -/
theorem Own.innT {k : IntKind} {w w' : World} {base base' g n cap : Nat} {e e' : TypeId} {v : Value} {xs ls : List Int} (h : Own k w base e v xs) (hl : Own .u64 w base' e' (.slice (some ⟨g, 0, none⟩) n cap) ls) (he : e ≠ e') (hi : In g (g + 1) w w') : Own k w' base e v xs := by
  obtain ⟨h1, h2⟩ := h
  refine ⟨h1, ?_⟩
  rcases h2 with h2 | ⟨g2, c, cur, hv, hb, hc, r⟩
  · exact Or.inl h2
  · refine Or.inr ⟨g2, c, cur, hv, hb, ?_, r⟩
    have hlt : g2 < w.heap.size := by
      by_cases hlt : g2 < w.heap.size
      · exact hlt
      · simp [Array.getElem?_eq_none (Nat.le_of_not_lt hlt)] at hc
    have hne : g2 ≠ g := by
      rcases hl.2 with ⟨h0, _⟩ | ⟨g', c', cur', hv', _, hc', _⟩
      · simp at h0
      · simp only [Value.slice.injEq, Option.some.injEq, Addr.mk.injEq] at hv'
        intro hh
        have eg : g' = g2 := by omega
        rw [eg, hc] at hc'
        simp only [Option.some.injEq, Obj.cells.injEq] at hc'
        exact he hc'.2.1
    rw [hi.block g2 hlt (by omega)]; exact hc
theorem Own.shape8 {k : IntKind} {w : World} {base : Nat} {e : TypeId} {v : Value} {xs : List Int} (h : Own k w base e v xs) (hp : 0 < xs.length) : ∃ g c, v = .slice (some ⟨g, 0, none⟩) xs.length c ∧ base ≤ g := by
  rcases h.2 with ⟨_, h0⟩ | ⟨g, c, cur, hv, hb, _⟩
  · omega
  · exact ⟨g, c, hv, hb⟩
theorem LimbsOf.kept {w w' : World} {base base' : Nat} {a : Option Addr} {n c k : Nat} {us : List Int} {V : Int} {vb : Value} {bs : List Value} (h : LimbsOf w base a n c us V) (hb : w.ownsRow base' 5 1 vb k bs) (hg : w.grownBy w' vb.ownBlock) : LimbsOf w' base a n c us V := by
  obtain ⟨h1, h2⟩ := h
  exact ⟨h1.keptT hg (h1.apartT hb (by decide)), h2⟩
theorem LimbsOf.later {w w' : World} {base : Nat} {a : Option Addr} {n c : Nat} {us : List Int} {V : Int} (h : LimbsOf w base a n c us V) (hb : Below w.heap.size w w') : LimbsOf w' base a n c us V := ⟨h.1.later hb, h.2⟩
set_option maxHeartbeats 1600000 in
set_option maxRecDepth 100000 in
theorem step4_any (b : Int) (hb : 2 ≤ b) (hb9 : b ≤ 36) (w : World) :
    Calls Tryz.prog 132 #[.int .i64 b] w fun e w' => ∃ c : Nat, e = .returned (.tuple #[.int .u64 (b ^ c), .int .i64 (c : Int)]) ∧ (1 ≤ c ∧ c ≤ 32 ∧ b ^ c < 4294967296) ∧ w = w' := by
  go_enter Tryz.func132, Tryz.ntmps132
  have hb1 : b ^ 1 = b := Int.pow_one b
  have hwb : IntKind.u64.wrap b = b := by rw [wrapU]; omega
  go_wp2
  go_loop [4, 5] (fun s c => ∃ k : Nat, s = .int .u64 (b ^ k) ∧ c = .int .i64 (k : Int) ∧ 1 ≤ k ∧ k < 32 ∧ b ^ k < 4294967296) (fun _ c => 32 - (RowKit.intOf c).toNat)
  case atStart => exact ⟨1, by rw [hb1], rfl, by omega, by omega, by rw [hb1]; omega⟩
  case round =>
    obtain ⟨k, rfl, rfl, hk1, hk2, hkB⟩ := hrel
    have hp : 0 < b ^ k := Int.pow_pos (by omega)
    have hs : b ^ (k + 1) = b ^ k * b := Int.pow_succ ..
    have hsm := step_small4 (b := b) (c := k + 1) hb
    have hm9 : b ^ k * b ≤ 4294967296 * 36 := Int.mul_le_mul (by omega) hb9 (by omega) (by omega)
    have hm0 : 0 ≤ b ^ k * b := Int.mul_nonneg (by omega) (by omega)
    have hmw : IntKind.u64.wrap (b ^ k * b) = b ^ k * b := by rw [wrapU]; omega
    clear hb1
    by_cases hlt : b ^ k * b < 4294967296
    · have h32 := hsm (by rw [hs]; exact hlt)
      have HS : Hid (b ^ (k + 1) = b ^ k * b) := hs
      clear hs hsm hm9
      generalize b ^ k = P at *
      go_wp2
      go_round
      case rel => exact ⟨k + 1, by rw [HS.out], by go_num, by omega, h32, by rw [HS.out]; exact hlt⟩
      case measure => simp [RowKit.intOf]; omega
    · clear hs hsm
      go_wp2
      go_ret2
      exact ⟨k, rfl, ⟨hk1, by omega, hkB⟩, rfl⟩
set_option maxRecDepth 100000 in
theorem tooLong4_any {a : Option Addr} {n cap : Nat} {xs : List Int} {w : World} {B : Bool} (hrow : RowC w a n cap xs) (hw : Ws xs) (hn : n ≤ 2500000) (hB : decide (262144 < bitsN (num xs)) = B) :
    Calls Tryz.prog 131 #[.slice a n cap] w fun e w' => e = .returned (.bool B) ∧ w = w' := by
  have bc := ref3Bits_any (cap := cap) hrow.1 hw (by omega)
  generalize bitsN (num xs) = X at *
  subst hB
  go_enter Tryz.func131, Tryz.ntmps131
  go_wp2_with fail
  refine bc.mono ?_
  rintro e w' ⟨rfl, rfl⟩
  clear bc
  go_wp2
  go_ret
  exact ⟨rfl, rfl⟩
end Go.Proofs.YtceecgklgkiffaaGreatDoor

/- plumbref04.Text. -/
namespace Go.Proofs.YtceecgklgkiffaaGreatDoor
open Go.ChangeShapes Go.WideShapes Go.ChangeAt Go.RowKit
open Na Ar
set_option linter.unusedVariables false
theorem conv_bytes4 {w : World} {base g N cap : Nat} {zs : List Int} (h : Own .u8 w base 5 (.slice (some ⟨g, 0, none⟩) N cap) zs) (hN : N = zs.length) (hz : ∀ x ∈ zs, 48 ≤ x ∧ x ≤ 122) :
    (convert 60 9 (.slice (some ⟨g, 0, none⟩) N cap)).run Tryz.prog w = .ok (.string ⟨(bytesOf zs).toArray⟩) w := by
  have hl : (bytesOf zs).length = N := by unfold bytesOf; rw [List.length_map]; exact hN.symm
  have r := run_convert_bytes_back (P := Tryz.prog) w 60 9 5 ⟨g, 0, none⟩ cap (bytesOf zs) Tryz.underlying60 Tryz.underlying5 Tryz.underlying9 (fun j hj => by
    have hjn : j < N := by rw [← hl]; exact hj
    have c := h.cellAt hN (j := j) hjn
    have ea : (⟨g, 0, none⟩ : Addr).add j = ⟨g, j, none⟩ := by
      unfold Addr.add
      by_cases hi0 : j = 0
      · subst hi0; simp
      · simp [hi0]
    rw [ea, c]
    have hjz : j < zs.length := by omega
    have m := hz (zs.getD j 0) (by rw [List.getD_eq_getElem?_getD, List.getElem?_eq_getElem hjz]; exact List.getElem_mem hjz)
    have e : zs[j] = zs.getD j 0 := by rw [List.getD_eq_getElem?_getD, List.getElem?_eq_getElem hjz]; rfl
    have e2 : (bytesOf zs)[j] = UInt8.ofNat (zs.getD j 0).toNat := by rw [← e]; simp [bytesOf]
    rw [e2, UInt8.toNat_ofNat']
    congr 2
    omega)
  rw [hl] at r
  exact r
namespace Na
theorem pow_of_quot {b X : Int} {K : Nat} (hb : 2 ≤ b) (hX : 0 ≤ X) (h : 0 < X / b ^ K) : b ^ K ≤ X := by
  by_cases g : b ^ K ≤ X
  · exact g
  · rw [Int.ediv_eq_zero_of_lt hX (by omega)] at h; omega
theorem quot_none {b X : Int} {K : Nat} (hb : 2 ≤ b) (hX : 0 ≤ X) (h : X / b ^ K = 0) : X < b ^ K := by
  have p : 0 < b ^ K := Int.pow_pos (by omega)
  by_cases g : b ^ K ≤ X
  · have := Int.le_ediv_of_mul_le p (show 1 * b ^ K ≤ X by omega)
    omega
  · omega
theorem quot_next {b X m : Int} {K c : Nat} (hb : 2 ≤ b) (hm : m = b ^ c) : X / b ^ K / m = X / b ^ (K + c) := by
  rw [hm, Int.ediv_ediv_of_nonneg (Int.pow_nonneg (by omega)), ← Int.pow_add]
end Na
theorem own_caps {k : IntKind} {w : World} {base n cap : Nat} {e : TypeId} {a : Option Addr} {xs : List Int} (h : Own k w base e (.slice a n cap) xs) : xs.length ≤ cap := by
  obtain ⟨a', c', hv, hc, _⟩ := h.reads
  simp only [Value.slice.injEq] at hv
  omega
theorem own_slen {k : IntKind} {w : World} {base K : Nat} {e : TypeId} {v : Value} {xs : List Int} (h : Own k w base e v xs) (hK : xs.length = K) : Hid (sLen v = K) := by
  obtain ⟨a, c, rfl, _⟩ := h.reads
  exact hK
set_option maxHeartbeats 12800000 in
set_option maxRecDepth 100000 in
theorem refText4_any {a : Option Addr} {n cap : Nat} {xs : List Int} {b : Int} {w : World} (hrow : RowC w a n cap xs) (hw : Ws xs) (hn : n ≤ 2500000) (hb : 2 ≤ b) (hb9 : b ≤ 36) (hfit : bitsN (num xs) ≤ 262144) (hX : 0 < num xs) :
    Calls Tryz.prog 89 #[.slice a n cap, .int .i64 b] w fun e w' => ∃ t : ByteArray, e = .returned (.tuple #[.string t, .int .i64 0]) ∧ TextIs (num xs) b t ∧ Below w.heap.size w w' := by
  obtain ⟨i_u8, hi_u8, hz0_u8, hz1_u8, hz2_u8⟩ := info_parts info_u8
  have tl := tooLong4_any (B := false) hrow hw hn (by simp; omega)
  have lc := limbs4_any hrow hw hn
  obtain ⟨β, hβ, _, hβ2⟩ := bits_some hX
  have HT : Hid (num xs < topB) := Int.lt_of_lt_of_le hβ2 (p2mono (by omega))
  have hwb : IntKind.u64.wrap b = b := by rw [wrapU]; omega
  have HX0 : Hid (0 < num xs) := hX
  generalize num xs = X at *
  clear hβ hβ2 hfit hrow
  have hbz : (b == 0) = false := by simp; omega
  go_enter Tryz.func89, Tryz.ntmps89
  go_wp2_with fail
  refine tl.mono ?_
  rintro e w' ⟨rfl, rfl⟩
  clear tl
  go_wp2_with fail
  refine (step4_any b hb hb9 w).mono ?_
  rintro e w' ⟨c, rfl, ⟨hc1, hc2, hcm⟩, rfl⟩
  obtain ⟨m, hm⟩ : ∃ m, m = b ^ c := ⟨_, rfl⟩
  have HM : Hid (m = b ^ c) := hm
  rw [← hm] at hcm ⊢
  have hm1 : 1 ≤ m := by rw [hm]; exact Int.pow_pos (by omega)
  clear hm
  go_wp2_with fail
  refine lc.mono ?_
  rintro e w1 ⟨va, l, c', us, rfl, ⟨hlim, hl9⟩, hb1⟩
  clear lc
  go_wp2
  go_loopw [9, 10, 11, 12] (fun lv v _ _ wr => ∃ (la : Option Addr) (ll lc K : Nat) (ls : List Int), lv = .slice la ll lc ∧ Hid (LimbsOf wr w.heap.size la ll lc ls (X / b ^ K)) ∧ ll ≤ 5000000 ∧ K ≤ 262200 ∧ Own .u8 wr w.heap.size 5 v (lowD b K X) ∧ Below w.heap.size w wr) (fun _ v _ _ _ => 300000 - sLen v)
  case atStart => exact ⟨va, l, c', 0, us, rfl, (by rw [Int.pow_zero, Int.ediv_one]; exact hlim : LimbsOf _ _ _ _ _ _ (X / b ^ 0)), by omega, by omega, own_nil _ _ _ _, hb1⟩
  case round =>
    obtain ⟨la, ll, lc, K, ls, rfl, hli, hl5, hK9, hov, hnx⟩ := hrel
    clear hlim hb1
    have hnone := limbs_none hli.out
    have hlK := lowD_length b K X
    have hsv := own_slen hov hlK
    by_cases hz : ll = 0
    · have hXK := quot_none hb (Int.le_of_lt hX) (hnone.mp hz)
      have hK1 : 1 ≤ K := by
        cases K with
        | zero => rw [Int.pow_zero] at hXK; omega
        | succ k => omega
      have HXK : Hid (X < b ^ K) := hXK
      obtain ⟨g, vc, rfl, hg⟩ := hov.shape8 (by rw [hlK]; exact hK1)
      rw [hlK] at hov ⊢
      have hvc := own_caps hov
      rw [hlK] at hvc
      have HLK : Hid ((lowD b K X).length = K) := hlK
      have hbdz := lowD_bd hb hb9 K X
      clear hnone hli hXK hlK
      subst hz
      have HF : Hid (∀ m, Cut48 (lowD b K X) m → (m = 0 ∨ (lowD b K X).getD (m - 1) 0 ≠ 48) → ∀ t : ByteArray, t.data.toList = bytesOf ((lowD b K X).take m).reverse → TextIs X b t) := fun m h1 h2 t h3 => textIs_low hb hb9 hK1 HXK.out h1 h2 h3
      generalize lowD b K X = zs at *
      clear HT HM hm1 hcm hX
      go_wp2
      go_loop [10] (fun v => ∃ m' : Nat, v = .slice (some ⟨g, 0, none⟩) m' vc ∧ m' ≤ K ∧ Hid (Cut48 zs m')) (fun v => sLen v)
      case atStart => exact ⟨K, rfl, Nat.le_refl _, (by rw [← HLK.out]; exact cut48_start _ : Cut48 zs K)⟩
      case round =>
        obtain ⟨m', rfl, hm', hc48⟩ := hrel
        cases m' with
        | zero =>
          exfalso
          have p := textIs_pos hb hb9 HX0.out (HF.out 0 hc48.out (Or.inl rfl) ⟨#[]⟩ (by simp [bytesOf]))
          exact absurd p (by decide)
        | succ j =>
          have hcx := hov.cellAt HLK.out.symm (j := j) (by omega)
          have hnext := cut48_step hc48.out
          have hdone : zs.getD j 0 ≠ 48 → ∀ t : ByteArray, t.data.toList = bytesOf (zs.take (j + 1)).reverse → TextIs X b t := fun q => HF.out (j + 1) hc48.out (Or.inr q)
          generalize zs.getD j 0 = z at *
          by_cases h48 : z = 48
          · have t48 : (z == 48) = true := by rw [h48]; rfl
            have HC : Hid (Cut48 zs j) := hnext h48
            clear hnext hdone h48 hc48
            go_wp2
            go_round
            case rel => exact ⟨j, rfl, by omega, HC⟩
            case measure => simp [sLen]
          · have t48 : (z == 48) = false := by rw [beq_eq_false_iff_ne]; exact h48
            have HD : Hid (∀ t : ByteArray, t.data.toList = bytesOf (zs.take (j + 1)).reverse → TextIs X b t) := hdone h48
            have hoc : Own .u8 wr w.heap.size 5 (.slice (some ⟨g, 0, none⟩) (j + 1) vc) (zs.take (j + 1)) := by
              have hc := hov
              rw [← HLK.out] at hc
              exact hc.cut (by rw [HLK.out]; exact hm')
            have hbd2 : ∀ x ∈ zs.take (j + 1), 48 ≤ x ∧ x ≤ 122 := fun x hx => hbdz x (List.mem_of_mem_take hx)
            have hlen : (zs.take (j + 1)).length = j + 1 := by rw [List.length_take, HLK.out]; omega
            have HL2 : Hid ((zs.take (j + 1)).length = j + 1) := hlen
            clear hnext hdone h48 hc48 HF hov hbdz hlen
            generalize zs.take (j + 1) = ys0 at *
            go_wp2
            go_loopw [13, 14, 15] (fun i _ _ w4 => ∃ (q : Nat) (ys : List Int), i = .int .i64 (q : Int) ∧ q ≤ (j + 1) / 2 ∧ Own .u8 w4 w.heap.size 5 (.slice (some ⟨g, 0, none⟩) (j + 1) vc) ys ∧ Hid (RvI ys0 ys q) ∧ Below w.heap.size w w4) (fun i _ _ _ => (j + 1) / 2 - (RowKit.intOf i).toNat)
            case atStart => exact ⟨0, ys0, rfl, by omega, hoc, rvI_start _, hnx⟩
            case round =>
              obtain ⟨q, ys, rfl, hq, hoy, hrv, hnx4⟩ := hrel
              clear hoc
              have hly : Hid (j + 1 = ys.length) := by
                show _ = _
                rw [hrv.out.1, HL2.out]
              by_cases hlt : q < (j + 1) / 2
              · have hst := rvI_step hrv.out (by rw [HL2.out]; exact hlt)
                rw [HL2.out] at hst
                have hk : j + 1 - 1 - q = j - q := by omega
                rw [hk] at hst
                have c1 := hoy.cellAt hly.out (j := q) (by omega)
                have c2 := hoy.cellAt hly.out (j := j - q) (by omega)
                have f1 := hoy.frozenAt hly.out q
                have o1 := hoy.set hly.out q (ys.getD (j - q) 0)
                have f2 := o1.frozenAt (by rw [List.length_set]; exact hly.out) (j - q)
                have o2 := o1.set (by rw [List.length_set]; exact hly.out) (j - q) (ys.getD q 0)
                have HS : Hid (RvI ys0 ((ys.set q (ys.getD (j - q) 0)).set (j - q) (ys.getD q 0)) (q + 1)) := hst
                have hc3 := o1.cellAt (by rw [List.length_set]; exact hly.out) (j := j - q) (by omega)
                have hlt2 : (q : Int) < ((j : Int) + 1) / 2 := by omega
                have hkn : ((j : Int) - (q : Int)).toNat = j - q := by omega
                generalize ys.getD q 0 = u1 at *
                generalize ys.getD (j - q) 0 = u2 at *
                clear hst hk hrv hoy o1
                go_wp2
                go_roundw
                case rel => exact ⟨q + 1, _, by go_num, by omega, o2, HS, (hnx4.setCell hg _).setCell hg _⟩
                case measure => simp [RowKit.intOf]; omega
              · have hrev := rvI_done hrv.out (by rw [HL2.out]; exact hlt)
                have hbd3 : ∀ x ∈ ys, 48 ≤ x ∧ x ≤ 122 := fun x hx => hbd2 x (by rw [hrev] at hx; exact List.mem_reverse.mp hx)
                have hcv := conv_bytes4 hoy hly.out hbd3
                obtain ⟨u, hu⟩ : ∃ u : ByteArray, u = ⟨(bytesOf ys).toArray⟩ := ⟨_, rfl⟩
                have HU : Hid (TextIs X b u) := HD.out u (by rw [hu, ← hrev])
                have hlt2 : ¬ (q : Int) < ((j : Int) + 1) / 2 := by omega
                rw [← hu] at hcv
                clear hrev hbd3 hu hrv
                go_wp2
                go_ret2
                exact ⟨u, rfl, HU.out, hnx4⟩
    · have hVp : 0 < X / b ^ K := by
        have : 0 ≤ X / b ^ K := Int.ediv_nonneg (Int.le_of_lt hX) (Int.pow_nonneg (by omega))
        by_cases q : X / b ^ K = 0
        · exact absurd (hnone.mpr q) hz
        · omega
      have hKb := rung_digits hb (Int.lt_of_le_of_lt (pow_of_quot hb (Int.le_of_lt hX) hVp) HT.out)
      obtain ⟨l1, l2, l3, l4, l5⟩ := hli.out
      obtain ⟨g0, c0, hs, hg0⟩ := l1.shape (by omega)
      simp only [Value.slice.injEq] at hs
      obtain ⟨rfl, hsl, rfl⟩ := hs
      clear hsl
      have tk := take4_any (m := m) l1 l2 l3 hm1 hcm (by omega)
      rw [l4] at tk
      have hov2 := fun w3 (h : In g0 (g0 + 1) wr w3) => hov.innT l1 (by decide) h
      clear hnone l2 l3 l4 l5
      have hR0 := Int.emod_nonneg (X / b ^ K) (show m ≠ 0 by omega)
      have hR1 := Int.emod_lt_of_pos (X / b ^ K) (show 0 < m by omega)
      obtain ⟨R, hR⟩ : ∃ R, R = X / b ^ K % m := ⟨_, rfl⟩
      have HR : Hid (R = X / b ^ K % m) := hR
      rw [← hR] at tk hR0 hR1
      clear hR hli
      have hll : 0 < ll := by omega
      go_wp2_with fail
      refine tk.mono ?_
      rintro e w3 ⟨n', us', rfl, ⟨ho3, e3, hn3, d3, v3, s3⟩, hin⟩
      have hov3 := hov2 w3 hin
      have hB3 := below_inn hnx hin hg0 (Nat.le_refl _)
      have HLI : Hid (LimbsOf w3 w.heap.size (some ⟨g0, 0, none⟩) n' lc us' (X / b ^ (K + c))) := ⟨ho3, e3, d3, by rw [v3]; exact quot_next hb HM.out, s3⟩
      clear tk hov2 hov hin ho3 e3 d3 v3 s3 l1 hnx
      have HMc := HM.out
      have hRb : R < b ^ c := by rw [← HMc]; exact hR1
      have HNJ : Hid (lowD b K X ++ lowD b c R = lowD b (K + c) X) := by
        show _ = _
        rw [HR.out, HM.out, lowD_join hb]
      have hRU : R < 4294967296 := by omega
      clear HMc hRb hVp HR
      go_wp2
      go_loopw [10, 11, 12] (fun v r kk w4 => ∃ (j : Nat) (Q : Int), kk = .int .i64 (j : Int) ∧ r = .int .u64 Q ∧ Hid (Q = R / b ^ j) ∧ j ≤ c ∧ Own .u8 w4 w.heap.size 5 v (lowD b K X ++ lowD b j R) ∧ Hid (LimbsOf w4 w.heap.size (some ⟨g0, 0, none⟩) n' lc us' (X / b ^ (K + c))) ∧ Below w.heap.size w w4) (fun _ _ kk _ => c - (RowKit.intOf kk).toNat)
      case atStart => exact ⟨0, R, rfl, rfl, (by simp : R = R / b ^ 0), by omega, (by rw [show lowD b 0 R = [] from rfl, List.append_nil]; exact hov3), HLI, hB3⟩
      case round =>
        obtain ⟨j, Q, rfl, rfl, hQ, hj, hov4, hli4, hnx4⟩ := hrel
        clear HLI hov3 hB3
        have hlj := lowD_length b j R
        by_cases hlt : j < c
        · have hQ0 : 0 ≤ Q := by rw [hQ.out]; exact Int.ediv_nonneg hR0 (Int.pow_nonneg (by omega))
          have hQ1 : Q ≤ R := by rw [hQ.out]; exact Int.ediv_le_self _ hR0
          have r0 := Int.emod_nonneg Q (show b ≠ 0 by omega)
          have r1 := Int.emod_lt_of_pos Q (show 0 < b by omega)
          have q0 : 0 ≤ Q / b := Int.ediv_nonneg hQ0 (by omega)
          have q1 : Q / b ≤ Q := Int.ediv_le_self b hQ0
          have hdig := fun h => dig_byte r0 (show Q % b < 36 by omega) h
          have HQ2 : Hid (Q / b = R / b ^ (j + 1)) := by
            show _ = _
            rw [hQ.out, Int.pow_succ, ← Int.ediv_ediv_of_nonneg (Int.pow_nonneg (by omega))]
          have HJ : Hid (lowD b K X ++ lowD b (j + 1) R = (lowD b K X ++ lowD b j R) ++ [dch (Q % b)]) := by
            show _ = _
            rw [lowD_next hb, ← hQ.out, List.append_assoc]
          have hlen : (lowD b K X ++ lowD b j R).length = K + j := by rw [List.length_append, hlj, lowD_length]
          have hsz : w.heap.size ≤ wr.heap.size := hnx4.size
          generalize lowD b K X ++ lowD b j R = zs at *
          clear hQ hlj
          go_wp2_with (at_builtin; refine wpList_append_own _ rfl _ _ 60 rfl w.heap.size 5 i_u8 (.int .u8 0) 1 1 Tryz.underlying60 hi_u8 hz0_u8 hz1_u8 hz2_u8 rfl (by decide) _ _ _ rfl (hov4.row.alloc _) ⟨wr.heap.size, 0, none⟩ 1 1 [.int .u8 (dch (Q % b))] rfl rfl one_new one_cell (by unfold maxLen; omega) (by omega) (by simp; omega) ?_)
          intro v' w5 hown' hgrow _
          have hb' := grow_below hsz hov4.row hnx4 hgrow
          have ho' := own_next hown' hlen.symm
          rw [← HJ.out] at ho'
          have HLI' : Hid (LimbsOf w5 w.heap.size (some ⟨g0, 0, none⟩) n' lc us' (X / b ^ (K + c))) := (hli4.out.later ((Below.refl _ _).alloc (Nat.le_refl _) _)).kept (hov4.row.alloc _) hgrow
          clear hown' hgrow hov4 hnx4 hli4 hdig HJ
          go_wp2
          go_roundw
          case rel => exact ⟨j + 1, _, by go_num, rfl, HQ2, by omega, ho', HLI', hb'⟩
          case measure => simp [RowKit.intOf]; omega
        · have hjc : j = c := by omega
          subst hjc
          rw [HNJ.out] at hov4
          clear hQ hlj
          have hrd := hov4.reads
          obtain ⟨oa, oc, rfl, _⟩ := hrd
          have hl4 := lowD_length b (K + j) X
          have HS4 : Hid (sLen (.slice oa (lowD b (K + j) X).length oc) = K + j) := hl4
          clear hl4
          go_wp2
          go_roundw
          case rel => exact ⟨_, n', lc, K + j, us', rfl, hli4, by omega, by omega, hov4, hnx4⟩
          case measure =>
            have m1 := hsv.out
            have m2 := HS4.out
            exact (by rw [m1, m2]; omega : 300000 - sLen (.slice oa (lowD b (K + j) X).length oc) < 300000 - sLen _)
end Go.Proofs.YtceecgklgkiffaaGreatDoor

/- RadixSums: what it needs, and its walk. -/
namespace Go.Proofs.YtceecgklgkiffaaGreatDoor
open Go.ChangeShapes Go.WideShapes Go.ChangeAt Go.RowKit
open Na Ar
set_option linter.unusedVariables false
namespace Na
end Na
end Go.Proofs.YtceecgklgkiffaaGreatDoor

/- Text, Count and Trim, of the program and of the document, in every case; RadixTexts' walk. -/
namespace Go.Proofs.YtceecgklgkiffaaGreatDoor
open Go.ChangeShapes Go.WideShapes Go.ChangeAt Go.RowKit
open Na Ar
set_option linter.unusedVariables false
namespace Na
end Na
end Go.Proofs.YtceecgklgkiffaaGreatDoor


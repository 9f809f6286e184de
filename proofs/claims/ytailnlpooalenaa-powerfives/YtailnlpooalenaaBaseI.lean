import Derived.Test.YtailnlpooalenaaBaseG
import Derived.Test.YtailnlpooalenaaBaseH
import Derived.WalkLawsBesides
import Derived.WalkSpells
import Derived.Deep.RegionWith
import Derived.Deep.DeepCutAuto
import Derived.Deep.DeepFit
/- plumbref04: step, TooLong, Text, Count. -/
namespace Go.Proofs.Ytailnlpooalenaa
open Go.ChangeShapes Go.WideShapes Go.ChangeAt Go.RowKit
open Na Ar
set_option linter.unusedVariables false
/-- lists of unlike kinds lie in unlike blocks -/
theorem Own.innT {k : IntKind} {w w' : World} {base base' g n cap : Nat} {e e' : TypeId} {v : Value} {xs ls : List Int} (h : Own k w base e v xs) (hl : Own .u64 w base' e' (.slice (some ⟨g, 0, none⟩) n cap) ls) (he : e ≠ e') (hi : In g (g + 1) w w') : Own k w' base e v xs := by
  obtain ⟨h1, h2⟩ := h
  refine ⟨h1, ?_⟩
  rcases h2 with h2 | ⟨g2, c, cur, hv, hb, hc, r⟩
  · exact Or.inl h2
  · refine Or.inr ⟨g2, c, cur, hv, hb, ?_, r⟩
    have hlt : g2 < w.heap.size := by
      by_cases hlt : g2 < w.heap.size
      · exact hlt
      · simp [Array.getElem?_eq_none (Nat.le_of_not_lt hlt)] at hc
    have hne : g2 ≠ g := by
      rcases hl.2 with ⟨h0, _⟩ | ⟨g', c', cur', hv', _, hc', _⟩
      · simp at h0
      · simp only [Value.slice.injEq, Option.some.injEq, Addr.mk.injEq] at hv'
        intro hh
        have eg : g' = g2 := by omega
        rw [eg, hc] at hc'
        simp only [Option.some.injEq, Obj.cells.injEq] at hc'
        exact he hc'.2.1
    rw [hi.block g2 hlt (by omega)]; exact hc
theorem Own.shape8 {k : IntKind} {w : World} {base : Nat} {e : TypeId} {v : Value} {xs : List Int} (h : Own k w base e v xs) (hp : 0 < xs.length) : ∃ g c, v = .slice (some ⟨g, 0, none⟩) xs.length c ∧ base ≤ g := by
  rcases h.2 with ⟨_, h0⟩ | ⟨g, c, cur, hv, hb, _⟩
  · omega
  · exact ⟨g, c, hv, hb⟩
theorem LimbsOf.kept {w w' : World} {base base' : Nat} {a : Option Addr} {n c k : Nat} {us : List Int} {V : Int} {vb : Value} {bs : List Value} (h : LimbsOf w base a n c us V) (hb : w.ownsRow base' 5 1 vb k bs) (hg : w.grownBy w' vb.ownBlock) : LimbsOf w' base a n c us V := by
  obtain ⟨h1, h2⟩ := h
  exact ⟨h1.keptT hg (h1.apartT hb (by decide)), h2⟩
theorem LimbsOf.later {w w' : World} {base : Nat} {a : Option Addr} {n c : Nat} {us : List Int} {V : Int} (h : LimbsOf w base a n c us V) (hb : Below w.heap.size w w') : LimbsOf w' base a n c us V := ⟨h.1.later hb, h.2⟩
set_option maxHeartbeats 1600000 in
set_option maxRecDepth 100000 in
theorem step4_any (b : Int) (hb : 2 ≤ b) (hb9 : b ≤ 36) (w : World) :
    Calls Try.prog 79 #[.int .i64 b] w fun e w' => ∃ c : Nat, e = .returned (.tuple #[.int .u64 (b ^ c), .int .i64 (c : Int)]) ∧ (1 ≤ c ∧ c ≤ 32 ∧ b ^ c < 4294967296) ∧ w = w' := by
  go_enter Try.func79, Try.ntmps79
  have hb1 : b ^ 1 = b := Int.pow_one b
  have hwb : IntKind.u64.wrap b = b := by rw [wrapU]; omega
  go_wp2
  go_loop [4, 5] (fun s c => ∃ k : Nat, s = .int .u64 (b ^ k) ∧ c = .int .i64 (k : Int) ∧ 1 ≤ k ∧ k < 32 ∧ b ^ k < 4294967296) (fun _ c => 32 - (RowKit.intOf c).toNat)
  case atStart => exact ⟨1, by rw [hb1], rfl, by omega, by omega, by rw [hb1]; omega⟩
  case round =>
    obtain ⟨k, rfl, rfl, hk1, hk2, hkB⟩ := hrel
    have hp : 0 < b ^ k := Int.pow_pos (by omega)
    have hs : b ^ (k + 1) = b ^ k * b := Int.pow_succ ..
    have hsm := step_small4 (b := b) (c := k + 1) hb
    have hm9 : b ^ k * b ≤ 4294967296 * 36 := Int.mul_le_mul (by omega) hb9 (by omega) (by omega)
    have hm0 : 0 ≤ b ^ k * b := Int.mul_nonneg (by omega) (by omega)
    have hmw : IntKind.u64.wrap (b ^ k * b) = b ^ k * b := by rw [wrapU]; omega
    clear hb1
    by_cases hlt : b ^ k * b < 4294967296
    · have h32 := hsm (by rw [hs]; exact hlt)
      have HS : Hid (b ^ (k + 1) = b ^ k * b) := hs
      clear hs hsm hm9
      generalize b ^ k = P at *
      go_wp2
      go_round
      case rel => exact ⟨k + 1, by rw [HS.out], by go_num, by omega, h32, by rw [HS.out]; exact hlt⟩
      case measure => simp [RowKit.intOf]; omega
    · clear hs hsm
      go_wp2
      go_ret2
      exact ⟨k, rfl, ⟨hk1, by omega, hkB⟩, rfl⟩
set_option maxRecDepth 100000 in
theorem tooLong4_any {a : Option Addr} {n cap : Nat} {xs : List Int} {w : World} {B : Bool} (hrow : RowC w a n cap xs) (hw : Ws xs) (hn : n ≤ 2500000) (hB : decide (262144 < bitsN (num xs)) = B) :
    Calls Try.prog 78 #[.slice a n cap] w fun e w' => e = .returned (.bool B) ∧ w = w' := by
  have bc := ref3Bits_any (cap := cap) hrow.1 hw (by omega)
  generalize bitsN (num xs) = X at *
  subst hB
  go_enter Try.func78, Try.ntmps78
  go_wp2_with fail
  refine bc.mono ?_
  rintro e w' ⟨rfl, rfl⟩
  clear bc
  go_wp2
  go_ret
  exact ⟨rfl, rfl⟩
end Go.Proofs.Ytailnlpooalenaa

/- plumbref04.Text. -/
namespace Go.Proofs.Ytailnlpooalenaa
open Go.ChangeShapes Go.WideShapes Go.ChangeAt Go.RowKit
open Na Ar
set_option linter.unusedVariables false
theorem conv_bytes4 {w : World} {base g N cap : Nat} {zs : List Int} (h : Own .u8 w base 5 (.slice (some ⟨g, 0, none⟩) N cap) zs) (hN : N = zs.length) (hz : ∀ x ∈ zs, 48 ≤ x ∧ x ≤ 122) :
    (convert 93 9 (.slice (some ⟨g, 0, none⟩) N cap)).run Try.prog w = .ok (.string ⟨(bytesOf zs).toArray⟩) w := by
  have hl : (bytesOf zs).length = N := by unfold bytesOf; rw [List.length_map]; exact hN.symm
  have r := run_convert_bytes_back (P := Try.prog) w 93 9 5 ⟨g, 0, none⟩ cap (bytesOf zs) Try.underlying93 Try.underlying5 Try.underlying9 (fun j hj => by
    have hjn : j < N := by rw [← hl]; exact hj
    have c := h.cellAt hN (j := j) hjn
    have ea : (⟨g, 0, none⟩ : Addr).add j = ⟨g, j, none⟩ := by
      unfold Addr.add
      by_cases hi0 : j = 0
      · subst hi0; simp
      · simp [hi0]
    rw [ea, c]
    have hjz : j < zs.length := by omega
    have m := hz (zs.getD j 0) (by rw [List.getD_eq_getElem?_getD, List.getElem?_eq_getElem hjz]; exact List.getElem_mem hjz)
    have e : zs[j] = zs.getD j 0 := by rw [List.getD_eq_getElem?_getD, List.getElem?_eq_getElem hjz]; rfl
    have e2 : (bytesOf zs)[j] = UInt8.ofNat (zs.getD j 0).toNat := by rw [← e]; simp [bytesOf]
    rw [e2, UInt8.toNat_ofNat']
    congr 2
    omega)
  rw [hl] at r
  exact r
namespace Na
theorem pow_of_quot {b X : Int} {K : Nat} (hb : 2 ≤ b) (hX : 0 ≤ X) (h : 0 < X / b ^ K) : b ^ K ≤ X := by
  by_cases g : b ^ K ≤ X
  · exact g
  · rw [Int.ediv_eq_zero_of_lt hX (by omega)] at h; omega
theorem quot_none {b X : Int} {K : Nat} (hb : 2 ≤ b) (hX : 0 ≤ X) (h : X / b ^ K = 0) : X < b ^ K := by
  have p : 0 < b ^ K := Int.pow_pos (by omega)
  by_cases g : b ^ K ≤ X
  · have := Int.le_ediv_of_mul_le p (show 1 * b ^ K ≤ X by omega)
    omega
  · omega
theorem quot_next {b X m : Int} {K c : Nat} (hb : 2 ≤ b) (hm : m = b ^ c) : X / b ^ K / m = X / b ^ (K + c) := by
  rw [hm, Int.ediv_ediv_of_nonneg (Int.pow_nonneg (by omega)), ← Int.pow_add]
end Na
theorem own_caps {k : IntKind} {w : World} {base n cap : Nat} {e : TypeId} {a : Option Addr} {xs : List Int} (h : Own k w base e (.slice a n cap) xs) : xs.length ≤ cap := by
  obtain ⟨a', c', hv, hc, _⟩ := h.reads
  simp only [Value.slice.injEq] at hv
  omega
theorem own_slen {k : IntKind} {w : World} {base K : Nat} {e : TypeId} {v : Value} {xs : List Int} (h : Own k w base e v xs) (hK : xs.length = K) : Hid (sLen v = K) := by
  obtain ⟨a, c, rfl, _⟩ := h.reads
  exact hK
set_option maxHeartbeats 12800000 in
set_option maxRecDepth 100000 in
theorem refText4_any {a : Option Addr} {n cap : Nat} {xs : List Int} {b : Int} {w : World} (hrow : RowC w a n cap xs) (hw : Ws xs) (hn : n ≤ 2500000) (hb : 2 ≤ b) (hb9 : b ≤ 36) (hfit : bitsN (num xs) ≤ 262144) (hX : 0 < num xs) :
    Calls Try.prog 62 #[.slice a n cap, .int .i64 b] w fun e w' => ∃ t : ByteArray, e = .returned (.tuple #[.string t, .int .i64 0]) ∧ TextIs (num xs) b t ∧ Below w.heap.size w w' := by
  obtain ⟨i_u8, hi_u8, hz0_u8, hz1_u8, hz2_u8⟩ := info_parts info_u8
  have tl := tooLong4_any (B := false) hrow hw hn (by simp; omega)
  have lc := limbs4_any hrow hw hn
  obtain ⟨β, hβ, _, hβ2⟩ := bits_some hX
  have HT : Hid (num xs < topB) := Int.lt_of_lt_of_le hβ2 (p2mono (by omega))
  have hwb : IntKind.u64.wrap b = b := by rw [wrapU]; omega
  have HX0 : Hid (0 < num xs) := hX
  generalize num xs = X at *
  clear hβ hβ2 hfit hrow
  have hbz : (b == 0) = false := by simp; omega
  go_enter Try.func62, Try.ntmps62
  go_wp2_with fail
  refine tl.mono ?_
  rintro e w' ⟨rfl, rfl⟩
  clear tl
  go_wp2_with fail
  refine (step4_any b hb hb9 w).mono ?_
  rintro e w' ⟨c, rfl, ⟨hc1, hc2, hcm⟩, rfl⟩
  obtain ⟨m, hm⟩ : ∃ m, m = b ^ c := ⟨_, rfl⟩
  have HM : Hid (m = b ^ c) := hm
  rw [← hm] at hcm ⊢
  have hm1 : 1 ≤ m := by rw [hm]; exact Int.pow_pos (by omega)
  clear hm
  go_wp2_with fail
  refine lc.mono ?_
  rintro e w1 ⟨va, l, c', us, rfl, ⟨hlim, hl9⟩, hb1⟩
  clear lc
  go_wp2
  go_loopw [9, 10, 11, 12] (fun lv v _ _ wr => ∃ (la : Option Addr) (ll lc K : Nat) (ls : List Int), lv = .slice la ll lc ∧ Hid (LimbsOf wr w.heap.size la ll lc ls (X / b ^ K)) ∧ ll ≤ 5000000 ∧ K ≤ 262200 ∧ Own .u8 wr w.heap.size 5 v (lowD b K X) ∧ Below w.heap.size w wr) (fun _ v _ _ _ => 300000 - sLen v)
  case atStart => exact ⟨va, l, c', 0, us, rfl, (by rw [Int.pow_zero, Int.ediv_one]; exact hlim : LimbsOf _ _ _ _ _ _ (X / b ^ 0)), by omega, by omega, own_nil _ _ _ _, hb1⟩
  case round =>
    obtain ⟨la, ll, lc, K, ls, rfl, hli, hl5, hK9, hov, hnx⟩ := hrel
    clear hlim hb1
    have hnone := limbs_none hli.out
    have hlK := lowD_length b K X
    have hsv := own_slen hov hlK
    by_cases hz : ll = 0
    · have hXK := quot_none hb (Int.le_of_lt hX) (hnone.mp hz)
      have hK1 : 1 ≤ K := by
        cases K with
        | zero => rw [Int.pow_zero] at hXK; omega
        | succ k => omega
      have HXK : Hid (X < b ^ K) := hXK
      obtain ⟨g, vc, rfl, hg⟩ := hov.shape8 (by rw [hlK]; exact hK1)
      rw [hlK] at hov ⊢
      have hvc := own_caps hov
      rw [hlK] at hvc
      have HLK : Hid ((lowD b K X).length = K) := hlK
      have hbdz := lowD_bd hb hb9 K X
      clear hnone hli hXK hlK
      subst hz
      have HF : Hid (∀ m, Cut48 (lowD b K X) m → (m = 0 ∨ (lowD b K X).getD (m - 1) 0 ≠ 48) → ∀ t : ByteArray, t.data.toList = bytesOf ((lowD b K X).take m).reverse → TextIs X b t) := fun m h1 h2 t h3 => textIs_low hb hb9 hK1 HXK.out h1 h2 h3
      generalize lowD b K X = zs at *
      clear HT HM hm1 hcm hX
      go_wp2
      go_loop [10] (fun v => ∃ m' : Nat, v = .slice (some ⟨g, 0, none⟩) m' vc ∧ m' ≤ K ∧ Hid (Cut48 zs m')) (fun v => sLen v)
      case atStart => exact ⟨K, rfl, Nat.le_refl _, (by rw [← HLK.out]; exact cut48_start _ : Cut48 zs K)⟩
      case round =>
        obtain ⟨m', rfl, hm', hc48⟩ := hrel
        cases m' with
        | zero =>
          exfalso
          have p := textIs_pos hb hb9 HX0.out (HF.out 0 hc48.out (Or.inl rfl) ⟨#[]⟩ (by simp [bytesOf]))
          exact absurd p (by decide)
        | succ j =>
          have hcx := hov.cellAt HLK.out.symm (j := j) (by omega)
          have hnext := cut48_step hc48.out
          have hdone : zs.getD j 0 ≠ 48 → ∀ t : ByteArray, t.data.toList = bytesOf (zs.take (j + 1)).reverse → TextIs X b t := fun q => HF.out (j + 1) hc48.out (Or.inr q)
          generalize zs.getD j 0 = z at *
          by_cases h48 : z = 48
          · have t48 : (z == 48) = true := by rw [h48]; rfl
            have HC : Hid (Cut48 zs j) := hnext h48
            clear hnext hdone h48 hc48
            go_wp2
            go_round
            case rel => exact ⟨j, rfl, by omega, HC⟩
            case measure => simp [sLen]
          · have t48 : (z == 48) = false := by rw [beq_eq_false_iff_ne]; exact h48
            have HD : Hid (∀ t : ByteArray, t.data.toList = bytesOf (zs.take (j + 1)).reverse → TextIs X b t) := hdone h48
            have hoc : Own .u8 wr w.heap.size 5 (.slice (some ⟨g, 0, none⟩) (j + 1) vc) (zs.take (j + 1)) := by
              have hc := hov
              rw [← HLK.out] at hc
              exact hc.cut (by rw [HLK.out]; exact hm')
            have hbd2 : ∀ x ∈ zs.take (j + 1), 48 ≤ x ∧ x ≤ 122 := fun x hx => hbdz x (List.mem_of_mem_take hx)
            have hlen : (zs.take (j + 1)).length = j + 1 := by rw [List.length_take, HLK.out]; omega
            have HL2 : Hid ((zs.take (j + 1)).length = j + 1) := hlen
            clear hnext hdone h48 hc48 HF hov hbdz hlen
            generalize zs.take (j + 1) = ys0 at *
            go_wp2
            go_loopw [13, 14, 15] (fun i _ _ w4 => ∃ (q : Nat) (ys : List Int), i = .int .i64 (q : Int) ∧ q ≤ (j + 1) / 2 ∧ Own .u8 w4 w.heap.size 5 (.slice (some ⟨g, 0, none⟩) (j + 1) vc) ys ∧ Hid (RvI ys0 ys q) ∧ Below w.heap.size w w4) (fun i _ _ _ => (j + 1) / 2 - (RowKit.intOf i).toNat)
            case atStart => exact ⟨0, ys0, rfl, by omega, hoc, rvI_start _, hnx⟩
            case round =>
              obtain ⟨q, ys, rfl, hq, hoy, hrv, hnx4⟩ := hrel
              clear hoc
              have hly : Hid (j + 1 = ys.length) := by
                show _ = _
                rw [hrv.out.1, HL2.out]
              by_cases hlt : q < (j + 1) / 2
              · have hst := rvI_step hrv.out (by rw [HL2.out]; exact hlt)
                rw [HL2.out] at hst
                have hk : j + 1 - 1 - q = j - q := by omega
                rw [hk] at hst
                have c1 := hoy.cellAt hly.out (j := q) (by omega)
                have c2 := hoy.cellAt hly.out (j := j - q) (by omega)
                have f1 := hoy.frozenAt hly.out q
                have o1 := hoy.set hly.out q (ys.getD (j - q) 0)
                have f2 := o1.frozenAt (by rw [List.length_set]; exact hly.out) (j - q)
                have o2 := o1.set (by rw [List.length_set]; exact hly.out) (j - q) (ys.getD q 0)
                have HS : Hid (RvI ys0 ((ys.set q (ys.getD (j - q) 0)).set (j - q) (ys.getD q 0)) (q + 1)) := hst
                have hc3 := o1.cellAt (by rw [List.length_set]; exact hly.out) (j := j - q) (by omega)
                have hlt2 : (q : Int) < ((j : Int) + 1) / 2 := by omega
                have hkn : ((j : Int) - (q : Int)).toNat = j - q := by omega
                generalize ys.getD q 0 = u1 at *
                generalize ys.getD (j - q) 0 = u2 at *
                clear hst hk hrv hoy o1
                go_wp2
                go_roundw
                case rel => exact ⟨q + 1, _, by go_num, by omega, o2, HS, (hnx4.setCell hg _).setCell hg _⟩
                case measure => simp [RowKit.intOf]; omega
              · have hrev := rvI_done hrv.out (by rw [HL2.out]; exact hlt)
                have hbd3 : ∀ x ∈ ys, 48 ≤ x ∧ x ≤ 122 := fun x hx => hbd2 x (by rw [hrev] at hx; exact List.mem_reverse.mp hx)
                have hcv := conv_bytes4 hoy hly.out hbd3
                obtain ⟨u, hu⟩ : ∃ u : ByteArray, u = ⟨(bytesOf ys).toArray⟩ := ⟨_, rfl⟩
                have HU : Hid (TextIs X b u) := HD.out u (by rw [hu, ← hrev])
                have hlt2 : ¬ (q : Int) < ((j : Int) + 1) / 2 := by omega
                rw [← hu] at hcv
                clear hrev hbd3 hu hrv
                go_wp2
                go_ret2
                exact ⟨u, rfl, HU.out, hnx4⟩
    · have hVp : 0 < X / b ^ K := by
        have : 0 ≤ X / b ^ K := Int.ediv_nonneg (Int.le_of_lt hX) (Int.pow_nonneg (by omega))
        by_cases q : X / b ^ K = 0
        · exact absurd (hnone.mpr q) hz
        · omega
      have hKb := rung_digits hb (Int.lt_of_le_of_lt (pow_of_quot hb (Int.le_of_lt hX) hVp) HT.out)
      obtain ⟨l1, l2, l3, l4, l5⟩ := hli.out
      obtain ⟨g0, c0, hs, hg0⟩ := l1.shape (by omega)
      simp only [Value.slice.injEq] at hs
      obtain ⟨rfl, hsl, rfl⟩ := hs
      clear hsl
      have tk := take4_any (m := m) l1 l2 l3 hm1 hcm (by omega)
      rw [l4] at tk
      have hov2 := fun w3 (h : In g0 (g0 + 1) wr w3) => hov.innT l1 (by decide) h
      clear hnone l2 l3 l4 l5
      have hR0 := Int.emod_nonneg (X / b ^ K) (show m ≠ 0 by omega)
      have hR1 := Int.emod_lt_of_pos (X / b ^ K) (show 0 < m by omega)
      obtain ⟨R, hR⟩ : ∃ R, R = X / b ^ K % m := ⟨_, rfl⟩
      have HR : Hid (R = X / b ^ K % m) := hR
      rw [← hR] at tk hR0 hR1
      clear hR hli
      have hll : 0 < ll := by omega
      go_wp2_with fail
      refine tk.mono ?_
      rintro e w3 ⟨n', us', rfl, ⟨ho3, e3, hn3, d3, v3, s3⟩, hin⟩
      have hov3 := hov2 w3 hin
      have hB3 := below_inn hnx hin hg0 (Nat.le_refl _)
      have HLI : Hid (LimbsOf w3 w.heap.size (some ⟨g0, 0, none⟩) n' lc us' (X / b ^ (K + c))) := ⟨ho3, e3, d3, by rw [v3]; exact quot_next hb HM.out, s3⟩
      clear tk hov2 hov hin ho3 e3 d3 v3 s3 l1 hnx
      have HMc := HM.out
      have hRb : R < b ^ c := by rw [← HMc]; exact hR1
      have HNJ : Hid (lowD b K X ++ lowD b c R = lowD b (K + c) X) := by
        show _ = _
        rw [HR.out, HM.out, lowD_join hb]
      have hRU : R < 4294967296 := by omega
      clear HMc hRb hVp HR
      go_wp2
      go_loopw [10, 11, 12] (fun v r kk w4 => ∃ (j : Nat) (Q : Int), kk = .int .i64 (j : Int) ∧ r = .int .u64 Q ∧ Hid (Q = R / b ^ j) ∧ j ≤ c ∧ Own .u8 w4 w.heap.size 5 v (lowD b K X ++ lowD b j R) ∧ Hid (LimbsOf w4 w.heap.size (some ⟨g0, 0, none⟩) n' lc us' (X / b ^ (K + c))) ∧ Below w.heap.size w w4) (fun _ _ kk _ => c - (RowKit.intOf kk).toNat)
      case atStart => exact ⟨0, R, rfl, rfl, (by simp : R = R / b ^ 0), by omega, (by rw [show lowD b 0 R = [] from rfl, List.append_nil]; exact hov3), HLI, hB3⟩
      case round =>
        obtain ⟨j, Q, rfl, rfl, hQ, hj, hov4, hli4, hnx4⟩ := hrel
        clear HLI hov3 hB3
        have hlj := lowD_length b j R
        by_cases hlt : j < c
        · have hQ0 : 0 ≤ Q := by rw [hQ.out]; exact Int.ediv_nonneg hR0 (Int.pow_nonneg (by omega))
          have hQ1 : Q ≤ R := by rw [hQ.out]; exact Int.ediv_le_self _ hR0
          have r0 := Int.emod_nonneg Q (show b ≠ 0 by omega)
          have r1 := Int.emod_lt_of_pos Q (show 0 < b by omega)
          have q0 : 0 ≤ Q / b := Int.ediv_nonneg hQ0 (by omega)
          have q1 : Q / b ≤ Q := Int.ediv_le_self b hQ0
          have hdig := fun h => dig_byte r0 (show Q % b < 36 by omega) h
          have HQ2 : Hid (Q / b = R / b ^ (j + 1)) := by
            show _ = _
            rw [hQ.out, Int.pow_succ, ← Int.ediv_ediv_of_nonneg (Int.pow_nonneg (by omega))]
          have HJ : Hid (lowD b K X ++ lowD b (j + 1) R = (lowD b K X ++ lowD b j R) ++ [dch (Q % b)]) := by
            show _ = _
            rw [lowD_next hb, ← hQ.out, List.append_assoc]
          have hlen : (lowD b K X ++ lowD b j R).length = K + j := by rw [List.length_append, hlj, lowD_length]
          have hsz : w.heap.size ≤ wr.heap.size := hnx4.size
          generalize lowD b K X ++ lowD b j R = zs at *
          clear hQ hlj
          go_wp2_with (at_builtin; refine wpList_append_own _ rfl _ _ 93 rfl w.heap.size 5 i_u8 (.int .u8 0) 1 1 Try.underlying93 hi_u8 hz0_u8 hz1_u8 hz2_u8 rfl (by decide) _ _ _ rfl (hov4.row.alloc _) ⟨wr.heap.size, 0, none⟩ 1 1 [.int .u8 (dch (Q % b))] rfl rfl one_new one_cell (by unfold maxLen; omega) (by omega) (by simp; omega) ?_)
          intro v' w5 hown' hgrow _
          have hb' := grow_below hsz hov4.row hnx4 hgrow
          have ho' := own_next hown' hlen.symm
          rw [← HJ.out] at ho'
          have HLI' : Hid (LimbsOf w5 w.heap.size (some ⟨g0, 0, none⟩) n' lc us' (X / b ^ (K + c))) := (hli4.out.later ((Below.refl _ _).alloc (Nat.le_refl _) _)).kept (hov4.row.alloc _) hgrow
          clear hown' hgrow hov4 hnx4 hli4 hdig HJ
          go_wp2
          go_roundw
          case rel => exact ⟨j + 1, _, by go_num, rfl, HQ2, by omega, ho', HLI', hb'⟩
          case measure => simp [RowKit.intOf]; omega
        · have hjc : j = c := by omega
          subst hjc
          rw [HNJ.out] at hov4
          clear hQ hlj
          have hrd := hov4.reads
          obtain ⟨oa, oc, rfl, _⟩ := hrd
          have hl4 := lowD_length b (K + j) X
          have HS4 : Hid (sLen (.slice oa (lowD b (K + j) X).length oc) = K + j) := hl4
          clear hl4
          go_wp2
          go_roundw
          case rel => exact ⟨_, n', lc, K + j, us', rfl, hli4, by omega, by omega, hov4, hnx4⟩
          case measure =>
            have m1 := hsv.out
            have m2 := HS4.out
            exact (by rw [m1, m2]; omega : 300000 - sLen (.slice oa (lowD b (K + j) X).length oc) < 300000 - sLen _)
end Go.Proofs.Ytailnlpooalenaa

/- RadixSums: what it needs, and its walk. -/
namespace Go.Proofs.Ytailnlpooalenaa
open Go.ChangeShapes Go.WideShapes Go.ChangeAt Go.RowKit
open Na Ar
set_option linter.unusedVariables false
namespace Na
theorem fit_bits {X : Int} (h : 0 ≤ X) (g : (words X).length ≤ 4096) : bitsN X ≤ 262144 := by
  have := bits_le (N := X) (k := 4096) h (by have := val_lt (B := 18446744073709551616) (by omega) (Dg_words X); rw [val_words h] at this; exact Int.lt_of_lt_of_le this (wpow_mono g))
  omega
theorem trim_lt {U V : Int} {a b : Nat} (h : U * 10 ^ a = V * 10 ^ b) (hU : U % 10 ≠ 0) : ¬ a < b := by
  intro q
  obtain ⟨c, rfl⟩ : ∃ c, b = c + 1 + a := ⟨b - a - 1, by omega⟩
  have p : (10 : Int) ^ a ≠ 0 := by have : (0 : Int) < 10 ^ a := Int.pow_pos (by omega); omega
  rw [Int.pow_add, ← Int.mul_assoc] at h
  have e := Int.eq_of_mul_eq_mul_right p h
  rw [Int.pow_succ, ← Int.mul_assoc] at e
  omega
theorem trim_uniq {U V : Int} {a b : Nat} (h : U * 10 ^ a = V * 10 ^ b) (hU : U % 10 ≠ 0) (hV : V % 10 ≠ 0) : a = b ∧ U = V := by
  have h1 := trim_lt h hU
  have h2 := trim_lt h.symm hV
  have e : a = b := by omega
  subst e
  have p : (10 : Int) ^ a ≠ 0 := by have : (0 : Int) < 10 ^ a := Int.pow_pos (by omega); omega
  exact ⟨rfl, Int.eq_of_mul_eq_mul_right p h⟩
theorem tens_most {X U : Int} {k : Nat} (h0 : 0 < X) (hl : (words X).length ≤ 4096) (h : X = U * 10 ^ k) (hU : 0 ≤ U) : k ≤ 78913 := by
  have hb := fit_bits (Int.le_of_lt h0) hl
  obtain ⟨b, e, l1, l2⟩ := bits_some h0
  obtain ⟨T, hT⟩ : ∃ T : Nat, T = (b + 1) * 97879 / 325147 := ⟨_, rfl⟩
  obtain ⟨_, t2⟩ := tens_int hT (by omega)
  have hU1 : 1 ≤ U := by
    by_cases q : U = 0
    · rw [q, Int.zero_mul] at h; omega
    · omega
  have p : (0 : Int) < 10 ^ k := Int.pow_pos (by omega)
  have m := Int.mul_le_mul_of_nonneg_right hU1 (Int.le_of_lt p)
  by_cases g : k ≤ T
  · omega
  · exfalso
    have := ipow_mono (X := 10) (by omega) (show T + 1 ≤ k by omega)
    omega
theorem pow_short {b : Int} {k : Nat} (hb : 1 ≤ b) (hb9 : b ≤ 10) (hk : k ≤ 78913) : (words (b ^ k)).length ≤ 4096 := by
  have p : (0 : Int) ≤ b ^ k := Int.pow_nonneg (by omega)
  have a := ipow_base (X := b) (Y := 10) (by omega) hb9 k
  have c := ten_less hk
  exact bits_words p (Int.lt_of_le_of_lt a c) (Nat.le_refl _)
end Na
theorem rowC_sums {w : World} {a : Option Addr} {len cap : Nat} {zs : List Int} (h : (a = none ∧ len = 0 ∧ cap = 0 ∧ zs = []) ∨
    ∃ x, a = some x ∧ len ≤ cap ∧ cap ≤ maxLen ∧ zs.length = cap ∧ (∀ i, i < zs.length → w.cell? (x.add i) = some (.int .u64 (zs.getD i 0))) ∧ ∀ n ∈ zs, (Lit.int .u64 n).wf = true) :
    RowC w a len cap (zs.take len) ∧ Ws (zs.take len) := by
  have q := row_of h
  refine ⟨⟨q.1, ?_⟩, q.2.1⟩
  rcases h with ⟨rfl, rfl, rfl, rfl⟩ | ⟨x, rfl, hl, hm, hz, hc, hw⟩
  · exact ⟨Nat.le_refl _, Nat.zero_le _⟩
  · exact ⟨hl, hm⟩
/-- an answer that is a number, at fresh names -/
def Ans (w' : World) (X : Int) (v : Value) : Prop := ∃ a l c ls, v = .slice a l c ∧ RowC w' a l c ls ∧ Hid (ls = words X) ∧ l ≤ 4096
theorem ans_of {w' : World} {base : Nat} {X : Int} {v : Value} (h : Own .u64 w' base 23 v (words X)) (hl : (words X).length ≤ 4096) : Ans w' X v := by
  obtain ⟨a, c, rfl, hr⟩ := h.readsC
  exact ⟨a, _, c, _, rfl, hr, rfl, hl⟩
theorem fiveQ {k : Nat} {K : Int} (hK : K = k) (h : k ≤ 78913) (w : World) :
    Calls Try.prog 29 #[.int .i64 K] w fun e w' => ∃ a l c ls, e = .returned (.tuple #[.slice a l c, .int .i64 0]) ∧ (RowC w' a l c ls ∧ Hid (ls = words (5 ^ k)) ∧ l ≤ 4096) ∧ Below w.heap.size w w' := by
  subst hK
  have f := five_any (k : Int) (by omega) (by omega) w
  have E1 : pwE 112899 (k : Int) = 0 := by unfold pwE; rw [if_neg (by omega), if_neg (by omega)]
  have E2 : pwL 5 112899 (k : Int) = words (5 ^ k) := by unfold pwL; rw [if_neg (by omega), if_neg (by omega), Int.toNat_natCast]
  rw [E1, E2] at f
  refine f.mono ?_
  rintro e w' ⟨v, rfl, ho, hb⟩
  obtain ⟨a, l, c, ls, rfl, h1, h2, h3⟩ := ans_of ho (pow_short (by omega) (by omega) h)
  exact ⟨a, l, c, ls, rfl, ⟨h1, h2, h3⟩, hb⟩
theorem tenQ {k : Nat} {K : Int} (hK : K = k) (h : k ≤ 78913) (w : World) :
    Calls Try.prog 39 #[.int .i64 K] w fun e w' => ∃ a l c ls, e = .returned (.tuple #[.slice a l c, .int .i64 0]) ∧ (RowC w' a l c ls ∧ Hid (ls = words (10 ^ k)) ∧ l ≤ 4096) ∧ Below w.heap.size w w' := by
  subst hK
  have f := ten_any (k : Int) (by omega) (by omega) w
  have E1 : pwE 78913 (k : Int) = 0 := by unfold pwE; rw [if_neg (by omega), if_neg (by omega)]
  have E2 : pwL 10 78913 (k : Int) = words (10 ^ k) := by unfold pwL; rw [if_neg (by omega), if_neg (by omega), Int.toNat_natCast]
  rw [E1, E2] at f
  refine f.mono ?_
  rintro e w' ⟨v, rfl, ho, hb⟩
  obtain ⟨a, l, c, ls, rfl, h1, h2, h3⟩ := ans_of ho (pow_short (by omega) (by omega) h)
  exact ⟨a, l, c, ls, rfl, ⟨h1, h2, h3⟩, hb⟩
theorem mulA {a b : Option Addr} {n m c1 c2 : Nat} {xs ys : List Int} {X Y : Int} {w : World} (hr1 : RowC w a n c1 xs) (hr2 : RowC w b m c2 ys) (e1 : Hid (xs = words X)) (e2 : Hid (ys = words Y)) (h1 : 0 ≤ X) (h2 : 0 ≤ Y) (hn : n ≤ 4000000) (hm : m ≤ 4000000) (hl : (words (X * Y)).length ≤ 4096) :
    Calls Try.prog 32 #[.slice a n c1, .slice b m c2] w fun e w' => ∃ a l c ls, e = .returned (.tuple #[.slice a l c, .int .i64 0]) ∧ (RowC w' a l c ls ∧ Hid (ls = words (X * Y)) ∧ l ≤ 4096) ∧ Below w.heap.size w w' := by
  have x1 := e1.out
  have x2 := e2.out
  subst x1 x2
  have f := natMul_any hr1 hr2 (Dg_words X) (Dg_words Y) hn hm
  rw [num_words h1, num_words h2, (res_fits hl).1, (res_fits hl).2] at f
  refine f.mono ?_
  rintro e w' ⟨v, rfl, ho, hb⟩
  obtain ⟨a, l, c, ls, rfl, h1, h2, h3⟩ := ans_of ho hl
  exact ⟨a, l, c, ls, rfl, ⟨h1, h2, h3⟩, hb⟩
end Go.Proofs.Ytailnlpooalenaa

/- Text, Count and Trim, of the program and of the document, in every case; RadixTexts' walk. -/
namespace Go.Proofs.Ytailnlpooalenaa
open Go.ChangeShapes Go.WideShapes Go.ChangeAt Go.RowKit
open Na Ar
set_option linter.unusedVariables false
namespace Na
/-- what Text answers -/
def TxIs (X b : Int) (t : ByteArray) (c : Int) : Prop :=
  (¬ (2 ≤ b ∧ b ≤ 36) ∧ t = ⟨#[]⟩ ∧ c = 40) ∨ ((2 ≤ b ∧ b ≤ 36) ∧ 262144 < bitsN X ∧ t = ⟨#[]⟩ ∧ c = 21) ∨
  ((2 ≤ b ∧ b ≤ 36) ∧ bitsN X ≤ 262144 ∧ c = 0 ∧ ((X = 0 ∧ t = ⟨#[48]⟩) ∨ (0 < X ∧ TextIs X b t)))
theorem txIs_uniq {X b c c' : Int} {t t' : ByteArray} (h : TxIs X b t c) (h' : TxIs X b t' c') : t = t' ∧ c = c' := by
  rcases h with ⟨a1, a2, a3⟩ | ⟨a1, a2, a3, a4⟩ | ⟨a1, a2, a3, a4⟩ <;> rcases h' with ⟨b1, b2, b3⟩ | ⟨b1, b2, b3, b4⟩ | ⟨b1, b2, b3, b4⟩
  · exact ⟨a2.trans b2.symm, by omega⟩
  · exact absurd b1 a1
  · exact absurd b1 a1
  · exact absurd a1 b1
  · exact ⟨a3.trans b3.symm, by omega⟩
  · omega
  · exact absurd a1 b1
  · omega
  · refine ⟨?_, by omega⟩
    rcases a4 with ⟨p1, p2⟩ | ⟨p1, p2⟩ <;> rcases b4 with ⟨q1, q2⟩ | ⟨q1, q2⟩
    · exact p2.trans q2.symm
    · omega
    · omega
    · exact textIs_uniq a1.1 a1.2 p1 p2 q2
/-- what Count answers -/
def CtIs (X d : Int) : Prop := (262144 < bitsN X ∧ d = 0) ∨ (bitsN X ≤ 262144 ∧ CountIs X d)
theorem ctIs_text {X d c : Int} {t : ByteArray} (h : CtIs X d) (ht : TxIs X 10 t c) : d = (t.size : Int) := by
  rcases ht with ⟨a1, a2, a3⟩ | ⟨a1, a2, a3, a4⟩ | ⟨a1, a2, a3, a4⟩
  · omega
  · rcases h with ⟨_, h2⟩ | ⟨h1, _⟩
    · rw [a3, h2]; rfl
    · omega
  · rcases h with ⟨h1, _⟩ | ⟨_, h2⟩
    · omega
    · rcases a4 with ⟨p1, p2⟩ | ⟨p1, p2⟩
      · rcases h2 with ⟨_, q⟩ | ⟨n, q, q1, q2⟩
        · rw [q, p2]; rfl
        · have : (0 : Int) < 10 ^ n := Int.pow_pos (by omega)
          omega
      · exact count_text p1 p2 h2
theorem long_bits {X : Int} (h : 0 ≤ X) : 4096 < (words X).length ↔ 262144 < bitsN X := by
  have := words_bits4096 h
  omega
end Na
set_option maxHeartbeats 1600000 in
set_option maxRecDepth 100000 in
theorem refTextZero_any {a : Option Addr} {n cap : Nat} {xs : List Int} {b : Int} {w : World} (hrow : RowC w a n cap xs) (hw : Ws xs) (hn : n ≤ 2500000) (hb : 2 ≤ b) (hb9 : b ≤ 36) (hX : num xs = 0) :
    Calls Try.prog 62 #[.slice a n cap, .int .i64 b] w fun e w' => e = .returned (.tuple #[.string ⟨#[48]⟩, .int .i64 0]) ∧ Below w.heap.size w w' := by
  have tl := tooLong4_any (B := false) hrow hw hn (by rw [hX]; rfl)
  have lc := limbs4_any hrow hw hn
  rw [hX] at lc
  clear hX hrow
  go_enter Try.func62, Try.ntmps62
  go_wp2_with fail
  refine tl.mono ?_
  rintro e w' ⟨rfl, rfl⟩
  clear tl
  go_wp2_with fail
  refine (step4_any b hb hb9 w).mono ?_
  rintro e w' ⟨c, rfl, ⟨hc1, hc2, hcm⟩, rfl⟩
  generalize b ^ c = m at *
  go_wp2_with fail
  refine lc.mono ?_
  rintro e w1 ⟨va, l, c', us, rfl, ⟨hlim, hl9⟩, hb1⟩
  have hl0 : l = 0 := (limbs_none hlim).mpr rfl
  subst hl0
  clear lc hlim
  go_wp2
  refine wp_loop_rounds 1 ?_
  rw [rounds_succ]
  go_wp2
  refine wp_loop_rounds 1 ?_
  rw [rounds_succ]
  go_wp2
  go_ret2
  exact ⟨rfl, hb1⟩
set_option maxRecDepth 100000 in
theorem refTextCode_any {a : Option Addr} {n cap : Nat} {xs : List Int} {b : Int} {w : World} (hrow : RowC w a n cap xs) (hw : Ws xs) (hn : n ≤ 2500000) :
    Calls Try.prog 62 #[.slice a n cap, .int .i64 b] w fun e w' => ∃ (t : ByteArray) (c : Int), e = .returned (.tuple #[.string t, .int .i64 c]) ∧ TxIs (num xs) b t c ∧ Below w.heap.size w w' := by
  have h0 := num_nonneg hw
  by_cases hb : 2 ≤ b ∧ b ≤ 36
  · by_cases hl : bitsN (num xs) ≤ 262144
    · by_cases hz : num xs = 0
      · refine (refTextZero_any hrow hw hn hb.1 hb.2 hz).mono ?_
        rintro e w' ⟨rfl, hB⟩
        exact ⟨_, _, rfl, Or.inr (Or.inr ⟨hb, hl, rfl, Or.inl ⟨hz, rfl⟩⟩), hB⟩
      · refine (refText4_any hrow hw hn hb.1 hb.2 hl (by omega)).mono ?_
        rintro e w' ⟨t, rfl, ht, hB⟩
        exact ⟨_, _, rfl, Or.inr (Or.inr ⟨hb, hl, rfl, Or.inr ⟨by omega, ht⟩⟩), hB⟩
    · have HF : TxIs (num xs) b ⟨#[]⟩ 21 := Or.inr (Or.inl ⟨hb, by omega, rfl, rfl⟩)
      have tl := tooLong4_any (B := true) hrow hw hn (by simp; omega)
      have hb1 := hb.1
      have hb2 := hb.2
      clear hl hb hrow
      go_enter Try.func62, Try.ntmps62
      go_wp2_with fail
      refine tl.mono ?_
      rintro e w' ⟨rfl, rfl⟩
      clear tl
      go_wp2
      go_ret2
      exact ⟨_, _, rfl, HF, Below.refl _ _⟩
  · have HF : TxIs (num xs) b ⟨#[]⟩ 40 := Or.inl ⟨hb, rfl, rfl⟩
    by_cases h2 : b < 2
    · go_enter Try.func62, Try.ntmps62
      go_wp2
      go_ret2
      exact ⟨_, _, rfl, HF, Below.refl _ _⟩
    · have h3 : 36 < b := by omega
      go_enter Try.func62, Try.ntmps62
      go_wp2
      go_ret2
      exact ⟨_, _, rfl, HF, Below.refl _ _⟩
set_option maxRecDepth 100000 in
theorem refCount4_any {a : Option Addr} {n cap : Nat} {xs : List Int} {w : World} (hrow : RowC w a n cap xs) (hw : Ws xs) (hn : n ≤ 2500000) :
    Calls Try.prog 42 #[.slice a n cap] w fun e w' => ∃ d : Int, e = .returned (.int .i64 d) ∧ (∀ d', CtIs (num xs) d' → d' = d) ∧ Below w.heap.size w w' := by
  have tc := refTextCode_any (b := 10) hrow hw hn
  go_enter Try.func42, Try.ntmps42
  go_wp2_with fail
  refine tc.mono ?_
  rintro e w1 ⟨t, c, rfl, ht, hb1⟩
  have HD : Hid (∀ d', CtIs (num xs) d' → d' = (t.size : Int)) := fun d' h => ctIs_text h ht
  clear tc ht
  go_wp2
  go_ret
  exact ⟨_, rfl, HD.out, hb1⟩
end Go.Proofs.Ytailnlpooalenaa

/- Layer 13: the document's rounded. -/
import Derived.Test.YtcnkgkogjaiohaaGreatDoorExpP
namespace Go.Proofs.YtcnkgkogjaiohaaGreatDoor
open Go.ChangeShapes Go.WideShapes Go.ChangeAt Go.RowKit
open Na Ar Ep
set_option linter.unusedVariables false
namespace Ep
/-- the digits between t and i, taken as a number -/
def btw (L N t i : Nat) : Nat := N / 10 ^ (L - i) % 10 ^ (i - t - 1)
theorem btw_start (L N t : Nat) : btw L N t (t + 1) = 0 := by
  unfold btw
  rw [show t + 1 - t - 1 = 0 by omega, Nat.pow_zero, Nat.mod_one]
theorem btw_next {L N t i : Nat} (h1 : t < i) (h2 : i < L) : btw L N t (i + 1) = 10 * btw L N t i + N / 10 ^ (L - 1 - i) % 10 := by
  unfold btw
  obtain ⟨j, hj⟩ : ∃ j, i - t - 1 = j := ⟨_, rfl⟩
  rw [show i + 1 - t - 1 = j + 1 by omega, hj, show L - i = (L - 1 - i) + 1 by omega, show L - (i + 1) = L - 1 - i by omega]
  rw [Nat.pow_succ 10 (L - 1 - i), ← Nat.div_div_eq_div_mul]
  generalize N / 10 ^ (L - 1 - i) = y
  rw [Nat.pow_succ, Nat.mul_comm (10 ^ j) 10, Nat.mod_mul]
  omega
theorem btw_end (L N t : Nat) : btw L N t L = N % 10 ^ (L - t - 1) := by
  unfold btw
  rw [Nat.sub_self, Nat.pow_zero, Nat.div_one]
theorem extract_take {s : ByteArray} {l : List UInt8} {t : Nat} (h : s.data.toList = l) (ht : t ≤ l.length) : s.extract 0 t = ⟨(l.take t).toArray⟩ := by
  apply ByteArray.ext
  rw [ByteArray.data_extract]
  apply Array.ext'
  rw [Array.toList_extract, h]
  simp
end Ep
set_option maxHeartbeats 3200000 in
set_option maxRecDepth 100000 in
theorem rrounded_any {L N t : Nat} (hL : 1 ≤ L) (hL9 : L ≤ 4000) (ht : t ≤ 4000) (hN : N < 10 ^ L) (w : World) :
    Calls Tryz.prog 45 #[.string ⟨(dg L N).toArray⟩, .int .i64 (t : Int)] w fun e w' => e = .returned (.string ⟨(rw13 L N t).toArray⟩) ∧ Below w.heap.size w w' := by
  obtain ⟨s, hs⟩ : ∃ s : ByteArray, s = ⟨(dg L N).toArray⟩ := ⟨_, rfl⟩
  have hsl : s.data.toList = dg L N := by rw [hs]
  have hsz : s.size = L := by rw [Lib.size_eq, hsl]; exact dg_len L N
  have q0 : (0 : Int) ≤ (t : Int) := by omega
  by_cases hlt : L ≤ t
  · have HR : Hid (rw13 L N t = dg L N ++ List.replicate (t - L) 48) := rw13_short hN hlt
    have hZ := fun w => rzeros_any (n := t - L) (by omega) w
    have htl : (t : Int) - (L : Int) = ((t - L : Nat) : Int) := by omega
    have q1 : (L : Int) ≤ (t : Int) := by omega
    have hcat : s ++ (⟨(List.replicate (t - L) (48 : UInt8)).toArray⟩ : ByteArray) = ⟨(rw13 L N t).toArray⟩ := by rw [hs, two_app, HR.out]
    have hl2 : (List.replicate (t - L) (48 : UInt8)).length ≤ 4000 := by rw [List.length_replicate]; omega
    obtain ⟨Z, hZZ⟩ : ∃ Z, Z = List.replicate (t - L) (48 : UInt8) := ⟨_, rfl⟩
    rw [← hZZ] at hZ hcat hl2
    have hsz3 : Z.toArray.size ≤ 4000 := by simpa using hl2
    have hsz4 : (s.size : Int) ≤ 4000 := by omega
    obtain ⟨RL, hRL⟩ : ∃ RL, RL = rw13 L N t := ⟨_, rfl⟩
    rw [← hRL] at hcat ⊢
    rw [← hs]
    clear hs hsl HR hZZ hRL
    go_enter Tryz.func45, Tryz.ntmps45
    go_wp2_with fail
    refine (hZ _).mono ?_
    rintro e w1 ⟨rfl, hb1⟩
    go_wp2
    go_ret
    exact ⟨rfl, hb1⟩
  · have hk : t < L := by omega
    have hu := upR_up (N := N) hk
    have h1 : ¬ (L : Int) ≤ (t : Int) := by omega
    have h2 : (t : Int) < (L : Int) := by omega
    have hQ : N / 10 ^ (L - t) < 10 ^ t := by
      rw [Nat.div_lt_iff_lt_mul (Nat.pow_pos (by omega)), ← Nat.pow_add, show t + (L - t) = L by omega]
      exact hN
    have hat : ∀ i, i < L → ∀ h, (s[i]'h) = UInt8.ofNat (48 + N / 10 ^ (L - 1 - i) % 10) := fun i hi h => by
      have := Lib.data_getElem? s i h
      rw [hsl, dg_at hi] at this
      exact (Option.some.inj this).symm
    have hPl := fun w => rplus_any (n := t) (Q := N / 10 ^ (L - t)) (by omega) hQ w
    have hhd : s.extract 0 t = ⟨(dg t (N / 10 ^ (L - t))).toArray⟩ := by
      rw [extract_take hsl (by rw [dg_len]; omega), dg_take (by omega)]
    -- the digit at t
    obtain ⟨d, hd⟩ : ∃ d, d = N / 10 ^ (L - t - 1) % 10 := ⟨_, rfl⟩
    have hd9 : d < 10 := by rw [hd]; exact Nat.mod_lt _ (by omega)
    obtain ⟨cd, hcd⟩ : ∃ cd, cd = UInt8.ofNat (48 + d) := ⟨_, rfl⟩
    have hst : ∀ h, (s[t]'h) = cd := fun h => by rw [hat t hk h, show L - 1 - t = L - t - 1 by omega, ← hd, hcd]
    have hdn : (cd.toNat : Int) = 48 + (d : Int) := by rw [hcd, dch_nat hd9]; omega
    have hsz5 : t < s.size := by omega
    have FINu : up N (10 ^ (L - t)) = true → rw13 L N t = dg (nxl t (N / 10 ^ (L - t))) (N / 10 ^ (L - t) + 1) := fun h => rw13_up hk h
    have FINd : up N (10 ^ (L - t)) = false → rw13 L N t = dg t (N / 10 ^ (L - t)) := fun h => (rw13_down hN hk h).1
    rw [← hu] at FINu FINd
    have hup : upR L N t = (decide (5 < d) || (decide (d = 5) && (decide (N / 10 ^ (L - t) % 2 = 1) || decide (N % 10 ^ (L - t - 1) ≠ 0)))) := by unfold upR; rw [hd]
    rw [hup] at FINu FINd
    rw [← hs]
    clear hu hup hs
    rcases Nat.lt_trichotomy d 5 with c5 | c5 | c5
    · have f1 := FINd (by simp; omega)
      rw [f1]
      have k1 : ((cd.toNat : Int) == 53) = false := by simp; omega
      have k2 : ¬ (53 : Int) < (cd.toNat : Int) := by omega
      generalize dg t (N / 10 ^ (L - t)) = HD at *
      clear FINu FINd hPl hat hd hsl f1 hQ hN c5 hdn hcd
      go_enter Tryz.func45, Tryz.ntmps45
      go_wp2
      go_ret
      exact ⟨rfl, Below.refl _ _⟩
    · subst c5
      have k1 : (cd.toNat : Int) = 53 := by omega
      have k2 : (cd.toNat : Int) == 53 := by rw [k1]; rfl
      obtain ⟨od, hod⟩ : ∃ od, od = decide (N / 10 ^ (L - t) % 2 = 1) := ⟨_, rfl⟩
      -- what the loop makes of it
      have hodd : t = 0 → od = false := fun h0 => by
        rw [hod, h0, Nat.sub_zero, Nat.div_eq_of_lt hN]
        rfl
      have FINu' : (od || decide (N % 10 ^ (L - t - 1) ≠ 0)) = true → rw13 L N t = dg (nxl t (N / 10 ^ (L - t))) (N / 10 ^ (L - t) + 1) := fun h => FINu (by rw [hod] at h; simpa using h)
      have FINd' : (od || decide (N % 10 ^ (L - t - 1) ≠ 0)) = false → rw13 L N t = dg t (N / 10 ^ (L - t)) := fun h => FINd (by rw [hod] at h; simpa using h)
      rw [← btw_end] at FINu' FINd'
      have hpar : t ≠ 0 → ∃ cp : UInt8, (∀ h, (s[t - 1]'h) = cp) ∧ 48 ≤ (cp.toNat : Int) ∧ (cp.toNat : Int) ≤ 57 ∧ (((cp.toNat : Int) - 48) % 2 == 0) = !od := fun h0 => by
        refine ⟨_, fun h => hat (t - 1) (by omega) h, ?_⟩
        have hm : N / 10 ^ (L - 1 - (t - 1)) % 10 < 10 := Nat.mod_lt _ (by omega)
        rw [dch_nat hm, show L - 1 - (t - 1) = L - t by omega] at *
        generalize N / 10 ^ (L - t) = y at *
        refine ⟨by omega, by omega, ?_⟩
        rw [hod]
        by_cases q : y % 2 = 1
        · rw [decide_eq_true q]
          refine beq_eq_false_iff_ne.2 ?_
          omega
        · rw [decide_eq_false q]
          refine beq_iff_eq.2 ?_
          omega
      have hdig : ∀ i, t < i → i < L → ∃ ci : UInt8, (∀ h, (s[i]'h) = ci) ∧ (btw L N t (i + 1) = 10 * btw L N t i + (ci.toNat - 48)) ∧ 48 ≤ ci.toNat := fun i h1 h2 => by
        refine ⟨_, fun h => hat i h2 h, ?_⟩
        have hm : N / 10 ^ (L - 1 - i) % 10 < 10 := Nat.mod_lt _ (by omega)
        rw [dch_nat hm, btw_next h1 h2]
        omega
      have hb0 := btw_start L N t
      have HB0 : Hid (btw L N t (t + 1) = 0) := hb0
      generalize dg (nxl t (N / 10 ^ (L - t))) (N / 10 ^ (L - t) + 1) = UPL at *
      generalize dg t (N / 10 ^ (L - t)) = HD at *
      generalize rw13 L N t = RL at *
      have HFu : Hid _ := FINu'
      have HFd : Hid _ := FINd'
      have HDg : Hid _ := hdig
      clear FINu FINd FINu' FINd' hat hd hsl hQ hN hdn hcd hod hdig hb0
      by_cases ht0 : t = 0
      · have z0 : ((t : Int) == 0) = true := by rw [ht0]; rfl
        have HOD : Hid (od = false) := hodd ht0
        clear ht0 hodd hpar
        go_enter Tryz.func45, Tryz.ntmps45
        go_wp2
        go_loopg [6, 8] L (fun k s6 s8 wr => ∃ i : Nat, s8 = .int .i64 (i : Int) ∧ t < i ∧ i ≤ L ∧ L - i ≤ k ∧ s6 = .bool (od || decide (btw L N t i ≠ 0)) ∧ wr = w)
        case atStart => exact ⟨t + 1, by go_num, by omega, by omega, by omega, by first | (rw [HB0.out, HOD.out]; rfl) | (rw [HB0.out]; simp; done) | (rw [HB0.out]; simp; exact HCP.out), rfl⟩
        case round =>
          obtain ⟨i, rfl, hti, hi, hkk, rfl, rfl⟩ := hrel
          by_cases hlt : i < L
          · obtain ⟨ci, hci, hbt, h48⟩ := HDg.out i hti hlt
            have v0 : (i : Int) < (L : Int) := by omega
            have v1 : i < s.size := by omega
            have HBT : Hid (btw L N t (i + 1) = 10 * btw L N t i + (ci.toNat - 48)) := hbt
            generalize hz : btw L N t i = z at *
            by_cases hu : (od || decide (z ≠ 0)) = true
            · have HU : Hid ((od || decide (btw L N t (i + 1) ≠ 0)) = true) := by
                show _ = _
                rw [HBT.out]
                simp only [Bool.or_eq_true, decide_eq_true_eq] at hu ⊢
                rcases hu with hu | hu
                · exact Or.inl hu
                · exact Or.inr (by omega)
              rw [hu]
              clear hbt hz hu HBT hci
              go_wp2
              go_roundg (L - (i + 1))
              case measure => omega
              case rel => exact ⟨i + 1, by go_num, by omega, by omega, by omega, by rw [HU.out], rfl⟩
            · have hu' : (od || decide (z ≠ 0)) = false := by simpa using hu
              have hz0 : od = false ∧ z = 0 := by
                simp only [Bool.or_eq_false_iff, decide_eq_false_iff_not] at hu'
                exact ⟨hu'.1, by omega⟩
              have HU : Hid ((od || decide (btw L N t (i + 1) ≠ 0)) = ((ci.toNat : Int) != 48)) := by
                show _ = _
                rw [HBT.out, hz0.1, hz0.2, Bool.false_or]
                by_cases q : ci.toNat = 48
                · rw [q]
                  rfl
                · have : ((ci.toNat : Int) != 48) = true := bne_iff_ne.2 (by omega)
                  rw [this]
                  exact decide_eq_true (by omega)
              rw [hu']
              clear hbt hz hu hu' hz0 HBT
              go_wp2
              go_roundg (L - (i + 1))
              case measure => omega
              case rel => exact ⟨i + 1, by go_num, by omega, by omega, by omega, by rw [HU.out], rfl⟩
          · have hiL : i = L := by omega
            subst hiL
            by_cases hu : (od || decide (btw i N t i ≠ 0)) = true
            · have f1 := HFu.out hu
              have HF1 : Hid (RL = UPL) := f1
              rw [hu]
              clear f1 hu
              go_wp2_with fail
              refine (hPl _).mono ?_
              rintro e w1 ⟨rfl, hb1⟩
              go_wp2
              go_ret
              exact ⟨by rw [HF1.out]; rfl, hb1⟩
            · have hu' : (od || decide (btw i N t i ≠ 0)) = false := by simpa using hu
              have f1 := HFd.out hu'
              have HF1 : Hid (RL = HD) := f1
              rw [hu']
              clear f1 hu hu'
              go_wp2
              go_ret
              exact ⟨by rw [HF1.out]; rfl, Below.refl _ _⟩
      · have z0 : ((t : Int) == 0) = false := by simp; omega
        obtain ⟨cp, hcp, c48, c57, cpar⟩ := hpar ht0
        have HCP : Hid ((((cp.toNat : Int) - 48) % 2 == 0) = !od) := cpar
        clear cpar
        have z1 : (t : Int) - 1 = ((t - 1 : Nat) : Int) := by omega
        have z2 : ((t - 1 : Nat) : Int) < (L : Int) := by omega
        have z3 : t - 1 < s.size := by omega
        clear ht0 hodd hpar
        go_enter Tryz.func45, Tryz.ntmps45
        go_wp2
        go_loopg [6, 8] L (fun k s6 s8 wr => ∃ i : Nat, s8 = .int .i64 (i : Int) ∧ t < i ∧ i ≤ L ∧ L - i ≤ k ∧ s6 = .bool (od || decide (btw L N t i ≠ 0)) ∧ wr = w)
        case atStart => exact ⟨t + 1, by go_num, by omega, by omega, by omega, by first | (rw [HB0.out, HOD.out]; rfl) | (rw [HB0.out]; simp; done) | (rw [HB0.out]; simp; exact HCP.out), rfl⟩
        case round =>
          obtain ⟨i, rfl, hti, hi, hkk, rfl, rfl⟩ := hrel
          by_cases hlt : i < L
          · obtain ⟨ci, hci, hbt, h48⟩ := HDg.out i hti hlt
            have v0 : (i : Int) < (L : Int) := by omega
            have v1 : i < s.size := by omega
            have HBT : Hid (btw L N t (i + 1) = 10 * btw L N t i + (ci.toNat - 48)) := hbt
            generalize hz : btw L N t i = z at *
            by_cases hu : (od || decide (z ≠ 0)) = true
            · have HU : Hid ((od || decide (btw L N t (i + 1) ≠ 0)) = true) := by
                show _ = _
                rw [HBT.out]
                simp only [Bool.or_eq_true, decide_eq_true_eq] at hu ⊢
                rcases hu with hu | hu
                · exact Or.inl hu
                · exact Or.inr (by omega)
              rw [hu]
              clear hbt hz hu HBT hci
              go_wp2
              go_roundg (L - (i + 1))
              case measure => omega
              case rel => exact ⟨i + 1, by go_num, by omega, by omega, by omega, by rw [HU.out], rfl⟩
            · have hu' : (od || decide (z ≠ 0)) = false := by simpa using hu
              have hz0 : od = false ∧ z = 0 := by
                simp only [Bool.or_eq_false_iff, decide_eq_false_iff_not] at hu'
                exact ⟨hu'.1, by omega⟩
              have HU : Hid ((od || decide (btw L N t (i + 1) ≠ 0)) = ((ci.toNat : Int) != 48)) := by
                show _ = _
                rw [HBT.out, hz0.1, hz0.2, Bool.false_or]
                by_cases q : ci.toNat = 48
                · rw [q]
                  rfl
                · have : ((ci.toNat : Int) != 48) = true := bne_iff_ne.2 (by omega)
                  rw [this]
                  exact decide_eq_true (by omega)
              rw [hu']
              clear hbt hz hu hu' hz0 HBT
              go_wp2
              go_roundg (L - (i + 1))
              case measure => omega
              case rel => exact ⟨i + 1, by go_num, by omega, by omega, by omega, by rw [HU.out], rfl⟩
          · have hiL : i = L := by omega
            subst hiL
            by_cases hu : (od || decide (btw i N t i ≠ 0)) = true
            · have f1 := HFu.out hu
              have HF1 : Hid (RL = UPL) := f1
              rw [hu]
              clear f1 hu
              go_wp2_with fail
              refine (hPl _).mono ?_
              rintro e w1 ⟨rfl, hb1⟩
              go_wp2
              go_ret
              exact ⟨by rw [HF1.out]; rfl, hb1⟩
            · have hu' : (od || decide (btw i N t i ≠ 0)) = false := by simpa using hu
              have f1 := HFd.out hu'
              have HF1 : Hid (RL = HD) := f1
              rw [hu']
              clear f1 hu hu'
              go_wp2
              go_ret
              exact ⟨by rw [HF1.out]; rfl, Below.refl _ _⟩
    · have f1 := FINu (by simp; omega)
      rw [f1]
      have k1 : ((cd.toNat : Int) == 53) = false := by simp; omega
      have k2 : (53 : Int) < (cd.toNat : Int) := by omega
      generalize dg (nxl t (N / 10 ^ (L - t))) (N / 10 ^ (L - t) + 1) = UPL at *
      generalize dg t (N / 10 ^ (L - t)) = HD at *
      clear FINu FINd hat hd hsl f1 hQ hN c5 hdn hcd
      go_enter Tryz.func45, Tryz.ntmps45
      go_wp2_with fail
      refine (hPl _).mono ?_
      rintro e w1 ⟨rfl, hb1⟩
      go_wp2
      go_ret
      exact ⟨rfl, hb1⟩
end Go.Proofs.YtcnkgkogjaiohaaGreatDoor

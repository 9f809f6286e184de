import Derived.Deep.QuietTactic
import Derived.BigQuiet
import Derived.Laws.EntriesVeiled
import Derived.Below
import Derived.ChangeOld
import Derived.Deep.DeepCutAuto
import Derived.Deep.RegionWith
import Derived.KernelRfl
import Derived.Laws.BitsAllLaws
import Derived.Laws.CopyRow
import Derived.Laws.IdiomCopy
import Derived.Laws.IdiomRangeMap
import Derived.Laws.IdiomStrings
import Derived.Laws.RangeAny
import Derived.Laws.Strings3
import Derived.Lib.OthersKept
import Derived.Lib.Strings
import Derived.Lib.TrimByte
import Derived.Lib.Walk
import Derived.OpenShut
import Derived.OwnWalk
import Derived.ProofKit
import Derived.Scope
import Derived.ShutString
import Derived.WalkKit
import Derived.WalkLawsBesides
import Derived.WalkMore
import Derived.WalkSpells
import Derived.Test.YtceecgklgkiffabGreatDoorXb1
import Derived.Test.YtceecgklgkiffabGreatDoorXb2
import Derived.Test.YtceecgklgkiffabGreatDoorXb3
import Derived.Test.YtceecgklgkiffabGreatDoorXb4
import Derived.Test.YtceecgklgkiffabGreatDoorXb6
import Derived.Test.YtceecgklgkiffabGreatDoorXb15
/- package power: a power of the table. -/
namespace Go.Proofs.YtceecgklgkiffabGreatDoor
open Go.ChangeShapes Go.WideShapes Go.ChangeAt Go.RowKit
open Na Ar
set_option linter.unusedVariables false
/-- a struct of four cells, one of two, each in its block -/
def F4 (w : World) (g : Nat) (t : TypeId) (x y z u : Value) : Prop := w.heap[g]? = some (.cells #[x, y, z, u] t (0, 0))
def F2 (w : World) (g : Nat) (t : TypeId) (x y : Value) : Prop := w.heap[g]? = some (.cells #[x, y] t (0, 0))
theorem set_block8 {w : World} {g i : Nat} {c : Array Value} {t : TypeId} {f : Nat × Nat} {v : Value} (h : w.heap[g]? = some (.cells c t f)) : (w.setCell ⟨g, i, none⟩ v).heap[g]? = some (.cells (c.setIfInBounds i v) t f) := by
  simp [World.setCell, Array.getElem?_modify, h]
section
variable {w w' : World} {g : Nat} {t : TypeId} {x y z u : Value}
theorem F4.lt (h : F4 w g t x y z u) : g < w.heap.size := by
  by_cases hlt : g < w.heap.size
  · exact hlt
  · unfold F4 at h; simp [Array.getElem?_eq_none (Nat.le_of_not_lt hlt)] at h
theorem F2.lt (h : F2 w g t x y) : g < w.heap.size := by
  by_cases hlt : g < w.heap.size
  · exact hlt
  · unfold F2 at h; simp [Array.getElem?_eq_none (Nat.le_of_not_lt hlt)] at h
theorem F4.later (h : F4 w g t x y z u) (hb : Below w.heap.size w w') : F4 w' g t x y z u := by
  have := h.lt
  unfold F4
  rw [hb.block g this]; exact h
theorem F2.later (h : F2 w g t x y) (hb : Below w.heap.size w w') : F2 w' g t x y := by
  have := h.lt
  unfold F2
  rw [hb.block g this]; exact h
theorem F4.cells (h : F4 w g t x y z u) : w.cell? ⟨g, 0, none⟩ = some x ∧ w.cell? ⟨g, 1, none⟩ = some y ∧ w.cell? ⟨g, 2, none⟩ = some z ∧ w.cell? ⟨g, 3, none⟩ = some u := by
  unfold F4 at h
  simp [World.cell?, h]
theorem F2.cells (h : F2 w g t x y) : w.cell? ⟨g, 0, none⟩ = some x ∧ w.cell? ⟨g, 1, none⟩ = some y := by
  unfold F2 at h
  simp [World.cell?, h]
theorem F4.frozen (h : F4 w g t x y z u) : w.frozen? ⟨g, 0, none⟩ = false ∧ w.frozen? ⟨g, 1, none⟩ = false ∧ w.frozen? ⟨g, 2, none⟩ = false ∧ w.frozen? ⟨g, 3, none⟩ = false := by
  unfold F4 at h
  simp [World.frozen?, h]
theorem F2.frozen (h : F2 w g t x y) : w.frozen? ⟨g, 0, none⟩ = false ∧ w.frozen? ⟨g, 1, none⟩ = false := by
  unfold F2 at h
  simp [World.frozen?, h]
theorem F4.set (h : F4 w g t x y z u) (x' y' z' u' : Value) : F4 ((((w.setCell ⟨g, 0, none⟩ x').setCell ⟨g, 1, none⟩ y').setCell ⟨g, 2, none⟩ z').setCell ⟨g, 3, none⟩ u') g t x' y' z' u' :=
  set_block8 (set_block8 (set_block8 (set_block8 h)))
theorem F2.set (h : F2 w g t x y) (x' y' : Value) : F2 ((w.setCell ⟨g, 0, none⟩ x').setCell ⟨g, 1, none⟩ y') g t x' y' := set_block8 (set_block8 h)
end
end Go.Proofs.YtceecgklgkiffabGreatDoor

/- package lemire: Small, Fast. -/
namespace Go.Proofs.YtceecgklgkiffabGreatDoor
open Go.ChangeShapes Go.WideShapes Go.ChangeAt Go.RowKit
open Na Ar
set_option linter.unusedVariables false
/-- the table of the exact powers of ten -/
def TenVar (w : World) : Prop := ∀ k, k < 23 → w.cell? ⟨0, k, none⟩ = some (.int .u64 (tenP k))
theorem TenVar.lt {w : World} (h : TenVar w) : 0 < w.heap.size := by
  have := h 0 (by omega)
  unfold World.cell? at this
  apply Decidable.byContradiction
  intro hc
  rw [Array.getElem?_eq_none (by show w.heap.size ≤ 0; omega)] at this
  cases this
theorem TenVar.later {w w' : World} (h : TenVar w) (hb : Below w.heap.size w w') : TenVar w' := fun k hk => by
  rw [hb.cell (p := ⟨0, k, none⟩) h.lt]
  exact h k hk
namespace Ar
theorem round_none {B : Int} {neg : Bool} (hB : 0 < B) : RoundIs 0 B false false 0 0 0 := by
  refine ⟨0, ⟨by omega, by decide, by rw [num_zero']; omega, Or.inr ?_⟩, Or.inl ⟨Or.inl ?_, rfl, rfl⟩⟩
  · rw [show (0 : Int) + 1 = 1 by rfl, num_one']; omega
  · unfold agn
    rw [num_zero', Int.zero_mul, if_neg (by omega), if_pos rfl]; rfl
end Ar
namespace Ar
end Ar
end Go.Proofs.YtceecgklgkiffabGreatDoor

/- Plain numbers: where Fast is sure it is the number itself, rounded. -/
namespace Go.Proofs.YtceecgklgkiffabGreatDoor
open Go.RowKit
open Na Ar
set_option linter.unusedVariables false
namespace Ar
/-- the number m times ten to the e, by a numerator and a denominator -/
def exN (m e : Int) : Int := if 0 ≤ e then m * 10 ^ e.toNat else m
def exD (e : Int) : Int := if 0 ≤ e then 1 else 10 ^ (-e).toNat
theorem exD_pos (e : Int) : 0 < exD e := by unfold exD; split; omega; exact Int.pow_pos (by omega)
def ExIs (m e b E : Int) : Prop := RoundIs (scA (exN m e) 0) (scB (exD e) 0) false false 0 b E
theorem scB_flat (D : Int) : scB D 0 = D := by unfold scB; rw [e2_zero (by omega), Int.mul_one]
/-! ### there is an answer; the order -/
theorem bel_some {A B : Int} (hA : 0 ≤ A) : ∃ d, BelP A B d := by
  have key : ∀ (n : Nat) (lo hi : Int), hi - lo = n → HalfI A B lo hi → ∃ d, BelP A B d := by
    intro n
    induction n with
    | zero => exact fun lo hi e h => ⟨lo, hav_end h (by omega)⟩
    | succ n ih =>
      intro lo hi e h
      by_cases hq : numW hi * B ≤ A
      · exact ⟨hi, hav_end (hav_up h (by omega) (Int.le_refl _) hq) (by omega)⟩
      · exact ih lo (hi - 1) (by omega) (hav_down h (by omega) (Int.le_refl _) (by omega))
  exact key (mostP - 0).toNat 0 mostP (by decide) (hav_start hA)
theorem round_some {A B : Int} (hA : 0 ≤ A) : ∃ b E, RoundIs A B false false 0 b E := by
  obtain ⟨d, hd⟩ := bel_some (B := B) hA
  by_cases h : agn A B (numW d) false = 0 ∨ upP A B false false 0 d = false
  · exact ⟨_, _, d, hd, Or.inl ⟨h, rfl, rfl⟩⟩
  · have h1 : agn A B (numW d) false ≠ 0 := fun q => h (Or.inl q)
    have h2 : upP A B false false 0 d = true := by
      cases hu : upP A B false false 0 d
      · exact absurd (Or.inr hu) h
      · rfl
    by_cases hm : d = mostP
    · exact ⟨_, _, d, hd, Or.inr ⟨⟨h1, h2⟩, Or.inl ⟨hm, rfl, rfl⟩⟩⟩
    · exact ⟨_, _, d, hd, Or.inr ⟨⟨h1, h2⟩, Or.inr ⟨by have := hd.2.1; omega, rfl, rfl⟩⟩⟩
theorem round_over {A B b E : Int} (hB : 0 < B) (h : RoundIs A B false false 0 b E) : (E = 70 ∧ b = 0 ∧ (numW mostP + nxtN mostP) * B ≤ 2 * A) ∨ (E = 0 ∧ 0 ≤ b ∧ b ≤ mostP ∧ 2 * A < (numW mostP + nxtN mostP) * B) := by
  rcases even_near hB h with h | ⟨h, d, d0, d1, hb, h2, h3, _⟩
  · exact Or.inl h
  · right
    have hs : sgB false = 0 := rfl
    rw [hs, Int.add_zero] at hb
    refine ⟨h, by omega, by omega, ?_⟩
    by_cases hm : d = mostP
    · subst hm
      by_cases hq : 2 * A = (numW mostP + nxtN mostP) * B
      · exact absurd rfl (h3 hq).2
      · omega
    · have hs2 := num_succ d0 (by omega)
      have n1 := num_mono (p := d) (q := mostP) d0 d1 (Int.le_refl _)
      have n2 := num_mono (p := d + 1) (q := mostP) (by omega) (by omega) (Int.le_refl _)
      have n3 := nxt_gt mostP
      rw [hs2] at n2
      have : (numW d + nxtN d) * B < (numW mostP + nxtN mostP) * B := Int.mul_lt_mul_of_pos_right (by omega) hB
      omega
/-- the greater number's answer is not below -/
theorem round_rise {A B A' B' b E b' E' : Int} (hB : 0 < B) (hB' : 0 < B') (hl : A * B' ≤ A' * B) (h : RoundIs A B false false 0 b E) (h' : RoundIs A' B' false false 0 b' E') :
    (E' = 70 ∧ b' = 0) ∨ (E = 0 ∧ E' = 0 ∧ b ≤ b') := by
  rcases round_over hB' h' with ⟨q1, q2, _⟩ | ⟨q1, q2, q3, q4⟩
  · exact Or.inl ⟨q1, q2⟩
  · right
    rcases round_over hB h with ⟨r1, r2, r3⟩ | ⟨r1, r2, r3, r4⟩
    · exfalso
      have a1 : (numW mostP + nxtN mostP) * B * B' ≤ 2 * A * B' := Int.mul_le_mul_of_nonneg_right r3 (by omega)
      have a2 : 2 * A' * B < (numW mostP + nxtN mostP) * B' * B := Int.mul_lt_mul_of_pos_right q4 hB
      have a3 : (numW mostP + nxtN mostP) * B' * B = (numW mostP + nxtN mostP) * B * B' := by rw [Int.mul_assoc, Int.mul_comm B', ← Int.mul_assoc]
      rw [Int.mul_assoc 2 A' B] at a2
      rw [Int.mul_assoc 2 A B'] at a1
      omega
    · exact ⟨r1, q1, round_mono hB hB' hl h h' r1 q1⟩
/-- between two that are rounded alike -/
theorem round_between {A B A1 B1 A2 B2 b E : Int} (hA : 0 ≤ A) (hB : 0 < B) (hB1 : 0 < B1) (hB2 : 0 < B2) (l1 : A1 * B ≤ A * B1) (l2 : A * B2 ≤ A2 * B) (h1 : RoundIs A1 B1 false false 0 b E) (h2 : RoundIs A2 B2 false false 0 b E) : RoundIs A B false false 0 b E := by
  obtain ⟨b', E', h⟩ := round_some (B := B) hA
  have r1 := round_rise hB1 hB l1 h1 h
  have r2 := round_rise hB hB2 l2 h h2
  rcases r1 with ⟨q1, q2⟩ | ⟨q1, q2, q3⟩
  · rcases r2 with ⟨s1, s2⟩ | ⟨s1, s2, s3⟩
    · rw [q1, q2] at h; rw [s1, s2]; exact h
    · omega
  · rcases r2 with ⟨s1, s2⟩ | ⟨s1, s2, s3⟩
    · omega
    · have e1 : b' = b := by omega
      rw [q2] at h; rw [q1, ← e1]; exact h
/-! ### the bounds of the table -/
theorem p10 (n : Nat) : (10 : Int) ^ n = 5 ^ n * 2 ^ n := by rw [← Int.mul_pow]; rfl
/-- powers, with the exponent out of sight -/
def t10 (n : Nat) : Int := 10 ^ n
theorem t10_cast (n : Nat) : ((10 ^ n : Nat) : Int) = t10 n := by unfold t10; rw [Int.natCast_pow]; rfl
theorem t10_pos (n : Nat) : 0 < t10 n := Int.pow_pos (by omega)
theorem e2_cast (n : Nat) : ((2 ^ n : Nat) : Int) = e2 (n : Int) := by unfold e2; rw [Int.toNat_natCast, Int.natCast_pow]; rfl
theorem exN_nonneg {m : Int} (h : 0 ≤ m) (e : Int) : 0 ≤ exN m e := by
  unfold exN
  split
  · exact Int.mul_nonneg h (Int.le_of_lt (Int.pow_pos (by omega)))
  · exact h
theorem scA_nonneg {N : Int} (h : 0 ≤ N) (x : Int) : 0 ≤ scA N x := Int.mul_nonneg h (Int.le_of_lt (e2_pos _))
end Ar
end Go.Proofs.YtceecgklgkiffabGreatDoor

/- layer 12: what is rounded to a pattern, by the ends of its interval; the digits that are told, as numbers that are read back. -/
namespace Go.Proofs.YtceecgklgkiffabGreatDoor
open Go.RowKit
open Na Ar
set_option linter.unusedVariables false
namespace Ry
theorem num_lt' {p q : Int} (h0 : 0 ≤ p) (h1 : p < q) (h2 : q ≤ mostP) : numW p < numW q := by
  have a := num_succ h0 (show p < mostP by omega)
  have b := nxt_gt p
  have c := num_mono (p := p + 1) (q := q) (by omega) (by omega) h2
  omega
/-- rounded to a pattern above 0: between the middles, at one of them just if it is even -/
theorem round_ends {A B p : Int} (hA : 0 ≤ A) (hB : 0 < B) (h0 : 0 < p) (h1 : p ≤ mostP) : RoundIs A B false false 0 p 0 ↔
    ((numW (p - 1) + numW p) * B ≤ 2 * A ∧ 2 * A ≤ (numW p + nxtN p) * B ∧ (((numW (p - 1) + numW p) * B = 2 * A ∨ 2 * A = (numW p + nxtN p) * B) → p % 2 = 0)) := by
  have s0 : sgB false = 0 := rfl
  constructor
  · intro h
    rcases even_near hB h with ⟨e, _⟩ | ⟨_, d, d0, d1, hb, g1, g2, g3⟩
    · omega
    · rw [s0, Int.add_zero] at hb
      subst hb
      obtain ⟨g4, g5⟩ := g3 (by omega)
      exact ⟨g4, g1, fun q => by rcases q with q | q; exact g5 q; exact (g2 q).1⟩
  · rintro ⟨a1, a2, a3⟩
    obtain ⟨b, E, h⟩ := round_some (B := B) hA
    have hm := most_odd
    have up : ∀ q : Int, 0 ≤ q → q < mostP → nxtN q = numW (q + 1) := fun q q0 q1 => (num_succ q0 q1).symm
    rcases even_near hB h with ⟨e, e', g⟩ | ⟨e, d, d0, d1, hb, g1, g2, g3⟩
    · exfalso
      by_cases z : p = mostP
      · rw [z] at a2 a3
        have := a3 (Or.inr (by omega))
        omega
      · have n1 := num_lt' (p := p) (q := mostP) (by omega) (by omega) (Int.le_refl _)
        have n2 := num_mono (p := p + 1) (q := mostP) (by omega) (by omega) (Int.le_refl _)
        have n3 := nxt_gt mostP
        rw [← up p (by omega) (by omega)] at n2
        have : (numW p + nxtN p) * B < (numW mostP + nxtN mostP) * B := Int.mul_lt_mul_of_pos_right (by omega) hB
        omega
    · rw [s0, Int.add_zero] at hb
      rcases Int.lt_trichotomy d p with l | l | l
      · exfalso
        have u := up d d0 (by omega)
        by_cases z : d = p - 1
        · have u2 : nxtN d = numW p := by rw [u]; congr 1; omega
          rw [u2, z] at g1 g2
          have q1 := (g2 (by omega)).1
          have q2 := a3 (Or.inl (by omega))
          omega
        · have n1 := num_lt' (p := d) (q := p - 1) d0 (by omega) (by omega)
          have n2 := num_mono (p := d + 1) (q := p) (by omega) (by omega) h1
          rw [← u] at n2
          have : (numW d + nxtN d) * B < (numW (p - 1) + numW p) * B := Int.mul_lt_mul_of_pos_right (by omega) hB
          omega
      · rw [e, hb, l] at h; exact h
      · exfalso
        obtain ⟨g4, g5⟩ := g3 (by omega)
        have u := up p (by omega) (by omega)
        by_cases z : d - 1 = p
        · have u2 : nxtN p = numW d := by rw [u]; congr 1; omega
          rw [z, ← u2] at g4 g5
          have q1 := g5 (by omega)
          have q2 := a3 (Or.inr (by omega))
          omega
        · have n1 := num_mono (p := p) (q := d - 1) (by omega) (by omega) (by omega)
          have n2 := num_lt' (p := p + 1) (q := d) (by omega) (by omega) d1
          rw [← u] at n2
          have : (numW p + nxtN p) * B < (numW (d - 1) + numW d) * B := Int.mul_lt_mul_of_pos_right (by omega) hB
          omega
/-- a pattern's mantissa and its scale -/
def mP (p : Int) : Nat := (spM p).toNat
def iP (p : Int) : Nat := (spX p + 1074).toNat
theorem parts_of {p : Int} (h0 : 0 < p) (h1 : p ≤ mostP) : 0 < mP p ∧ mP p < 9007199254740992 ∧ iP p < 2046 ∧ (mP p : Int) = spM p ∧ (iP p : Int) = spX p + 1074 ∧ p % 2 = spM p % 2 ∧
    2 * (numW p + nxtN p) = ((4 * mP p + 2 : Nat) : Int) * 2 ^ iP p ∧ 2 * (numW (p - 1) + numW p) = ((4 * mP p - dnR (mP p) (iP p) : Nat) : Int) * 2 ^ iP p ∧ numW p = (mP p : Int) * 2 ^ iP p := by
  obtain ⟨f1, f2, f3⟩ := fields_of (p := p) (by omega) h1
  obtain ⟨g1, g2, g3⟩ := fields_of (p := p - 1) (by omega) (by omega)
  have hs := num_succ (p := p - 1) (by omega) (by omega)
  rw [show p - 1 + 1 = p by omega] at hs
  have pos : 0 < (2 : Int) ^ iP p := Int.pow_pos (by omega)
  have hsp : spM p = if ef p = 0 then fr p else 4503599627370496 + fr p := by unfold spM; rw [if_neg (by omega)]
  have hsx : spX p = if ef p = 0 then -1074 else ef p - 1075 := by unfold spX; rw [if_neg (by omega)]
  have hsx' : spX (p - 1) = if ef (p - 1) = 0 then -1074 else ef (p - 1) - 1075 := by unfold spX; rw [if_neg (by omega)]
  have hp : p = ef p * 4503599627370496 + fr p := by omega
  have hfr : 0 ≤ fr p ∧ fr p < 4503599627370496 := by omega
  have m0 : 0 < spM p ∧ spM p < 9007199254740992 := by rw [hsp]; split <;> omega
  have em : (mP p : Int) = spM p := by unfold mP; omega
  have x0 : -1074 ≤ spX p ∧ spX p ≤ 971 := by rw [hsx]; split <;> omega
  have ei : (iP p : Int) = spX p + 1074 := by unfold iP; omega
  have en : numW p = (mP p : Int) * 2 ^ iP p := by rw [em]; rfl
  have es : stepN p = iP p := rfl
  refine ⟨by omega, by omega, by omega, em, ei, ?_, ?_, ?_, en⟩
  · rw [hsp]; split <;> omega
  · unfold nxtN
    rw [es, en]
    generalize (2 : Int) ^ iP p = P at *
    rw [Int.natCast_add, Int.natCast_mul, Int.add_mul, Int.mul_assoc]
    generalize (mP p : Int) * P = Q
    omega
  · have e1 : numW p = numW (p - 1) + 2 ^ stepN (p - 1) := hs
    have hst : stepN (p - 1) = (spX (p - 1) + 1074).toNat := rfl
    have key : 2 * (2 : Int) ^ stepN (p - 1) = (dnR (mP p) (iP p) : Int) * 2 ^ iP p := by
      unfold dnR
      split
      · rename_i c
        have : iP p = stepN (p - 1) + 1 := by
          rw [hst]
          have : spM p = 4503599627370496 := by omega
          rw [hsp] at this
          rw [hsx'] 
          rw [hsx] at ei
          split at this
          · omega
          · rename_i c1
            rw [if_neg c1] at ei
            have : ef (p - 1) = ef p - 1 := by omega
            rw [this]
            split <;> omega
        rw [this, Int.pow_succ]
        generalize (2 : Int) ^ stepN (p - 1) = Q
        simp
        omega
      · rename_i c
        have : stepN (p - 1) = iP p := by
          rw [hst, hsx']
          by_cases z : ef p = 0
          · rw [if_pos z] at hsx
            have : ef (p - 1) = 0 := by omega
            rw [if_pos this]; omega
          · rw [if_neg z] at hsx hsp
            by_cases z2 : fr p = 0
            · have z3 : ef p = 1 := by omega
              have : ef (p - 1) = 0 := by omega
              rw [if_pos this]; omega
            · have : ef (p - 1) = ef p := by omega
              rw [this, if_neg z]; omega
        rw [this]; rfl
    have hle : dnR (mP p) (iP p) ≤ 4 * mP p := by have := dn_cases (mP p) (iP p); omega
    rw [Int.ofNat_sub hle, Int.sub_mul, ← key, Int.natCast_mul, Int.mul_assoc, ← en]
    omega
theorem cross2 {a b a' b' k l : Int} (hk : 0 < k) (hl : 0 < l) (ha : a * k = a' * l) (hb : b * k = b' * l) : (a ≤ b ↔ a' ≤ b') ∧ (a < b ↔ a' < b') ∧ (a = b ↔ a' = b') := by
  have h1 : a < b ↔ a' < b' := by rw [← lt_scale hk, ha, hb, lt_scale hl]
  have h2 : b < a ↔ b' < a' := by rw [← lt_scale hk, ha, hb, lt_scale hl]
  omega
theorem ex_cast {y T : Nat} {e : Int} (he : e = (T : Int) - 400) : exN (y : Int) e * t10 400 = ((y : Int) * t10 T) * exD e := by
  unfold exN exD t10
  split
  · rename_i h
    have : T = e.toNat + 400 := by omega
    rw [this, Int.pow_add, Int.mul_one, Int.mul_assoc]
  · rename_i h
    have : 400 = T + (-e).toNat := by omega
    rw [this, Int.pow_add, Int.mul_assoc]
theorem t10_add (a b : Nat) : t10 (a + b) = t10 a * t10 b := by unfold t10; exact Int.pow_add _ _ _
theorem scaled_gen {A B C E F G D N P S y c : Int} (f : N * C * A = D * P * B) (x : F * B = (y * (C * E)) * G) (s : S * 4 = A) :
    (F * S * 4) * (B * D) = (y * (E * D)) * (C * A * G) ∧ (c * P * G) * (B * D) = (c * N) * (C * A * G) := by
  subst s
  constructor
  · grind
  · grind
theorem e2_1076 : e2 1074 * 4 = e2 ((1076 : Nat) : Int) := by
  have h := e2_add (j := 1074) (k := 2) (by omega) (by omega)
  exact h.symm
theorem facts_cast {i : Nat} (hi : i < 2046) : (ryN i : Int) * t10 (ryT i) * e2 ((1076 : Nat) : Int) = (ryD i : Int) * e2 (i : Int) * t10 400 := by
  have f := (scale_facts hi).eq
  rw [← t10_cast, ← e2_cast, ← e2_cast, ← t10_cast, ← Int.natCast_mul, ← Int.natCast_mul, ← Int.natCast_mul, ← Int.natCast_mul, f]
/-- a decimal, and a number of quarters of the last place -/
theorem scaled {i : Nat} (hi : i < 2046) (y c j : Nat) {e : Int} (he : e = (ryT i : Int) - 400 + j) :
    (exN (y : Int) e * e2 1074 * 4) * (t10 400 * (ryD i : Int)) = ((y * (10 ^ j * ryD i) : Nat) : Int) * (t10 (ryT i) * e2 ((1076 : Nat) : Int) * exD e) ∧
    ((c : Int) * e2 (i : Int) * exD e) * (t10 400 * (ryD i : Int)) = ((c * ryN i : Nat) : Int) * (t10 (ryT i) * e2 ((1076 : Nat) : Int) * exD e) := by
  have f := facts_cast hi
  have x := ex_cast (y := y) (T := ryT i + j) (e := e) (by omega)
  rw [t10_add] at x
  rw [Int.natCast_mul, Int.natCast_mul, t10_cast, Int.natCast_mul]
  exact scaled_gen f x e2_1076
theorem ks_pos (i : Nat) (e : Int) : 0 < t10 400 * (ryD i : Int) ∧ 0 < t10 (ryT i) * e2 ((1076 : Nat) : Int) * exD e := by
  have d := ryD_pos i
  exact ⟨Int.mul_pos (t10_pos _) (by omega), Int.mul_pos (Int.mul_pos (t10_pos _) (e2_pos _)) (exD_pos e)⟩
theorem pow_e2 (i : Nat) : (2 : Int) ^ i = e2 (i : Int) := by unfold e2; rw [Int.toNat_natCast]
/-- a decimal is rounded to a pattern just where it lies in its span -/
theorem ex_span {p : Int} (h0 : 0 < p) (h1 : p ≤ mostP) (y j : Nat) {e : Int} (he : e = (ryT (iP p) : Int) - 400 + j) :
    ExIs (y : Int) e p 0 ↔ (Ls (evR (mP p)) ((4 * mP p - dnR (mP p) (iP p)) * ryN (iP p)) (y * (10 ^ j * ryD (iP p))) ∧ Ls (evR (mP p)) (y * (10 ^ j * ryD (iP p))) ((4 * mP p + 2) * ryN (iP p))) := by
  obtain ⟨q1, q2, q3, q4, q5, q6, q7, q8, q9⟩ := parts_of h0 h1
  obtain ⟨k1, k2⟩ := ks_pos (iP p) e
  obtain ⟨s1, s2⟩ := scaled q3 y (4 * mP p - dnR (mP p) (iP p)) j he
  obtain ⟨-, s3⟩ := scaled q3 y (4 * mP p + 2) j he
  rw [pow_e2] at q7 q8
  rw [← q8] at s2
  rw [← q7] at s3
  have c1 := cross2 k1 k2 s2 s1
  have c2 := cross2 k1 k2 s1 s3
  have hA : 0 ≤ scA (exN (y : Int) e) 0 := scA_nonneg (exN_nonneg (by omega) e) 0
  have hb : scB (exD e) 0 = exD e := scB_flat _
  have ha : scA (exN (y : Int) e) 0 = exN (y : Int) e * e2 1074 := rfl
  unfold ExIs
  rw [round_ends hA (by rw [hb]; exact exD_pos e) h0 h1, hb, ha]
  have e1 : evR (mP p) = decide (p % 2 = 0) := by unfold evR; rw [Bool.eq_iff_iff, decide_eq_true_eq, decide_eq_true_eq]; omega
  rw [e1]
  generalize exN (y : Int) e * e2 1074 = A at *
  rw [Int.mul_assoc 2] at c1 c2
  generalize (numW (p - 1) + numW p) * exD e = L at *
  generalize (numW p + nxtN p) * exD e = H at *
  generalize y * (10 ^ j * ryD (iP p)) = Y at *
  generalize (4 * mP p - dnR (mP p) (iP p)) * ryN (iP p) = L' at *
  generalize (4 * mP p + 2) * ryN (iP p) = H' at *
  clear s1 s2 s3 k1 k2 q1 q2 q3 q4 q5 q6 q7 q8 q9
  unfold Ls
  obtain ⟨c11, -, c13⟩ := c1
  obtain ⟨c21, -, c23⟩ := c2
  have l1 : L ≤ 2 * A ↔ L' ≤ Y := ⟨fun h => by have := c11.mp (by omega); omega, fun h => by have := c11.mpr (by omega); omega⟩
  have l2 : 2 * A ≤ H ↔ Y ≤ H' := ⟨fun h => by have := c21.mp (by omega); omega, fun h => by have := c21.mpr (by omega); omega⟩
  have m1 : L = 2 * A ↔ L' = Y := ⟨fun h => by have := c13.mp (by omega); omega, fun h => by have := c13.mpr (by omega); omega⟩
  have m2 : 2 * A = H ↔ Y = H' := ⟨fun h => by have := c23.mp (by omega); omega, fun h => by have := c23.mpr (by omega); omega⟩
  by_cases z : p % 2 = 0
  · simp only [z, decide_true, if_true]
    exact ⟨fun ⟨a, b, _⟩ => ⟨l1.mp a, l2.mp b⟩, fun ⟨a, b⟩ => ⟨l1.mpr a, l2.mpr b, fun _ => trivial⟩⟩
  · simp only [z, decide_false, Bool.false_eq_true, if_false]
    refine ⟨fun ⟨a, b, c⟩ => ?_, fun ⟨a, b⟩ => ⟨l1.mpr (by omega), l2.mpr (by omega), fun q => ?_⟩⟩
    · have a' := l1.mp a
      have b' := l2.mp b
      have c1 : ¬ L' = Y := fun q => c (Or.inl (m1.mpr q))
      have c2 : ¬ Y = H' := fun q => c (Or.inr (m2.mpr q))
      omega
    · rcases q with q | q
      · have := m1.mp q; omega
      · have := m2.mp q; omega
def shD (p : Int) : Int := (neS (finR (mP p) (iP p)) : Int)
def shE (p : Int) : Int := ((finR (mP p) (iP p)).tens : Int) - 400
/-- what is told of a pattern above 0 -/
structure ShP (p d e : Int) : Prop where
  r0 : 0 < d
  r1 : d < 100000000000000000
  ne : d % 10 ≠ 0
  e0 : -324 ≤ e
  e1 : e ≤ 308
  rd : ExIs d e p 0
  no : ∀ y, 0 ≤ y → ¬ ExIs y (e + 1) p 0
  nb : ∀ y, 0 ≤ y → y < d → ExIs y e p 0 → exN (d + y) e * e2 1074 ≤ 2 * (numW p * exD e) ∧ (exN (d + y) e * e2 1074 = 2 * (numW p * exD e) → d % 2 = 0)
  na : ∀ y, d < y → ExIs y e p 0 → 2 * (numW p * exD e) ≤ exN (d + y) e * e2 1074 ∧ (2 * (numW p * exD e) = exN (d + y) e * e2 1074 → d % 2 = 0)
theorem sh_is {p : Int} (h0 : 0 < p) (h1 : p ≤ mostP) : ShP p (shD p) (shE p) := by
  obtain ⟨q1, q2, q3, q4, q5, q6, q7, q8, q9⟩ := parts_of h0 h1
  obtain ⟨j, hj, ht, s⟩ := short_is q1 q2 q3
  obtain ⟨t1, t2, t3, t4, t5⟩ := told_is q1 q2 q3
  unfold shD shE
  have he : ((finR (mP p) (iP p)).tens : Int) - 400 = (ryT (iP p) : Int) - 400 + j := by omega
  generalize hR : neS (finR (mP p) (iP p)) = R at *
  generalize hE : ((finR (mP p) (iP p)).tens : Int) - 400 = e at *
  obtain ⟨k1, k2⟩ := ks_pos (iP p) e
  have key : ∀ z : Nat, (exN (z : Int) e * e2 1074 ≤ 2 * (numW p * exD e) ↔ z * (10 ^ j * ryD (iP p)) ≤ 2 * (4 * mP p * ryN (iP p))) ∧ (2 * (numW p * exD e) ≤ exN (z : Int) e * e2 1074 ↔ 2 * (4 * mP p * ryN (iP p)) ≤ z * (10 ^ j * ryD (iP p))) := by
    intro z
    obtain ⟨s1, s2⟩ := scaled q3 z (2 * (4 * mP p)) j he
    have c := cross2 k1 k2 s1 s2
    have c' := cross2 k1 k2 s2 s1
    have e8 : ((2 * (4 * mP p) : Nat) : Int) * e2 (iP p : Int) * exD e = 4 * (2 * (numW p * exD e)) := by
      rw [q9, Int.natCast_mul, Int.natCast_mul, pow_e2]
      generalize e2 (iP p : Int) = P
      generalize (mP p : Int) = M
      generalize exD e = G
      grind
    rw [e8] at c c'
    rw [Nat.mul_assoc] at c c'
    generalize exN (z : Int) e * e2 1074 = A at *
    generalize 2 * (numW p * exD e) = Q at *
    omega
  refine ⟨by omega, by omega, by omega, by omega, by omega, ?_, ?_, ?_, ?_⟩
  · exact (ex_span h0 h1 R j he).mpr ⟨s.lo, s.hi⟩
  · intro y y0 hy
    obtain ⟨Y, rfl⟩ := Int.eq_ofNat_of_zero_le y0
    have := (ex_span h0 h1 Y (j + 1) (e := e + 1) (by omega)).mp hy
    have e10 : 10 ^ (j + 1) * ryD (iP p) = 10 * (10 ^ j * ryD (iP p)) := by rw [Nat.pow_succ, Nat.mul_comm (10 ^ j), Nat.mul_assoc]
    rw [e10] at this
    exact s.no Y this.1 this.2
  · intro y y0 hl hy
    obtain ⟨Y, rfl⟩ := Int.eq_ofNat_of_zero_le y0
    have g := (ex_span h0 h1 Y j he).mp hy
    have n := s.nb Y (by omega) g.1
    have k := key (R + Y)
    rw [Int.natCast_add] at k
    refine ⟨k.1.mpr n.1, fun q => ?_⟩
    have := n.2 (Nat.le_antisymm n.1 (k.2.mp (by omega)))
    omega
  · intro y hl hy
    obtain ⟨Y, rfl⟩ := Int.eq_ofNat_of_zero_le (show 0 ≤ y by omega)
    have g := (ex_span h0 h1 Y j he).mp hy
    have n := s.na Y (by omega) g.2
    have k := key (R + Y)
    rw [Int.natCast_add] at k
    refine ⟨k.2.mpr n.1, fun q => ?_⟩
    have := n.2 (Nat.le_antisymm n.1 (k.1.mp (by omega)))
    omega
end Ry
end Go.Proofs.YtceecgklgkiffabGreatDoor

/- other digits of the same pattern. -/
namespace Go.Proofs.YtceecgklgkiffabGreatDoor
open Go.ChangeShapes Go.WideShapes Go.ChangeAt Go.RowKit
open Na Ar Ry
set_option linter.unusedVariables false
namespace Ry
theorem ex_ten (d e : Int) : exN d (e + 1) * exD e = exN (d * 10) e * exD (e + 1) := by
  unfold exN exD
  by_cases h : 0 ≤ e
  · rw [if_pos h, if_pos h, if_pos (by omega), if_pos (by omega), show (e + 1).toNat = e.toNat + 1 by omega, Int.pow_succ, Int.mul_one, Int.mul_one, Int.mul_assoc, Int.mul_comm 10]
  · rw [if_neg h, if_neg h]
    by_cases h1 : 0 ≤ e + 1
    · have e1 : e = -1 := by omega
      subst e1
      rw [if_pos (by omega), if_pos (by omega)]
      show d * 10 ^ 0 * 10 ^ 1 = d * 10 * 1
      rw [Int.pow_zero, Int.pow_succ, Int.pow_zero]
      omega
    · rw [if_neg h1, if_neg h1, show (-e).toNat = (-(e + 1)).toNat + 1 by omega, Int.pow_succ, Int.mul_comm _ 10, ← Int.mul_assoc]
theorem ex_one {d e b E : Int} : ExIs d (e + 1) b E ↔ ExIs (d * 10) e b E := by
  unfold ExIs
  refine round_cross (scB_pos' (exD_pos _)) (scB_pos' (exD_pos _)) ?_
  rw [scB_flat, scB_flat]
  show exN d (e + 1) * e2 (0 + 1074) * exD e = exN (d * 10) e * e2 (0 + 1074) * exD (e + 1)
  rw [Int.mul_right_comm, ex_ten, Int.mul_right_comm]
theorem ex_pow {b E : Int} (k : Nat) : ∀ {d e : Int}, ExIs d (e + k) b E ↔ ExIs (d * 10 ^ k) e b E := by
  induction k with
  | zero => intro d e; rw [Int.pow_zero, Int.mul_one]; simp
  | succ k ih =>
    intro d e
    rw [show e + ((k + 1 : Nat) : Int) = e + k + 1 by omega, ex_one, ih, Int.pow_succ, Int.mul_assoc, Int.mul_comm 10]
theorem ex_mono {a c e b : Int} (ha : 0 ≤ a) (hc : 0 ≤ c) {y : Int} (h1 : a ≤ y) (h2 : y ≤ c) (ha' : ExIs a e b 0) (hc' : ExIs c e b 0) : ExIs y e b 0 := by
  unfold ExIs at *
  have p := exD_pos e
  have le : ∀ {u v : Int}, u ≤ v → scA (exN u e) 0 * scB (exD e) 0 ≤ scA (exN v e) 0 * scB (exD e) 0 := by
    intro u v h
    refine Int.mul_le_mul_of_nonneg_right ?_ (Int.le_of_lt (scB_pos' p))
    show exN u e * e2 (0 + 1074) ≤ exN v e * e2 (0 + 1074)
    refine Int.mul_le_mul_of_nonneg_right ?_ (Int.le_of_lt (e2_pos _))
    unfold exN; split
    · exact Int.mul_le_mul_of_nonneg_right h (Int.le_of_lt (Int.pow_pos (by omega)))
    · exact h
  exact round_between (scA_nonneg (exN_nonneg (by omega) e) 0) (scB_pos' p) (scB_pos' p) (scB_pos' p) (le h1) (le h2) ha' hc'
/-- the exponent of other digits is not greater -/
theorem few_exp {p g h d e : Int} (S : ShP p g h) (hd : 0 < d) (hx : ExIs d e p 0) : e ≤ h := by
  rcases Int.lt_or_le h e with l | l
  · exfalso
    obtain ⟨k, hk⟩ := Int.eq_ofNat_of_zero_le (show 0 ≤ e - (h + 1) by omega)
    have : ExIs d (h + 1 + (k : Int)) p 0 := by rw [show h + 1 + (k : Int) = e by omega]; exact hx
    rw [ex_pow] at this
    exact S.no _ (Int.le_of_lt (Int.mul_pos hd (Int.pow_pos (by omega)))) this
  · exact l
end Ry
end Go.Proofs.YtceecgklgkiffabGreatDoor


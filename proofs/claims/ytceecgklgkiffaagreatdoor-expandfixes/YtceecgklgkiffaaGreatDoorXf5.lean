import Derived.BigRegion
import Derived.Below
import Derived.BigQuiet
import Derived.ChangeOld
import Derived.Deep.DeepCutAuto
import Derived.Deep.QuietTactic
import Derived.Deep.RegionWith
import Derived.Laws.BitsAllLaws
import Derived.Laws.CopyRow
import Derived.Laws.IdiomCopy
import Derived.Laws.IdiomRangeMap
import Derived.OpenShut
import Derived.OwnWalk
import Derived.ProofKit
import Derived.ShutString
import Derived.WalkKit
import Derived.WalkLawsBesides
import Derived.WalkSpells
import Derived.Test.YtceecgklgkiffaaGreatDoorXf3
/- plumbref03: Norm, at, Word; plumblaw03: lent, kept. -/
namespace Go.Proofs.YtceecgklgkiffaaGreatDoor
open Go.ChangeShapes Go.WideShapes Go.ChangeAt Go.RowKit
open Na Ar
set_option linter.unusedVariables false
set_option maxHeartbeats 1600000 in
set_option maxRecDepth 100000 in
theorem ref3Norm_any {a : Option Addr} {n cap : Nat} {xs : List Int} {w : World} (hrow : RowAt .u64 w a n xs) (hx : Ws xs) (hn : n ≤ 12000000) :
    Calls Tryz.prog 126 #[.slice a n cap] w fun e w' => ∃ v, e = .returned v ∧ Own .u64 w' w.heap.size 22 v (words (num xs)) ∧ Below w.heap.size w w' := by
  obtain ⟨i_u64, hi_u64, hz0_u64, hz1_u64, hz2_u64⟩ := info_parts info_u64
  have hlen := hrow.1
  have HW : Hid (strip xs = words (num xs)) := words_strip hx
  go_enter Tryz.func126, Tryz.ntmps126
  go_wp2
  go_loop [3] (fun i => ∃ m : Nat, m ≤ n ∧ i = .int .i64 m ∧ Hid (strip xs = strip (xs.take m))) (fun i => (intOf i).toNat)
  case atStart => exact ⟨n, Nat.le_refl _, rfl, (by rw [List.take_of_length_le (by omega)] : strip xs = strip (xs.take n))⟩
  case round =>
    obtain ⟨m, hm, rfl, hs⟩ := hrel
    by_cases hgo : ∃ j, m = j + 1 ∧ xs.getD j 0 = 0
    · obtain ⟨j, rfl, hx0⟩ := hgo
      obtain ⟨b, off, rfl, hbB, hc⟩ := hrow.at (by omega)
      have hcx := hc j (by omega)
      have hl : xs.take (j + 1) = xs.take j ++ [xs.getD j 0] := take_next (by omega)
      have HG : Hid (strip xs = strip (xs.take j)) := by show _ = _; rw [hs.out, hl, hx0, strip_zero_end]
      have t : (xs.getD j 0 == 0) = true := beq_of hx0
      generalize xs.getD j 0 = x at *
      clear hc hrow hl hs hx0
      go_wp2
      go_round
      case rel => exact ⟨j, by omega, by go_num, HG⟩
      case measure => simp [intOf]
    · have HF : Hid (strip xs = xs.take m) := by
        by_cases h0 : m = 0
        · exact take_strip (by omega) hs.out (Or.inl h0)
        · obtain ⟨j, rfl⟩ : ∃ j, m = j + 1 := ⟨m - 1, by omega⟩
          refine take_strip (by omega) hs.out (Or.inr ?_)
          intro h
          exact hgo ⟨j, rfl, by simpa using h⟩
      have hlast : m = 0 ∨ ∃ j, m = j + 1 ∧ xs.getD j 0 ≠ 0 := by
        by_cases h0 : m = 0
        · exact Or.inl h0
        · exact Or.inr ⟨m - 1, by omega, fun h => hgo ⟨m - 1, by omega, h⟩⟩
      clear hgo hs
      rcases hlast with h0 | ⟨j, hj, hne⟩
      · have t0 : ¬ (0 : Int) < (m : Int) := by omega
        clear h0
        go_wp2
        go_loopw [4, 5] (fun v i wr => ∃ k : Nat, k ≤ m ∧ i = .int .i64 k ∧ Own .u64 wr w.heap.size 22 v (xs.take k) ∧ Below w.heap.size w wr) (fun _ i _ => m - (intOf i).toNat)
        case atStart => exact ⟨0, Nat.zero_le _, rfl, own_nil _ _ _ _, Below.refl _ _⟩
        case round =>
          obtain ⟨k, hk, rfl, hown, hnx⟩ := hrel
          have hsz := hnx.size
          by_cases hlt : k < m
          · exact absurd hlt (by omega)
          · have e : k = m := by omega
            have i1 : ¬ (k : Int) < (m : Int) := by omega
            have HE : Hid (words (num xs) = xs.take k) := by show _ = _; rw [← HW.out, HF.out, e]
            clear e
            go_wp2
            go_ret
            exact ⟨_, rfl, by rw [HE.out]; exact hown, hnx⟩
      · have t0 : (0 : Int) < (m : Int) := by omega
        obtain ⟨b0, off0, hab, hbB0, hc0⟩ := hrow.at (by omega)
        have hcx0 := hc0 j (by omega)
        have hjm : ((m : Int) - 1).toNat = j := by omega
        have t1 : (xs.getD j 0 == 0) = false := beq_no hne
        generalize xs.getD j 0 = x0 at *
        subst hab
        clear hc0 hne hj
        go_wp2
        go_loopw [4, 5] (fun v i wr => ∃ k : Nat, k ≤ m ∧ i = .int .i64 k ∧ Own .u64 wr w.heap.size 22 v (xs.take k) ∧ Below w.heap.size w wr) (fun _ i _ => m - (intOf i).toNat)
        case atStart => exact ⟨0, Nat.zero_le _, rfl, own_nil _ _ _ _, Below.refl _ _⟩
        case round =>
          obtain ⟨k, hk, rfl, hown, hnx⟩ := hrel
          have hsz := hnx.size
          by_cases hlt : k < m
          · have i1 : (k : Int) < (m : Int) := by omega
            obtain ⟨b, off, hab2, hbB, hc⟩ := hrow.at (by omega)
            simp only [Option.some.injEq, Addr.mk.injEq] at hab2
            obtain ⟨rfl, rfl, _⟩ := hab2
            have hcx := (hnx.cell (p := ⟨b0, off0 + k, none⟩) hbB).trans (hc k (by omega))
            have hlk : (xs.take k).length = k := by rw [List.length_take]; omega
            have htk : Hid (xs.take (k + 1) = xs.take k ++ [xs.getD k 0]) := take_next (by omega)
            generalize xs.getD k 0 = x at *
            generalize xs.take k = ys at *
            clear hc hrow
            go_wp2_with (at_builtin; refine wpList_append_own _ rfl _ _ 30 rfl w.heap.size 22 i_u64 (.int .u64 0) 1 8 Tryz.underlying30 hi_u64 hz0_u64 hz1_u64 hz2_u64 rfl (by decide) _ _ _ rfl (hown.row.alloc _) ⟨wr.heap.size, 0, none⟩ 1 1 [.int .u64 x] rfl rfl one_new one_cell (by unfold maxLen; omega) (by omega) (by simp; omega) ?_)
            intro v' w1 hown' hgrow _
            have hb' := grow_below hsz hown.row hnx hgrow
            have ho' := own_next hown' (by omega)
            rw [← htk.out] at ho'
            clear hown' hgrow hown hnx hcx
            go_wp2
            go_roundw
            case rel => exact ⟨k + 1, by omega, by go_num, ho', hb'⟩
            case measure => simp [intOf]; omega
          · have e : k = m := by omega
            have i1 : ¬ (k : Int) < (m : Int) := by omega
            have HE : Hid (words (num xs) = xs.take k) := by show _ = _; rw [← HW.out, HF.out, e]
            clear e
            go_wp2
            go_ret
            exact ⟨_, rfl, by rw [HE.out]; exact hown, hnx⟩
end Go.Proofs.YtceecgklgkiffaaGreatDoor

/- plumbref03: Bits. -/
namespace Go.Proofs.YtceecgklgkiffaaGreatDoor
open Go.ChangeShapes Go.WideShapes Go.ChangeAt Go.RowKit
open Na Ar
set_option linter.unusedVariables false
namespace Na
theorem lenW_half {v : Int} (h : U v) (h0 : v ≠ 0) : lenW v = lenW (v / 2) + 1 := by
  obtain ⟨k, hk, e, h1, h2⟩ := lenW_pos h h0
  rw [e]
  cases k with
  | zero =>
    have : v / 2 = 0 := by simp at h1 h2; omega
    rw [this, lenW_zero]; rfl
  | succ k =>
    have e1 : (2 : Int) ^ (k + 1) = 2 * 2 ^ k := by rw [Int.pow_succ, Int.mul_comm]
    have e2 : (2 : Int) ^ (k + 1 + 1) = 2 * 2 ^ (k + 1) := by rw [Int.pow_succ, Int.mul_comm]
    rw [lenW_eq (x := v / 2) (k := k) (by omega) (by omega)]
    omega
theorem take_zero_end {xs : List Int} {j : Nat} (hj : j < xs.length) (h : xs.getD j 0 = 0) : num (xs.take (j + 1)) = num (xs.take j) := by
  have t : num (xs.take (j + 1)) = num (xs.take j) + 18446744073709551616 ^ j * xs.getD j 0 := take_valB hj
  rw [t, h, Int.mul_zero, Int.add_zero]
theorem bits_at {xs : List Int} {j : Nat} (hx : Ws xs) (hj : j < xs.length) (h : xs.getD j 0 ≠ 0) : bitsN (num (xs.take (j + 1))) = 64 * (j : Int) + lenW (xs.getD j 0) := by
  have g := hx.getAnyB j
  obtain ⟨k, hk, e, h1, h2⟩ := lenW_pos (x := xs.getD j 0) g h
  rw [take_next hj, bits_word (hx.take j) h1 h2, List.length_take, Nat.min_eq_left (by omega), e]
  omega
end Na
set_option maxHeartbeats 1600000 in
set_option maxRecDepth 100000 in
theorem ref3Bits_any {a : Option Addr} {n cap : Nat} {xs : List Int} {w : World} (hrow : RowAt .u64 w a n xs) (hx : Ws xs) (hn : n ≤ 12000000) :
    Calls Tryz.prog 165 #[.slice a n cap] w fun e w' => e = .returned (.int .i64 (bitsN (num xs))) ∧ w = w' := by
  have hlen := hrow.1
  go_enter Tryz.func165, Tryz.ntmps165
  go_wp2
  go_loop [3, 4, 5] (fun i _ _ => ∃ (k : Nat) (I : Int), i = .int .i64 I ∧ I = (k : Int) - 1 ∧ k ≤ n ∧ Hid (num xs = num (xs.take k))) (fun i _ _ => (intOf i + 1).toNat)
  case atStart => exact ⟨n, _, rfl, rfl, Nat.le_refl _, (by rw [List.take_of_length_le (by omega)] : num xs = num (xs.take n))⟩
  case round =>
    obtain ⟨k, I, rfl, hI, hk, hs⟩ := hrel
    cases k with
    | zero =>
      have HZ : Hid (bitsN (num xs) = 0) := by
        show _ = _
        rw [hs.out, List.take_zero]; rfl
      have hneg : I < 0 := by omega
      clear hI
      go_wp2
      go_ret
      exact ⟨by rw [HZ.out]; rfl, rfl⟩
    | succ j =>
      have hI' : I = (j : Int) := by omega
      clear hI
      subst hI'
      obtain ⟨b, off, rfl, hbB, hc⟩ := hrow.at (by omega)
      have hcx := hc j (by omega)
      have gx : U (xs.getD j 0) := hx.getAnyB j
      by_cases h0 : xs.getD j 0 = 0
      · have HZ : Hid (num xs = num (xs.take j)) := by show _ = _; rw [hs.out, take_zero_end (by omega) h0]
        have t0 : ¬ 0 < xs.getD j 0 := by omega
        generalize xs.getD j 0 = x at *
        clear hc hrow h0
        go_wp2
        go_round
        case rel => exact ⟨j, _, rfl, by omega, by omega, HZ⟩
        case measure => simp [intOf]
      · have HB : Hid (bitsN (num xs) = 64 * (j : Int) + lenW (xs.getD j 0)) := by show _ = _; rw [hs.out, bits_at hx (by omega) h0]
        have t0 : 0 < xs.getD j 0 := by unfold U at gx; omega
        have hlb := lenW_bd gx
        generalize xs.getD j 0 = x at *
        clear hc hrow h0
        go_wp2
        go_loop [4, 5] (fun c v => ∃ (C V : Int), c = .int .i64 C ∧ v = .int .u64 V ∧ U V ∧ C + lenW V = 64 * (j : Int) + lenW x ∧ 64 * (j : Int) ≤ C) (fun _ v => (intOf v).toNat)
        case atStart => exact ⟨_, x, rfl, rfl, gx, rfl, Int.le_refl _⟩
        case round =>
          obtain ⟨C, V, rfl, rfl, hV, hCV, hC0⟩ := hrel
          have hVb := lenW_bd hV
          by_cases hz : V = 0
          · subst hz
            rw [lenW_zero, Int.add_zero] at hCV
            have HE : Hid (C = bitsN (num xs)) := by show _ = _; rw [HB.out]; exact hCV
            clear hCV
            go_wp2
            go_ret
            exact ⟨by rw [← HE.out]; rfl, rfl⟩
          · have hl := lenW_half hV hz
            have hVp : 0 < V := by unfold U at hV; omega
            have hV2 : U (V / 2) := by unfold U at *; omega
            have hN : C + 1 + lenW (V / 2) = 64 * (j : Int) + lenW x := by omega
            have hC9 : C ≤ 1000000000 := by omega
            have HN : Hid (C + 1 + lenW (V / 2) = 64 * (j : Int) + lenW x) := hN
            unfold U at hV
            clear hl hN hCV
            go_wp2
            go_round
            case rel => exact ⟨C + 1, V / 2, rfl, rfl, hV2, HN.out, by omega⟩
            case measure => simp [intOf]; omega
end Go.Proofs.YtceecgklgkiffaaGreatDoor

/- plumbref03: at, Cmp. -/
namespace Go.Proofs.YtceecgklgkiffaaGreatDoor
open Go.ChangeShapes Go.WideShapes Go.ChangeAt Go.RowKit
open Na Ar
set_option linter.unusedVariables false
namespace Na
end Na
end Go.Proofs.YtceecgklgkiffaaGreatDoor

/- plumblaw03: lent, kept. -/
namespace Go.Proofs.YtceecgklgkiffaaGreatDoor
open Go.ChangeShapes Go.WideShapes Go.ChangeAt Go.RowKit
open Na Ar
set_option linter.unusedVariables false
end Go.Proofs.YtceecgklgkiffaaGreatDoor

/- plumbref03: Mul: halves of words. -/
namespace Go.Proofs.YtceecgklgkiffaaGreatDoor
open Go.ChangeShapes Go.WideShapes Go.ChangeAt Go.RowKit
open Na Ar
set_option linter.unusedVariables false
theorem Own.stays {k : IntKind} {w w' : World} {base g n cap m : Nat} {e : TypeId} {xs : List Int} (h : Own k w base e (.slice (some ⟨g, 0, none⟩) n cap) xs) (hb : Below m w w') (hg : g < m) : Own k w' base e (.slice (some ⟨g, 0, none⟩) n cap) xs := by
  obtain ⟨h1, h2⟩ := h
  refine ⟨h1, ?_⟩
  rcases h2 with h2 | ⟨g2, c, cur, hv, hb2, hc, r⟩
  · exact Or.inl h2
  · refine Or.inr ⟨g2, c, cur, hv, hb2, ?_, r⟩
    simp only [Value.slice.injEq, Option.some.injEq, Addr.mk.injEq] at hv
    rw [hb.block g2 (by omega)]; exact hc
namespace Na
/-- each word by its halves -/
def halves : List Int → List Int
  | [] => []
  | x :: xs => x % 4294967296 :: x / 4294967296 :: halves xs
theorem halves_length (xs : List Int) : (halves xs).length = 2 * xs.length := by
  induction xs with
  | nil => rfl
  | cons x xs ih => simp [halves, ih]; omega
theorem halves_dg {xs : List Int} (h : Ws xs) : Dg 4294967296 (halves xs) := by
  induction xs with
  | nil => exact Dg.nil _
  | cons x xs ih =>
    have hx := h x (by simp)
    have hs : Ws xs := fun y hy => h y (by simp [hy])
    intro y hy
    simp only [halves, List.mem_cons] at hy
    rcases hy with rfl | rfl | hy
    · omega
    · omega
    · exact ih hs y hy
theorem halves_val (xs : List Int) : val 4294967296 (halves xs) = num xs := by
  induction xs with
  | nil => rfl
  | cons x xs ih =>
    have e : val 4294967296 (halves (x :: xs)) = x % 4294967296 + 4294967296 * (x / 4294967296 + 4294967296 * val 4294967296 (halves xs)) := rfl
    have e2 : num (x :: xs) = x + 18446744073709551616 * num xs := rfl
    rw [e, e2, ih]
    generalize num xs = N
    omega
theorem halves_get {xs : List Int} (h : Ws xs) (k : Nat) : (halves xs).getD k 0 = (if k % 2 = 0 then xs.getD (k / 2) 0 % 4294967296 else xs.getD (k / 2) 0 / 4294967296) := by
  induction xs generalizing k with
  | nil => simp [halves]
  | cons x xs ih =>
    have hs : Ws xs := fun y hy => h y (by simp [hy])
    match k with
    | 0 => rfl
    | 1 => rfl
    | k + 2 =>
      have e : (halves (x :: xs)).getD (k + 2) 0 = (halves xs).getD k 0 := rfl
      have e2 : (k + 2) / 2 = k / 2 + 1 := by omega
      have e3 : (k + 2) % 2 = k % 2 := by omega
      rw [e, ih hs, e2, e3]
      rfl
theorem put_half {us : List Int} {j : Nat} {c p lo hi : Int} (hj : j < us.length) (e : us.getD j 0 + p + c = lo + 4294967296 * hi) :
    val 4294967296 (us.set j lo) + 4294967296 ^ (j + 1) * hi = val 4294967296 us + 4294967296 ^ j * c + 4294967296 ^ j * p := by
  rw [val_set _ hj, Int.pow_succ]
  generalize val 4294967296 us = V
  generalize (4294967296 : Int) ^ j = P
  generalize us.getD j 0 = u at *
  have : lo = u + p + c - 4294967296 * hi := by omega
  subst this
  grind
def hfLo (x y u d : Int) : Int := (x * y + u + d) % 4294967296
def hfHi (x y u d : Int) : Int := (x * y + u + d) / 4294967296
theorem hf_bd {x y u d : Int} (hx : 0 ≤ x ∧ x < 4294967296) (hy : 0 ≤ y ∧ y < 4294967296) (hu : 0 ≤ u ∧ u < 4294967296) (hd : 0 ≤ d ∧ d < 4294967296) : (0 ≤ x * y + u + d ∧ x * y + u + d < 18446744073709551616) ∧ 0 ≤ x * y ∧ (0 ≤ hfHi x y u d ∧ hfHi x y u d < 4294967296) := by
  have m0 : 0 ≤ x * y := Int.mul_nonneg hx.1 hy.1
  have m1 : x * y ≤ 4294967295 * 4294967295 := Int.mul_le_mul (by omega) (by omega) hy.1 (by omega)
  unfold hfHi
  generalize x * y = z at *
  omega
def HimI (ds ys : List Int) (o : Nat) (x : Int) (k : Nat) (d : Int) (us : List Int) : Prop := Dg 4294967296 us ∧ us.length = ds.length ∧ (0 ≤ d ∧ d < 4294967296) ∧ us.drop (o + ys.length) = ds.drop (o + ys.length) ∧
  val 4294967296 us + 4294967296 ^ (o + k) * d = val 4294967296 ds + 4294967296 ^ o * (x * val 4294967296 (ys.take k))
theorem himI_start {ds ys : List Int} {o : Nat} {x : Int} (h : Dg 4294967296 ds) : HimI ds ys o x 0 0 ds := ⟨h, rfl, by omega, rfl, by simp [val]⟩
theorem himI_step {ds ys us : List Int} {o k : Nat} {x d : Int} (h : HimI ds ys o x k d us) (hy : Dg 4294967296 ys) (hx : 0 ≤ x ∧ x < 4294967296) (hk : k < ys.length) (ho : o + k < us.length) :
    HimI ds ys o x (k + 1) (hfHi x (ys.getD k 0) (us.getD (o + k) 0) d) (us.set (o + k) (hfLo x (ys.getD k 0) (us.getD (o + k) 0) d)) := by
  obtain ⟨h1, h2, h3, h4, h5⟩ := h
  have gu := h1.get ho
  have gy := hy.get hk
  have bd := hf_bd hx ⟨gy.1, gy.2⟩ ⟨gu.1, gu.2⟩ h3
  refine ⟨h1.set _ (by unfold hfLo; omega), by rw [List.length_set]; exact h2, bd.2.2, ?_, ?_⟩
  · rw [List.drop_set_of_lt (by omega)]; exact h4
  · have e : us.getD (o + k) 0 + x * ys.getD k 0 + d = hfLo x (ys.getD k 0) (us.getD (o + k) 0) d + 4294967296 * hfHi x (ys.getD k 0) (us.getD (o + k) 0) d := by
      unfold hfLo hfHi
      generalize x * ys.getD k 0 = z
      omega
    have p := put_half (j := o + k) (c := d) (p := x * ys.getD k 0) ho e
    rw [← Nat.add_assoc, p, h5, take_valB hk, Int.pow_add]
    generalize (4294967296 : Int) ^ o = P
    generalize (4294967296 : Int) ^ k = Q
    generalize val 4294967296 (ys.take k) = V
    generalize ys.getD k 0 = y
    grind
/-- behind i halves of the first -/
def HomI (xs ys : List Int) (i : Nat) (ds : List Int) : Prop := Dg 4294967296 ds ∧ ds.length = xs.length + ys.length + 1 ∧ (∀ j, i + ys.length ≤ j → ds.getD j 0 = 0) ∧ val 4294967296 ds = val 4294967296 (xs.take i) * val 4294967296 ys
theorem homI_start (xs ys : List Int) : HomI xs ys 0 (List.replicate (xs.length + ys.length + 1) 0) :=
  ⟨Dg_zeros (by omega) _, by simp, fun j _ => by rw [List.getD_eq_getElem?_getD, List.getElem?_replicate]; split <;> rfl, by rw [val_zeros]; simp [val]⟩
theorem himI_above {ds ys us : List Int} {o : Nat} {x d : Int} {k : Nat} (h : HimI ds ys o x k d us) {j : Nat} (hj : o + ys.length ≤ j) : us.getD j 0 = ds.getD j 0 := by
  have e := h.2.2.2.1
  have e2 : (us.drop (o + ys.length)).getD (j - (o + ys.length)) 0 = (ds.drop (o + ys.length)).getD (j - (o + ys.length)) 0 := by rw [e]
  simp only [List.getD_eq_getElem?_getD, List.getElem?_drop] at e2 ⊢
  have e3 : o + ys.length + (j - (o + ys.length)) = j := by omega
  rw [e3] at e2
  exact e2
theorem homI_step {xs ys ds us : List Int} {i : Nat} {d : Int} (h : HomI xs ys i ds) (hi : i < xs.length) (hin : HimI ds ys i (xs.getD i 0) ys.length d us) :
    us.getD (i + ys.length) 0 = 0 ∧ HomI xs ys (i + 1) (us.set (i + ys.length) d) := by
  obtain ⟨h1, h2, h3, h4⟩ := h
  have z : us.getD (i + ys.length) 0 = 0 := by rw [himI_above hin (Nat.le_refl _)]; exact h3 _ (Nat.le_refl _)
  have ab := fun j (q : i + ys.length ≤ j) => himI_above hin q
  obtain ⟨g1, g2, g3, g4, g5⟩ := hin
  refine ⟨z, g1.set _ g3, by rw [List.length_set, g2]; exact h2, fun j hj => ?_, ?_⟩
  · have e : (us.set (i + ys.length) d).getD j 0 = us.getD j 0 := by
      simp only [List.getD_eq_getElem?_getD]
      rw [List.getElem?_set_ne (by omega)]
    rw [e, ab j (by omega)]
    exact h3 j (by omega)
  · rw [val_set _ (by omega), z, take_valB hi]
    rw [List.take_length, h4] at g5
    have e : (4294967296 : Int) ^ (i + ys.length) * (d - 0) = 4294967296 ^ (i + ys.length) * d := by simp
    rw [e, g5]
    generalize (4294967296 : Int) ^ i = P
    generalize val 4294967296 (xs.take i) = V
    generalize val 4294967296 ys = Y
    generalize xs.getD i 0 = x
    grind
end Na
end Go.Proofs.YtceecgklgkiffaaGreatDoor

/- plumbref03: DivMod, bit by bit: what holds on the way. -/
namespace Go.Proofs.YtceecgklgkiffaaGreatDoor
open Go.ChangeShapes Go.WideShapes Go.ChangeAt Go.RowKit
open Na Ar
set_option linter.unusedVariables false
namespace Na
end Na
end Go.Proofs.YtceecgklgkiffaaGreatDoor

/- plumbref03.Bit, DivMod. -/
namespace Go.Proofs.YtceecgklgkiffaaGreatDoor
open Go.ChangeShapes Go.WideShapes Go.ChangeAt Go.RowKit
open Na Ar
set_option linter.unusedVariables false
end Go.Proofs.YtceecgklgkiffaaGreatDoor

/- plumbref03: Add, Sub, Shl: what holds on the way. -/
namespace Go.Proofs.YtceecgklgkiffaaGreatDoor
open Go.ChangeShapes Go.WideShapes Go.ChangeAt Go.RowKit
open Na Ar
set_option linter.unusedVariables false
namespace Na
theorem num_snoc (zs : List Int) (x : Int) : num (zs ++ [x]) = num zs + 18446744073709551616 ^ zs.length * x := by
  show val _ _ = _
  rw [val_append]; simp [val]; rfl
theorem Ws.snoc {zs : List Int} {x : Int} (h : Ws zs) (hx : U x) : Ws (zs ++ [x]) := h.append (Dg.one hx)
def SlI (xs : List Int) (t k : Nat) (c : Int) (zs : List Int) : Prop := Ws zs ∧ zs.length = k ∧ (0 ≤ c ∧ c < 2 ^ t) ∧
  num zs + 18446744073709551616 ^ k * c = num (xs.take k) * 2 ^ t
theorem slI_start (xs : List Int) (t : Nat) : SlI xs t 0 0 [] := ⟨Dg.nil _, rfl, ⟨Int.le_refl _, p2pos t⟩, by simp [num, val]⟩
def slW (x c : Int) (t : Nat) : Int := x * 2 ^ t % 18446744073709551616 + c
def slC (x : Int) (t : Nat) : Int := x / 2 ^ (64 - t)
theorem sl_eq {x c : Int} {t : Nat} (hx : U x) (ht : t ≤ 64) (hc : 0 ≤ c ∧ c < 2 ^ t) : x * 2 ^ t + c = slW x c t + 18446744073709551616 * slC x t ∧ U (slW x c t) ∧ (0 ≤ slC x t ∧ slC x t < 2 ^ t) := by
  have s := pow_split ht
  have p := p2pos t
  have q := p2pos (64 - t)
  have d := Int.mul_ediv_add_emod x (2 ^ (64 - t))
  have m0 := Int.emod_nonneg x (show (2 : Int) ^ (64 - t) ≠ 0 by omega)
  have m1 := Int.emod_lt_of_pos x q
  have c0 : 0 ≤ x / 2 ^ (64 - t) := Int.ediv_nonneg hx.1 (by omega)
  have c1 : x / 2 ^ (64 - t) < 2 ^ t := by
    refine Int.ediv_lt_of_lt_mul q ?_
    rw [Int.mul_comm, s]; exact hx.2
  unfold slW slC
  generalize x / 2 ^ (64 - t) = h at *
  generalize x % 2 ^ (64 - t) = l at *
  generalize (2 : Int) ^ (64 - t) = Q at *
  generalize (2 : Int) ^ t = P at *
  have e1 : x * P = l * P + 18446744073709551616 * h := by rw [← d, ← s]; grind
  have b1 : l * P + P ≤ 18446744073709551616 := by
    have : (l + 1) * P ≤ Q * P := Int.mul_le_mul_of_nonneg_right (by omega) (by omega)
    rw [s, Int.add_mul] at this
    omega
  have b0 : 0 ≤ l * P := Int.mul_nonneg m0 (by omega)
  have e2 : x * P % 18446744073709551616 = l * P := by rw [e1, Int.add_mul_emod_self_left, Int.emod_eq_of_lt (by omega) (by omega)]
  rw [e2]
  refine ⟨by omega, ?_, c0, c1⟩
  unfold U
  omega
theorem slI_step {xs zs : List Int} {t k : Nat} {c : Int} (h : SlI xs t k c zs) (hx : Ws xs) (ht : t ≤ 64) (h1 : k < xs.length) : SlI xs t (k + 1) (slC (xs.getD k 0) t) (zs ++ [slW (xs.getD k 0) c t]) := by
  obtain ⟨g1, g2, g3, g4⟩ := h
  have ux : U (xs.getD k 0) := hx.get h1
  obtain ⟨e, u, b⟩ := sl_eq ux ht g3
  refine ⟨g1.snoc u, by simp [g2], b, ?_⟩
  have t1 : num (xs.take (k + 1)) = num (xs.take k) + 18446744073709551616 ^ k * xs.getD k 0 := take_valB h1
  rw [num_snoc, g2, t1, Int.pow_succ]
  generalize slW (xs.getD k 0) c t = lo at *
  generalize slC (xs.getD k 0) t = hi at *
  generalize xs.getD k 0 = x at *
  generalize (18446744073709551616 : Int) ^ k = P at *
  generalize (2 : Int) ^ t = T at *
  have e2 : lo = x * T + c - 18446744073709551616 * hi := by omega
  subst e2
  grind
theorem slI_done {xs zs : List Int} {t : Nat} {c : Int} (h : SlI xs t xs.length c zs) (ht : t ≤ 64) : Ws (zs ++ [c]) ∧ num (zs ++ [c]) = num xs * 2 ^ t := by
  obtain ⟨g1, g2, g3, g4⟩ := h
  have s := pow_split ht
  have q := p2pos (64 - t)
  refine ⟨g1.snoc ?_, ?_⟩
  · unfold U
    have : (2 : Int) ^ t ≤ 18446744073709551616 := by
      rw [← s]
      have := Int.mul_le_mul_of_nonneg_right (show (1 : Int) ≤ 2 ^ (64 - t) by omega) (Int.le_of_lt (p2pos t))
      omega
    omega
  · rw [num_snoc, g2, g4, List.take_of_length_le (Nat.le_refl _)]
end Na
end Go.Proofs.YtceecgklgkiffaaGreatDoor

/- plumbref03: Shl by any number. -/
namespace Go.Proofs.YtceecgklgkiffaaGreatDoor
open Go.ChangeShapes Go.WideShapes Go.ChangeAt Go.RowKit
open Na Ar
set_option linter.unusedVariables false
namespace Na
theorem rep_snoc (k : Nat) : List.replicate k (0 : Int) ++ [0] = List.replicate (k + 1) 0 := by rw [List.replicate_succ']
theorem shl_done {xs zs : List Int} {t : Nat} {c : Int} (h : SlI xs (t % 64) xs.length c zs) : Ws (List.replicate (t / 64) 0 ++ zs ++ [c]) ∧ num (List.replicate (t / 64) 0 ++ zs ++ [c]) = num xs * 2 ^ t := by
  obtain ⟨a, b⟩ := slI_done h (by omega)
  rw [List.append_assoc]
  refine ⟨(Dg_zeros (by omega) _).append a, ?_⟩
  have e : num (List.replicate (t / 64) 0 ++ (zs ++ [c])) = 18446744073709551616 ^ (t / 64) * num (zs ++ [c]) := by
    unfold num
    rw [val_append, val_zeros]; simp
  rw [e, b]
  have p : (2 : Int) ^ t = 18446744073709551616 ^ (t / 64) * 2 ^ (t % 64) := by
    have e1 : (18446744073709551616 : Int) = 2 ^ 64 := rfl
    rw [e1, ← Int.pow_mul, ← Int.pow_add]
    congr 1; omega
  rw [p]; exact Int.mul_left_comm _ _ _
end Na
set_option maxHeartbeats 3200000 in
set_option maxRecDepth 100000 in
theorem ref3Shl_any {a : Option Addr} {n c1 : Nat} {xs : List Int} {w : World} (hr1 : RowAt .u64 w a n xs) (hx : Ws xs) (hn : n ≤ 3000000) (t : Nat) (ht : t ≤ 200000000) :
    Calls Tryz.prog 85 #[.slice a n c1, .int .i64 (t : Int)] w fun e w' => ∃ v, e = .returned v ∧ Own .u64 w' w.heap.size 22 v (words (num xs * 2 ^ t)) ∧ Below w.heap.size w w' := by
  obtain ⟨i_u64, hi_u64, hz0_u64, hz1_u64, hz2_u64⟩ := info_parts info_u64
  have LX : Hid (xs.length = n) := hr1.1
  have hq : t / 64 ≤ 3125000 := by omega
  have hr : t % 64 < 64 := by omega
  have HD := @Na.shl_done xs
  go_enter Tryz.func85, Tryz.ntmps85
  go_wp2
  go_loopw [5, 6] (fun v i w4 => ∃ (k : Nat) (L : List Int), i = .int .i64 k ∧ k ≤ t / 64 ∧ Own .u64 w4 w.heap.size 22 v L ∧ L.length = k ∧ Hid (L = List.replicate k 0) ∧ Below w.heap.size w w4) (fun _ i _ => t / 64 - (intOf i).toNat)
  case atStart => exact ⟨0, [], rfl, Nat.zero_le _, own_nil _ _ _ _, rfl, rfl, Below.refl _ _⟩
  case round =>
    obtain ⟨q, L, rfl, hk, hown, hLl, HL, hnx⟩ := hrel
    have hsz := hnx.size
    by_cases hlt : q < t / 64
    · go_wp2_with (at_builtin; refine wpList_append_own _ rfl _ _ 30 rfl w.heap.size 22 i_u64 (.int .u64 0) 1 8 Tryz.underlying30 hi_u64 hz0_u64 hz1_u64 hz2_u64 rfl (by decide) _ _ _ rfl (hown.row.alloc _) ⟨wr.heap.size, 0, none⟩ 1 1 [.int .u64 0] rfl rfl one_new one_cell (by unfold maxLen; omega) (by omega) (by simp; omega) ?_)
      intro v' w1 hown' hgrow _
      have hb' := grow_below hsz hown.row hnx hgrow
      have ho' := own_next hown' (by omega)
      clear hown' hgrow hown hnx
      go_wp2
      go_roundw
      case rel => exact ⟨q + 1, L ++ [0], by go_num, by omega, ho', by simp [hLl], by show _ = _; rw [HL.out]; exact rep_snoc q, hb'⟩
      case measure => simp [intOf]; omega
    · have HK : Hid (q = t / 64) := by show _ = _; omega
      have hq3 : q ≤ 3125000 := by omega
      go_wp2
      go_loopw [5, 8, 9] (fun v c i w4 => ∃ (k : Nat) (C : Int) (zs L : List Int), i = .int .i64 k ∧ c = .int .u64 C ∧ k ≤ n ∧ Own .u64 w4 w.heap.size 22 v L ∧ Hid (L = List.replicate q 0 ++ zs) ∧ SlI xs (t % 64) k C zs ∧ Below w.heap.size w w4) (fun _ _ i _ => n - (intOf i).toNat)
      case atStart => exact ⟨0, 0, [], L, rfl, rfl, Nat.zero_le _, hown, by show _ = _; rw [HL.out, List.append_nil], slI_start _ _, hnx⟩
      case round =>
        clear hown HL hLl hsz hnx hlt hk
        obtain ⟨k, C, zs, L, rfl, rfl, hk, hown, HL, hinv, hnx⟩ := hrel
        have hsz := hnx.size
        have hzl := hinv.2.1
        have hC := hinv.2.2.1
        have hLl : L.length = q + k := by rw [HL.out]; simp [hzl]
        by_cases hlt : k < n
        · obtain ⟨b0, o0, rfl, hb0, hc0⟩ := hr1.at (by omega)
          have hcx := fun (w5 : World) (h : Below w.heap.size w w5) => (h.cell (p := ⟨b0, o0 + k, none⟩) hb0).trans (hc0 k hlt)
          have hcx0 := hcx _ hnx
          have ux : U (xs.getD k 0) := hx.getAnyB k
          have hstep := slI_step hinv hx (by omega) (by rw [LX.out]; exact hlt)
          generalize xs.getD k 0 = x at *
          have hor : bits .or .u64 (IntKind.u64.wrap (x * 2 ^ (t % 64))) C = slW x C (t % 64) := or_parts (k := t % 64) (by omega) hC.1 hC.2
          have HA : Hid (L ++ [slW x C (t % 64)] = List.replicate q 0 ++ (zs ++ [slW x C (t % 64)])) := by show _ = _; rw [HL.out, List.append_assoc]
          clear hinv hc0 hC HL HD
          by_cases hr0 : t % 64 = 0
          · have hcc : slC x (t % 64) = 0 := by
              unfold slC; rw [hr0]
              have h64 : (2 : Int) ^ (64 - 0) = 18446744073709551616 := rfl
              rw [h64]; unfold U at ux; omega
            rw [hcc] at hstep
            have hor' : bits .or .u64 (IntKind.u64.wrap x) C = slW x C (t % 64) := by
              have := hor
              rw [hr0, Int.pow_zero, Int.mul_one] at this
              rw [this, hr0]
            clear hcc ux hor
            generalize slW x C (t % 64) = y at *
            go_wp2_with (at_builtin; refine wpList_append_own _ rfl _ _ 30 rfl w.heap.size 22 i_u64 (.int .u64 0) 1 8 Tryz.underlying30 hi_u64 hz0_u64 hz1_u64 hz2_u64 rfl (by decide) _ _ _ rfl (hown.row.alloc _) ⟨wr.heap.size, 0, none⟩ 1 1 [.int .u64 y] rfl rfl one_new one_cell (by unfold maxLen; omega) (by omega) (by simp; omega) ?_)
            intro v' w1 hown' hgrow _
            have hb' := grow_below hsz hown.row hnx hgrow
            have ho' := own_next hown' (by omega)
            have hcx1 := hcx _ hb'
            clear hown' hgrow hown hnx hcx hcx0
            go_wp2
            go_roundw
            case rel => exact ⟨k + 1, _, _, _, by go_num, rfl, by omega, ho', HA, hstep, hb'⟩
            case measure => simp [intOf]; omega
          · have hcc : slC x (t % 64) = x / 2 ^ (64 - t % 64) := rfl
            rw [hcc] at hstep
            clear hcc ux
            generalize slW x C (t % 64) = y at *
            have t1 : decide ((t : Int) % 64 > 0) = true := by simp; omega
            have t2 : decide (0 < (t : Int) % 64) = true := by simp; omega
            go_wp2_with (at_builtin; refine wpList_append_own _ rfl _ _ 30 rfl w.heap.size 22 i_u64 (.int .u64 0) 1 8 Tryz.underlying30 hi_u64 hz0_u64 hz1_u64 hz2_u64 rfl (by decide) _ _ _ rfl (hown.row.alloc _) ⟨wr.heap.size, 0, none⟩ 1 1 [.int .u64 y] rfl rfl one_new one_cell (by unfold maxLen; omega) (by omega) (by simp; omega) ?_)
            intro v' w1 hown' hgrow _
            have hb' := grow_below hsz hown.row hnx hgrow
            have ho' := own_next hown' (by omega)
            have hcx1 := hcx _ hb'
            clear hown' hgrow hown hnx hcx hcx0
            go_wp2
            go_roundw
            case rel => exact ⟨k + 1, _, _, _, by go_num, rfl, by omega, ho', HA, hstep, hb'⟩
            case measure => simp [intOf]; omega
        · have ek : k = xs.length := by rw [LX.out]; omega
          rw [ek] at hinv
          obtain ⟨hws, hnum⟩ := HD hinv
          rw [← HK.out, ← HL.out] at hws hnum
          have HN : Hid (num (L ++ [C]) = num xs * 2 ^ t) := hnum
          clear hinv hnum ek hC hr1 HD
          go_wp2_with (at_builtin; refine wpList_append_own _ rfl _ _ 30 rfl w.heap.size 22 i_u64 (.int .u64 0) 1 8 Tryz.underlying30 hi_u64 hz0_u64 hz1_u64 hz2_u64 rfl (by decide) _ _ _ rfl (hown.row.alloc _) ⟨wr.heap.size, 0, none⟩ 1 1 [.int .u64 C] rfl rfl one_new one_cell (by unfold maxLen; omega) (by omega) (by simp; omega) ?_)
          intro v' w1 hown' hgrow _
          have hb' := grow_below hsz hown.row hnx hgrow
          have ho' := own_next hown' (by omega)
          obtain ⟨va, vc, rfl, hvr⟩ := ho'.readsC
          have hl5 : (L ++ [C]).length = q + k + 1 := by simp [hLl]
          rw [hl5] at hvr ⊢
          have cn := ref3Norm_any (cap := vc) hvr.1 hws (by omega)
          rw [HN.out] at cn
          clear hown' hgrow hown hnx ho' hvr hl5
          go_wp2_with fail
          refine cn.mono ?_
          rintro e w2 ⟨o, rfl, ho, hb2⟩
          have ho2 := ho.wider hb'.size
          have hB := hb'.trans (hb2.mono hb'.size)
          clear cn ho
          go_wp2
          go_ret
          exact ⟨_, rfl, ho2, hB⟩
end Go.Proofs.YtceecgklgkiffaaGreatDoor


import Derived.Test.YtfnpigkiookejabDoorBaseB
import Derived.BigRegion
/- plumbref03: Norm, at, Word; plumblaw03: lent, kept. -/
namespace Go.Proofs.YtfnpigkiookejabDoor
open Go.ChangeShapes Go.WideShapes Go.ChangeAt Go.RowKit
open Na Ar
set_option linter.unusedVariables false
end Go.Proofs.YtfnpigkiookejabDoor

/- plumbref03: Bits. -/
namespace Go.Proofs.YtfnpigkiookejabDoor
open Go.ChangeShapes Go.WideShapes Go.ChangeAt Go.RowKit
open Na Ar
set_option linter.unusedVariables false
namespace Na
theorem lenW_half {v : Int} (h : U v) (h0 : v ≠ 0) : lenW v = lenW (v / 2) + 1 := by
  obtain ⟨k, hk, e, h1, h2⟩ := lenW_pos h h0
  rw [e]
  cases k with
  | zero =>
    have : v / 2 = 0 := by simp at h1 h2; omega
    rw [this, lenW_zero]; rfl
  | succ k =>
    have e1 : (2 : Int) ^ (k + 1) = 2 * 2 ^ k := by rw [Int.pow_succ, Int.mul_comm]
    have e2 : (2 : Int) ^ (k + 1 + 1) = 2 * 2 ^ (k + 1) := by rw [Int.pow_succ, Int.mul_comm]
    rw [lenW_eq (x := v / 2) (k := k) (by omega) (by omega)]
    omega
theorem take_zero_end {xs : List Int} {j : Nat} (hj : j < xs.length) (h : xs.getD j 0 = 0) : num (xs.take (j + 1)) = num (xs.take j) := by
  have t : num (xs.take (j + 1)) = num (xs.take j) + 18446744073709551616 ^ j * xs.getD j 0 := take_valB hj
  rw [t, h, Int.mul_zero, Int.add_zero]
theorem bits_at {xs : List Int} {j : Nat} (hx : Ws xs) (hj : j < xs.length) (h : xs.getD j 0 ≠ 0) : bitsN (num (xs.take (j + 1))) = 64 * (j : Int) + lenW (xs.getD j 0) := by
  have g := hx.getAnyB j
  obtain ⟨k, hk, e, h1, h2⟩ := lenW_pos (x := xs.getD j 0) g h
  rw [take_next hj, bits_word (hx.take j) h1 h2, List.length_take, Nat.min_eq_left (by omega), e]
  omega
end Na
set_option maxHeartbeats 1600000 in
set_option maxRecDepth 100000 in
theorem ref3Bits_any {a : Option Addr} {n cap : Nat} {xs : List Int} {w : World} (hrow : RowAt .u64 w a n xs) (hx : Ws xs) (hn : n ≤ 12000000) :
    Calls Tryd.prog 40 #[.slice a n cap] w fun e w' => e = .returned (.int .i64 (bitsN (num xs))) ∧ w = w' := by
  have hlen := hrow.1
  go_enter Tryd.func40, Tryd.ntmps40
  go_wp2
  go_loop [3, 4, 5] (fun i _ _ => ∃ (k : Nat) (I : Int), i = .int .i64 I ∧ I = (k : Int) - 1 ∧ k ≤ n ∧ Hid (num xs = num (xs.take k))) (fun i _ _ => (intOf i + 1).toNat)
  case atStart => exact ⟨n, _, rfl, rfl, Nat.le_refl _, (by rw [List.take_of_length_le (by omega)] : num xs = num (xs.take n))⟩
  case round =>
    obtain ⟨k, I, rfl, hI, hk, hs⟩ := hrel
    cases k with
    | zero =>
      have HZ : Hid (bitsN (num xs) = 0) := by
        show _ = _
        rw [hs.out, List.take_zero]; rfl
      have hneg : I < 0 := by omega
      clear hI
      go_wp2
      go_ret
      exact ⟨by rw [HZ.out]; rfl, rfl⟩
    | succ j =>
      have hI' : I = (j : Int) := by omega
      clear hI
      subst hI'
      obtain ⟨b, off, rfl, hbB, hc⟩ := hrow.at (by omega)
      have hcx := hc j (by omega)
      have gx : U (xs.getD j 0) := hx.getAnyB j
      by_cases h0 : xs.getD j 0 = 0
      · have HZ : Hid (num xs = num (xs.take j)) := by show _ = _; rw [hs.out, take_zero_end (by omega) h0]
        have t0 : ¬ 0 < xs.getD j 0 := by omega
        generalize xs.getD j 0 = x at *
        clear hc hrow h0
        go_wp2
        go_round
        case rel => exact ⟨j, _, rfl, by omega, by omega, HZ⟩
        case measure => simp [intOf]
      · have HB : Hid (bitsN (num xs) = 64 * (j : Int) + lenW (xs.getD j 0)) := by show _ = _; rw [hs.out, bits_at hx (by omega) h0]
        have t0 : 0 < xs.getD j 0 := by unfold U at gx; omega
        have hlb := lenW_bd gx
        generalize xs.getD j 0 = x at *
        clear hc hrow h0
        go_wp2
        go_loop [4, 5] (fun c v => ∃ (C V : Int), c = .int .i64 C ∧ v = .int .u64 V ∧ U V ∧ C + lenW V = 64 * (j : Int) + lenW x ∧ 64 * (j : Int) ≤ C) (fun _ v => (intOf v).toNat)
        case atStart => exact ⟨_, x, rfl, rfl, gx, rfl, Int.le_refl _⟩
        case round =>
          obtain ⟨C, V, rfl, rfl, hV, hCV, hC0⟩ := hrel
          have hVb := lenW_bd hV
          by_cases hz : V = 0
          · subst hz
            rw [lenW_zero, Int.add_zero] at hCV
            have HE : Hid (C = bitsN (num xs)) := by show _ = _; rw [HB.out]; exact hCV
            clear hCV
            go_wp2
            go_ret
            exact ⟨by rw [← HE.out]; rfl, rfl⟩
          · have hl := lenW_half hV hz
            have hVp : 0 < V := by unfold U at hV; omega
            have hV2 : U (V / 2) := by unfold U at *; omega
            have hN : C + 1 + lenW (V / 2) = 64 * (j : Int) + lenW x := by omega
            have hC9 : C ≤ 1000000000 := by omega
            have HN : Hid (C + 1 + lenW (V / 2) = 64 * (j : Int) + lenW x) := hN
            unfold U at hV
            clear hl hN hCV
            go_wp2
            go_round
            case rel => exact ⟨C + 1, V / 2, rfl, rfl, hV2, HN.out, by omega⟩
            case measure => simp [intOf]; omega
end Go.Proofs.YtfnpigkiookejabDoor

/- plumbref03: at, Cmp. -/
namespace Go.Proofs.YtfnpigkiookejabDoor
open Go.ChangeShapes Go.WideShapes Go.ChangeAt Go.RowKit
open Na Ar
set_option linter.unusedVariables false
namespace Na
/-- filled up by zeros -/
def pad (xs : List Int) (N : Nat) : List Int := xs ++ List.replicate (N - xs.length) 0
theorem pad_length {xs : List Int} {N : Nat} (h : xs.length ≤ N) : (pad xs N).length = N := by unfold pad; simp; omega
theorem pad_num (xs : List Int) (N : Nat) : num (pad xs N) = num xs := by
  unfold pad num
  rw [val_append, val_zeros, Int.mul_zero, Int.add_zero]
theorem pad_ws {xs : List Int} (h : Ws xs) (N : Nat) : Ws (pad xs N) := h.append (Dg_zeros (by omega) _)
theorem pad_get (xs : List Int) (N i : Nat) : (pad xs N).getD i 0 = xs.getD i 0 := by
  unfold pad
  by_cases h : i < xs.length
  · simp [List.getD_eq_getElem?_getD, List.getElem?_append_left h]
  · rw [getD_out (xs := xs) (by omega), List.getD_eq_getElem?_getD, List.getElem?_append_right (by omega), List.getElem?_replicate]
    split <;> rfl
theorem pad_drop {xs ys : List Int} {N j : Nat} (h1 : xs.length ≤ N) (h2 : ys.length ≤ N) (h : ∀ t, j ≤ t → xs.getD t 0 = ys.getD t 0) : (pad xs N).drop j = (pad ys N).drop j := by
  apply List.ext_getElem?
  intro i
  rw [List.getElem?_drop, List.getElem?_drop]
  by_cases hi : j + i < N
  · have a := pad_get xs N (j + i)
    have b := pad_get ys N (j + i)
    rw [List.getD_eq_getElem?_getD, List.getElem?_eq_getElem (by rw [pad_length h1]; exact hi)] at a
    rw [List.getD_eq_getElem?_getD, List.getElem?_eq_getElem (by rw [pad_length h2]; exact hi)] at b
    rw [List.getElem?_eq_getElem (by rw [pad_length h1]; exact hi), List.getElem?_eq_getElem (by rw [pad_length h2]; exact hi)]
    simp only [Option.getD_some] at a b
    rw [a, b, h (j + i) (by omega)]
  · rw [List.getElem?_eq_none (by rw [pad_length h1]; omega), List.getElem?_eq_none (by rw [pad_length h2]; omega)]
theorem pad_lt {xs ys : List Int} {N j : Nat} (hx : Ws xs) (hy : Ws ys) (h1 : xs.length ≤ N) (h2 : ys.length ≤ N) (hj : j < N) (h : ∀ t, j + 1 ≤ t → xs.getD t 0 = ys.getD t 0) (hl : xs.getD j 0 < ys.getD j 0) : num xs < num ys := by
  rw [← pad_num xs N, ← pad_num ys N]
  exact word_lt (pad_ws hx N) (pad_ws hy N) (by rw [pad_length h1]; exact hj) (by rw [pad_length h2]; exact hj) (pad_drop h1 h2 h) (by rw [pad_get, pad_get]; exact hl)
theorem pad_eq {xs ys : List Int} (N : Nat) (h1 : xs.length ≤ N) (h2 : ys.length ≤ N) (h : ∀ t, xs.getD t 0 = ys.getD t 0) : num xs = num ys := by
  rw [← pad_num xs N, ← pad_num ys N]
  have := pad_drop (j := 0) h1 h2 (fun t _ => h t)
  rw [List.drop_zero, List.drop_zero] at this
  rw [this]
end Na
end Go.Proofs.YtfnpigkiookejabDoor

/- plumblaw03: lent, kept. -/
namespace Go.Proofs.YtfnpigkiookejabDoor
open Go.ChangeShapes Go.WideShapes Go.ChangeAt Go.RowKit
open Na Ar
set_option linter.unusedVariables false
theorem row_news {w : World} {b off n : Nat} {xs : List Int} (hl : xs.length = n) (hc : ∀ i, i < n → w.cell? ⟨b, off + i, none⟩ = some (.int .u64 (xs.getD i 0))) : ∀ j u, (xs.map (Value.int .u64))[j]? = some u → w.cell? ((⟨b, off, none⟩ : Addr).add j) = some u := by
  intro j u hj
  have hjl : j < xs.length := by
    by_cases q : j < xs.length
    · exact q
    · rw [List.getElem?_eq_none (by simp; omega)] at hj; simp at hj
  have ea : (⟨b, off, none⟩ : Addr).add j = ⟨b, off + j, none⟩ := by
    unfold Addr.add
    by_cases hi0 : j = 0
    · subst hi0; simp
    · simp [hi0]
  rw [ea, hc j (by omega), ← hj]
  simp [List.getElem?_eq_getElem hjl, List.getD_eq_getElem?_getD]
theorem ints_one {xs : List Int} : ∀ u ∈ xs.map (Value.int .u64), u.oneCell' = true := by
  intro u hu
  simp only [List.mem_map] at hu
  obtain ⟨x, _, rfl⟩ := hu
  rfl
theorem own_more {w1 : World} {base : Nat} {e : TypeId} {v : Value} {n m : Nat} {xs ys : List Int} (h : w1.ownsRow base e 1 v (n + m) (xs.map (Value.int .u64) ++ ys.map (Value.int .u64))) (hn : n = xs.length) (hm : m = ys.length) : Own .u64 w1 base e v (xs ++ ys) := by
  subst hn hm; unfold Own; rw [List.map_append, List.length_append]; exact h
theorem two_new {wr : World} {e : TypeId} {v u : Value} : ∀ j x, ([v, u] : List Value)[j]? = some x → (wr.alloc (.cells #[v, u] e)).cell? ((⟨wr.heap.size, 0, none⟩ : Addr).add j) = some x := by
  intro j x hj
  match j, hj with
  | 0, hj => simp at hj; subst hj; simp [Addr.add]
  | 1, hj => simp at hj; subst hj; simp [Addr.add]
theorem two_cell {k : IntKind} {x y : Int} : ∀ u ∈ [Value.int k x, Value.int k y], u.oneCell' = true := by
  intro u hu
  simp at hu
  rcases hu with rfl | rfl <;> rfl
end Go.Proofs.YtfnpigkiookejabDoor

/- plumbref03: Mul: halves of words. -/
namespace Go.Proofs.YtfnpigkiookejabDoor
open Go.ChangeShapes Go.WideShapes Go.ChangeAt Go.RowKit
open Na Ar
set_option linter.unusedVariables false
theorem Own.stays {k : IntKind} {w w' : World} {base g n cap m : Nat} {e : TypeId} {xs : List Int} (h : Own k w base e (.slice (some ⟨g, 0, none⟩) n cap) xs) (hb : Below m w w') (hg : g < m) : Own k w' base e (.slice (some ⟨g, 0, none⟩) n cap) xs := by
  obtain ⟨h1, h2⟩ := h
  refine ⟨h1, ?_⟩
  rcases h2 with h2 | ⟨g2, c, cur, hv, hb2, hc, r⟩
  · exact Or.inl h2
  · refine Or.inr ⟨g2, c, cur, hv, hb2, ?_, r⟩
    simp only [Value.slice.injEq, Option.some.injEq, Addr.mk.injEq] at hv
    rw [hb.block g2 (by omega)]; exact hc
namespace Na
/-- each word by its halves -/
def halves : List Int → List Int
  | [] => []
  | x :: xs => x % 4294967296 :: x / 4294967296 :: halves xs
theorem halves_length (xs : List Int) : (halves xs).length = 2 * xs.length := by
  induction xs with
  | nil => rfl
  | cons x xs ih => simp [halves, ih]; omega
theorem halves_dg {xs : List Int} (h : Ws xs) : Dg 4294967296 (halves xs) := by
  induction xs with
  | nil => exact Dg.nil _
  | cons x xs ih =>
    have hx := h x (by simp)
    have hs : Ws xs := fun y hy => h y (by simp [hy])
    intro y hy
    simp only [halves, List.mem_cons] at hy
    rcases hy with rfl | rfl | hy
    · omega
    · omega
    · exact ih hs y hy
theorem halves_val (xs : List Int) : val 4294967296 (halves xs) = num xs := by
  induction xs with
  | nil => rfl
  | cons x xs ih =>
    have e : val 4294967296 (halves (x :: xs)) = x % 4294967296 + 4294967296 * (x / 4294967296 + 4294967296 * val 4294967296 (halves xs)) := rfl
    have e2 : num (x :: xs) = x + 18446744073709551616 * num xs := rfl
    rw [e, e2, ih]
    generalize num xs = N
    omega
theorem halves_get {xs : List Int} (h : Ws xs) (k : Nat) : (halves xs).getD k 0 = (if k % 2 = 0 then xs.getD (k / 2) 0 % 4294967296 else xs.getD (k / 2) 0 / 4294967296) := by
  induction xs generalizing k with
  | nil => simp [halves]
  | cons x xs ih =>
    have hs : Ws xs := fun y hy => h y (by simp [hy])
    match k with
    | 0 => rfl
    | 1 => rfl
    | k + 2 =>
      have e : (halves (x :: xs)).getD (k + 2) 0 = (halves xs).getD k 0 := rfl
      have e2 : (k + 2) / 2 = k / 2 + 1 := by omega
      have e3 : (k + 2) % 2 = k % 2 := by omega
      rw [e, ih hs, e2, e3]
      rfl
theorem put_half {us : List Int} {j : Nat} {c p lo hi : Int} (hj : j < us.length) (e : us.getD j 0 + p + c = lo + 4294967296 * hi) :
    val 4294967296 (us.set j lo) + 4294967296 ^ (j + 1) * hi = val 4294967296 us + 4294967296 ^ j * c + 4294967296 ^ j * p := by
  rw [val_set _ hj, Int.pow_succ]
  generalize val 4294967296 us = V
  generalize (4294967296 : Int) ^ j = P
  generalize us.getD j 0 = u at *
  have : lo = u + p + c - 4294967296 * hi := by omega
  subst this
  grind
def hfLo (x y u d : Int) : Int := (x * y + u + d) % 4294967296
def hfHi (x y u d : Int) : Int := (x * y + u + d) / 4294967296
theorem hf_bd {x y u d : Int} (hx : 0 ≤ x ∧ x < 4294967296) (hy : 0 ≤ y ∧ y < 4294967296) (hu : 0 ≤ u ∧ u < 4294967296) (hd : 0 ≤ d ∧ d < 4294967296) : (0 ≤ x * y + u + d ∧ x * y + u + d < 18446744073709551616) ∧ 0 ≤ x * y ∧ (0 ≤ hfHi x y u d ∧ hfHi x y u d < 4294967296) := by
  have m0 : 0 ≤ x * y := Int.mul_nonneg hx.1 hy.1
  have m1 : x * y ≤ 4294967295 * 4294967295 := Int.mul_le_mul (by omega) (by omega) hy.1 (by omega)
  unfold hfHi
  generalize x * y = z at *
  omega
def HimI (ds ys : List Int) (o : Nat) (x : Int) (k : Nat) (d : Int) (us : List Int) : Prop := Dg 4294967296 us ∧ us.length = ds.length ∧ (0 ≤ d ∧ d < 4294967296) ∧ us.drop (o + ys.length) = ds.drop (o + ys.length) ∧
  val 4294967296 us + 4294967296 ^ (o + k) * d = val 4294967296 ds + 4294967296 ^ o * (x * val 4294967296 (ys.take k))
theorem himI_start {ds ys : List Int} {o : Nat} {x : Int} (h : Dg 4294967296 ds) : HimI ds ys o x 0 0 ds := ⟨h, rfl, by omega, rfl, by simp [val]⟩
theorem himI_step {ds ys us : List Int} {o k : Nat} {x d : Int} (h : HimI ds ys o x k d us) (hy : Dg 4294967296 ys) (hx : 0 ≤ x ∧ x < 4294967296) (hk : k < ys.length) (ho : o + k < us.length) :
    HimI ds ys o x (k + 1) (hfHi x (ys.getD k 0) (us.getD (o + k) 0) d) (us.set (o + k) (hfLo x (ys.getD k 0) (us.getD (o + k) 0) d)) := by
  obtain ⟨h1, h2, h3, h4, h5⟩ := h
  have gu := h1.get ho
  have gy := hy.get hk
  have bd := hf_bd hx ⟨gy.1, gy.2⟩ ⟨gu.1, gu.2⟩ h3
  refine ⟨h1.set _ (by unfold hfLo; omega), by rw [List.length_set]; exact h2, bd.2.2, ?_, ?_⟩
  · rw [List.drop_set_of_lt (by omega)]; exact h4
  · have e : us.getD (o + k) 0 + x * ys.getD k 0 + d = hfLo x (ys.getD k 0) (us.getD (o + k) 0) d + 4294967296 * hfHi x (ys.getD k 0) (us.getD (o + k) 0) d := by
      unfold hfLo hfHi
      generalize x * ys.getD k 0 = z
      omega
    have p := put_half (j := o + k) (c := d) (p := x * ys.getD k 0) ho e
    rw [← Nat.add_assoc, p, h5, take_valB hk, Int.pow_add]
    generalize (4294967296 : Int) ^ o = P
    generalize (4294967296 : Int) ^ k = Q
    generalize val 4294967296 (ys.take k) = V
    generalize ys.getD k 0 = y
    grind
/-- behind i halves of the first -/
def HomI (xs ys : List Int) (i : Nat) (ds : List Int) : Prop := Dg 4294967296 ds ∧ ds.length = xs.length + ys.length + 1 ∧ (∀ j, i + ys.length ≤ j → ds.getD j 0 = 0) ∧ val 4294967296 ds = val 4294967296 (xs.take i) * val 4294967296 ys
theorem homI_start (xs ys : List Int) : HomI xs ys 0 (List.replicate (xs.length + ys.length + 1) 0) :=
  ⟨Dg_zeros (by omega) _, by simp, fun j _ => by rw [List.getD_eq_getElem?_getD, List.getElem?_replicate]; split <;> rfl, by rw [val_zeros]; simp [val]⟩
theorem himI_above {ds ys us : List Int} {o : Nat} {x d : Int} {k : Nat} (h : HimI ds ys o x k d us) {j : Nat} (hj : o + ys.length ≤ j) : us.getD j 0 = ds.getD j 0 := by
  have e := h.2.2.2.1
  have e2 : (us.drop (o + ys.length)).getD (j - (o + ys.length)) 0 = (ds.drop (o + ys.length)).getD (j - (o + ys.length)) 0 := by rw [e]
  simp only [List.getD_eq_getElem?_getD, List.getElem?_drop] at e2 ⊢
  have e3 : o + ys.length + (j - (o + ys.length)) = j := by omega
  rw [e3] at e2
  exact e2
theorem homI_step {xs ys ds us : List Int} {i : Nat} {d : Int} (h : HomI xs ys i ds) (hi : i < xs.length) (hin : HimI ds ys i (xs.getD i 0) ys.length d us) :
    us.getD (i + ys.length) 0 = 0 ∧ HomI xs ys (i + 1) (us.set (i + ys.length) d) := by
  obtain ⟨h1, h2, h3, h4⟩ := h
  have z : us.getD (i + ys.length) 0 = 0 := by rw [himI_above hin (Nat.le_refl _)]; exact h3 _ (Nat.le_refl _)
  have ab := fun j (q : i + ys.length ≤ j) => himI_above hin q
  obtain ⟨g1, g2, g3, g4, g5⟩ := hin
  refine ⟨z, g1.set _ g3, by rw [List.length_set, g2]; exact h2, fun j hj => ?_, ?_⟩
  · have e : (us.set (i + ys.length) d).getD j 0 = us.getD j 0 := by
      simp only [List.getD_eq_getElem?_getD]
      rw [List.getElem?_set_ne (by omega)]
    rw [e, ab j (by omega)]
    exact h3 j (by omega)
  · rw [val_set _ (by omega), z, take_valB hi]
    rw [List.take_length, h4] at g5
    have e : (4294967296 : Int) ^ (i + ys.length) * (d - 0) = 4294967296 ^ (i + ys.length) * d := by simp
    rw [e, g5]
    generalize (4294967296 : Int) ^ i = P
    generalize val 4294967296 (xs.take i) = V
    generalize val 4294967296 ys = Y
    generalize xs.getD i 0 = x
    grind
end Na
end Go.Proofs.YtfnpigkiookejabDoor

/- plumbref03: DivMod, bit by bit: what holds on the way. -/
namespace Go.Proofs.YtfnpigkiookejabDoor
open Go.ChangeShapes Go.WideShapes Go.ChangeAt Go.RowKit
open Na Ar
set_option linter.unusedVariables false
namespace Na
theorem getD_num {xs : List Int} (h : Ws xs) (j : Nat) : xs.getD j 0 = num xs / 18446744073709551616 ^ j % 18446744073709551616 := by
  by_cases hj : j < xs.length
  · rw [← num_drop h (Nat.le_of_lt hj)]
    have e : num (xs.drop j) = xs.getD j 0 + 18446744073709551616 * num (xs.drop (j + 1)) := val_drop hj
    have g : U (xs.getD j 0) := h.get hj
    unfold U at g
    rw [e, Int.add_mul_emod_self_left, Int.emod_eq_of_lt g.1 g.2]
  · have e : xs.getD j 0 = 0 := by rw [List.getD_eq_getElem?_getD, List.getElem?_eq_none (by omega)]; rfl
    have l : num xs < 18446744073709551616 ^ xs.length := val_lt (by omega) h
    have m : (18446744073709551616 : Int) ^ xs.length ≤ 18446744073709551616 ^ j := wpow_mono (by omega)
    rw [e, Int.ediv_eq_zero_of_lt (num_nonneg h) (by omega)]
    rfl
theorem bit_word {A : Int} {i : Nat} : A / 18446744073709551616 ^ (i / 64) % 18446744073709551616 / 2 ^ (i % 64) % 2 = A / 2 ^ i % 2 := by
  rw [← div_shift A i]
  generalize A / 18446744073709551616 ^ (i / 64) = Y
  have s := pow_split (show i % 64 ≤ 64 by omega)
  have hk : i % 64 < 64 := Nat.mod_lt _ (by omega)
  generalize i % 64 = k at *
  have p := p2pos k
  have d := Int.mul_ediv_add_emod Y 18446744073709551616
  have e : (2 : Int) ^ (64 - k) = 2 * 2 ^ (63 - k) := by rw [show 64 - k = (63 - k) + 1 by omega, Int.pow_succ]; omega
  have f : Y = Y % 18446744073709551616 + 2 ^ k * (2 * (2 ^ (63 - k) * (Y / 18446744073709551616))) := by
    have : (2 : Int) ^ k * (2 * (2 ^ (63 - k) * (Y / 18446744073709551616))) = 18446744073709551616 * (Y / 18446744073709551616) := by
      rw [← s, e]; grind
    rw [this]; omega
  generalize Y % 18446744073709551616 = y at *
  rw [f, Int.add_mul_ediv_left _ _ (by omega), Int.add_mul_emod_self_left]
/-- the rest doubled and a bit behind it: k words done, c carried -/
def DblI (ds : List Int) (c0 : Int) (k : Nat) (c : Int) (us : List Int) : Prop := Ws us ∧ us.length = ds.length ∧ (c = 0 ∨ c = 1) ∧ us.drop k = ds.drop k ∧
  num us + 18446744073709551616 ^ k * c = num ds + num (ds.take k) + c0
theorem dblI_start {ds : List Int} {c0 : Int} (h : Ws ds) (hc : c0 = 0 ∨ c0 = 1) : DblI ds c0 0 c0 ds := ⟨h, rfl, hc, rfl, by simp [num, val]⟩
def dblW (v c : Int) : Int := v * 2 % 18446744073709551616 + c
def dblC (v : Int) : Int := v / 9223372036854775808
theorem dblC_01 {v : Int} (h : U v) : dblC v = 0 ∨ dblC v = 1 := by unfold U at h; unfold dblC; omega
theorem dblI_step {ds us : List Int} {c0 c : Int} {k : Nat} (h : DblI ds c0 k c us) (hk : k < us.length) : DblI ds c0 (k + 1) (dblC (us.getD k 0)) (us.set k (dblW (us.getD k 0) c)) := by
  obtain ⟨h1, h2, h3, h4, h5⟩ := h
  have gu : U (us.getD k 0) := h1.get hk
  have ed : us.getD k 0 = ds.getD k 0 := getD_drop h4
  refine ⟨h1.set _ (by unfold dblW; unfold U at gu; omega), by rw [List.length_set]; exact h2, dblC_01 gu, ?_, ?_⟩
  · rw [List.drop_set_of_lt (by omega)]
    have := congrArg (List.drop 1) h4
    rw [List.drop_drop, List.drop_drop] at this
    exact this
  · have e : us.getD k 0 + us.getD k 0 + c = dblW (us.getD k 0) c + 18446744073709551616 * dblC (us.getD k 0) := by
      unfold dblW dblC; unfold U at gu; omega
    have p := put_word (j := k) (c := c) (p := us.getD k 0) hk e
    have t : num (ds.take (k + 1)) = num (ds.take k) + 18446744073709551616 ^ k * ds.getD k 0 := take_valB (by omega)
    rw [p, h5, t, ed]
    omega
theorem dblI_done {ds us : List Int} {c0 c : Int} (h : DblI ds c0 ds.length c us) (hb : 2 * num ds + c0 < 18446744073709551616 ^ ds.length) : Ws us ∧ us.length = ds.length ∧ num us = 2 * num ds + c0 := by
  obtain ⟨h1, h2, h3, h4, h5⟩ := h
  rw [List.take_of_length_le (Nat.le_refl _)] at h5
  have n0 := num_nonneg h1
  refine ⟨h1, h2, ?_⟩
  rcases h3 with rfl | rfl
  · omega
  · omega
/-- the divisor taken away: k words done, b borrowed -/
def SbI (ds vs : List Int) (k : Nat) (b : Int) (us : List Int) : Prop := Ws us ∧ us.length = ds.length ∧ (b = 0 ∨ b = 1) ∧ us.drop k = ds.drop k ∧
  num us + num (vs.take k) = num ds + 18446744073709551616 ^ k * b
theorem sbI_start {ds vs : List Int} (h : Ws ds) : SbI ds vs 0 0 ds := ⟨h, rfl, Or.inl rfl, rfl, by simp [num, val]⟩
def sbW (w v b : Int) : Int := (w - v - b) % 18446744073709551616
def sbB (w v b : Int) : Int := if w < v ∨ (w = v ∧ b = 1) then 1 else 0
theorem sbB_01 (w v b : Int) : sbB w v b = 0 ∨ sbB w v b = 1 := by unfold sbB; split <;> simp
theorem sb_eq {w v b : Int} (hw : U w) (hv : U v) (hb : b = 0 ∨ b = 1) : w - v - b = sbW w v b - 18446744073709551616 * sbB w v b := by
  unfold U at *
  unfold sbW sbB
  split <;> omega
theorem sbI_step {ds vs us : List Int} {b : Int} {k : Nat} (h : SbI ds vs k b us) (hv : Ws vs) (hk : k < us.length) (hkv : k < vs.length) : SbI ds vs (k + 1) (sbB (us.getD k 0) (vs.getD k 0) b) (us.set k (sbW (us.getD k 0) (vs.getD k 0) b)) := by
  obtain ⟨h1, h2, h3, h4, h5⟩ := h
  have gu : U (us.getD k 0) := h1.get hk
  have gv : U (vs.getD k 0) := hv.get hkv
  have e := sb_eq gu gv h3
  refine ⟨h1.set _ (by unfold sbW; omega), by rw [List.length_set]; exact h2, sbB_01 _ _ _, ?_, ?_⟩
  · rw [List.drop_set_of_lt (by omega)]
    have := congrArg (List.drop 1) h4
    rw [List.drop_drop, List.drop_drop] at this
    exact this
  · have t : num (vs.take (k + 1)) = num (vs.take k) + 18446744073709551616 ^ k * vs.getD k 0 := take_valB hkv
    have s : num (us.set k (sbW (us.getD k 0) (vs.getD k 0) b)) = num us + 18446744073709551616 ^ k * (sbW (us.getD k 0) (vs.getD k 0) b - us.getD k 0) := val_set _ hk
    rw [s, t, Int.pow_succ]
    generalize sbB (us.getD k 0) (vs.getD k 0) b = b' at *
    generalize sbW (us.getD k 0) (vs.getD k 0) b = lo at *
    generalize us.getD k 0 = w at *
    generalize vs.getD k 0 = v at *
    generalize (18446744073709551616 : Int) ^ k = P at *
    have e2 : lo = w - v - b + 18446744073709551616 * b' := by omega
    subst e2
    grind
theorem sbI_done {ds vs us : List Int} {b : Int} (h : SbI ds vs ds.length b us) (hl : vs.length = ds.length) (hle : num vs ≤ num ds) : Ws us ∧ us.length = ds.length ∧ num us = num ds - num vs := by
  obtain ⟨h1, h2, h3, h4, h5⟩ := h
  rw [List.take_of_length_le (by omega)] at h5
  have l : num us < 18446744073709551616 ^ us.length := val_lt (by omega) h1
  rw [h2] at l
  refine ⟨h1, h2, ?_⟩
  rcases h3 with rfl | rfl
  · omega
  · omega
theorem two_div (X : Int) (i : Nat) : X / 2 ^ i = 2 * (X / 2 ^ (i + 1)) + X / 2 ^ i % 2 := by
  have : X / 2 ^ (i + 1) = X / 2 ^ i / 2 := by rw [Int.pow_succ, Int.ediv_ediv_of_nonneg (Int.le_of_lt (p2pos i))]
  rw [this]; omega
/-- the bits from i on are divided -/
def DvO (X D : Int) (i : Nat) (q r : List Int) : Prop := Ws q ∧ Ws r ∧ num r = X / 2 ^ i % D ∧ num q = X / 2 ^ i / D * 2 ^ i
theorem dv_small {Y D c : Int} (hD : 0 < D) (hc : c = 0 ∨ c = 1) (h : 2 * (Y % D) + c < D) : (2 * Y + c) % D = 2 * (Y % D) + c ∧ (2 * Y + c) / D = 2 * (Y / D) := by
  have m0 := Int.emod_nonneg Y (show D ≠ 0 by omega)
  have d := Int.mul_ediv_add_emod Y D
  generalize Y % D = r at *
  generalize Y / D = q at *
  have e : 2 * Y + c = (2 * r + c) + D * (2 * q) := by rw [← d]; grind
  rw [e, Int.add_mul_emod_self_left, Int.add_mul_ediv_left _ _ (by omega), Int.emod_eq_of_lt (by omega) h, Int.ediv_eq_zero_of_lt (by omega) h]
  omega
theorem dv_great {Y D c : Int} (hD : 0 < D) (hc : c = 0 ∨ c = 1) (h : D ≤ 2 * (Y % D) + c) : (2 * Y + c) % D = 2 * (Y % D) + c - D ∧ (2 * Y + c) / D = 2 * (Y / D) + 1 := by
  have m0 := Int.emod_nonneg Y (show D ≠ 0 by omega)
  have m1 := Int.emod_lt_of_pos Y hD
  have d := Int.mul_ediv_add_emod Y D
  generalize Y % D = r at *
  generalize Y / D = q at *
  have e : 2 * Y + c = (2 * r + c - D) + D * (2 * q + 1) := by rw [← d]; grind
  rw [e, Int.add_mul_emod_self_left, Int.add_mul_ediv_left _ _ (by omega), Int.emod_eq_of_lt (by omega) (by omega), Int.ediv_eq_zero_of_lt (by omega) (by omega)]
  omega
theorem dvO_start {X D : Int} {n m l : Nat} (h0 : 0 ≤ X) (hX : X < 2 ^ n) : DvO X D n (List.replicate m 0) (List.replicate l 0) := by
  have e : X / 2 ^ n = 0 := Int.ediv_eq_zero_of_lt h0 hX
  refine ⟨Dg_zeros (by omega) _, Dg_zeros (by omega) _, ?_, ?_⟩
  · rw [e]; show val _ _ = _; rw [val_zeros]; simp
  · rw [e]; show val _ _ = _; rw [val_zeros]; simp
theorem dvO_less {X D : Int} {i : Nat} {q r us : List Int} (hD : 0 < D) (h : DvO X D (i + 1) q r) (hu : Ws us) (hn : num us = 2 * num r + X / 2 ^ i % 2) (hl : num us < D) : DvO X D i q us := by
  obtain ⟨h1, h2, h3, h4⟩ := h
  have hc : X / 2 ^ i % 2 = 0 ∨ X / 2 ^ i % 2 = 1 := by omega
  have t := two_div X i
  rw [h3] at hn
  have s := dv_small hD hc (by rw [← hn]; exact hl)
  rw [← t] at s
  refine ⟨h1, hu, by rw [hn, s.1], ?_⟩
  rw [h4, s.2, Int.pow_succ]; grind
theorem dvO_more {X D : Int} {i : Nat} {q r us q' r' : List Int} (hD : 0 < D) (h : DvO X D (i + 1) q r) (hn : num us = 2 * num r + X / 2 ^ i % 2) (hl : D ≤ num us) (hr : Ws r') (hrn : num r' = num us - D) (hq : Ws q') (hqn : num q' = num q + 2 ^ i) : DvO X D i q' r' := by
  obtain ⟨h1, h2, h3, h4⟩ := h
  have hc : X / 2 ^ i % 2 = 0 ∨ X / 2 ^ i % 2 = 1 := by omega
  have t := two_div X i
  rw [h3] at hn
  have s := dv_great hD hc (by rw [← hn]; exact hl)
  rw [← t] at s
  refine ⟨hq, hr, by rw [hrn, hn, s.1], ?_⟩
  rw [hqn, h4, s.2, Int.pow_succ]; grind
/-- the word into which bit i goes has none below that one, nor it -/
theorem dvO_free {X D : Int} {i : Nat} {q r : List Int} (h : DvO X D (i + 1) q r) : ∃ z, 0 ≤ z ∧ q.getD (i / 64) 0 = z * 2 ^ (i % 64 + 1) := by
  obtain ⟨h1, h2, h3, h4⟩ := h
  have g := getD_num h1 (i / 64)
  have gn : 0 ≤ num q / 18446744073709551616 ^ (i / 64) % 18446744073709551616 := Int.emod_nonneg _ (by omega)
  rw [h4] at g gn
  rw [g]
  generalize X / 2 ^ (i + 1) / D = Z at *
  have e1 : (2 : Int) ^ (i + 1) = 18446744073709551616 ^ (i / 64) * 2 ^ (i % 64 + 1) := by
    have : (18446744073709551616 : Int) ^ (i / 64) = 2 ^ (64 * (i / 64)) := by rw [Int.pow_mul]; rfl
    rw [this, ← Int.pow_add]; congr 1; omega
  have pp : 0 < (18446744073709551616 : Int) ^ (i / 64) := Int.pow_pos (by omega)
  have e2 : Z * 2 ^ (i + 1) / 18446744073709551616 ^ (i / 64) = Z * 2 ^ (i % 64 + 1) := by
    rw [e1]
    have : Z * (18446744073709551616 ^ (i / 64) * 2 ^ (i % 64 + 1)) = 18446744073709551616 ^ (i / 64) * (Z * 2 ^ (i % 64 + 1)) := by grind
    rw [this, Int.mul_ediv_cancel_left _ (by omega)]
  rw [e2] at gn ⊢
  have s := pow_split (show i % 64 + 1 ≤ 64 by omega)
  have p := p2pos (i % 64 + 1)
  generalize (2 : Int) ^ (i % 64 + 1) = P at *
  generalize (2 : Int) ^ (64 - (i % 64 + 1)) = Q at *
  have e3 : Z * P % 18446744073709551616 = Z % Q * P := by
    rw [← s, Int.mul_comm Z, Int.mul_comm Q, Int.mul_emod_mul_of_pos _ _ p, Int.mul_comm]
  rw [e3] at gn ⊢
  refine ⟨Z % Q, ?_, rfl⟩
  have q0 : Q ≠ 0 := by intro h; rw [h] at s; omega
  exact Int.emod_nonneg _ q0
theorem or_bit {W z : Int} {k : Nat} (hk : k < 64) (hW : U W) (h : W = z * 2 ^ (k + 1)) : bits .or .u64 W (2 ^ k) = W + 2 ^ k ∧ W + 2 ^ k < 18446744073709551616 := by
  have p := p2pos k
  have lt : (2 : Int) ^ k < 2 ^ (k + 1) := by rw [Int.pow_succ]; omega
  have o := or_parts (x := z) (y := 2 ^ k) (show k + 1 ≤ 64 by omega) (by omega) lt
  have w1 : IntKind.u64.wrap (z * 2 ^ (k + 1)) = W := by rw [wrapU, ← h]; unfold U at hW; exact Int.emod_eq_of_lt hW.1 hW.2
  have w2 : z * 2 ^ (k + 1) % 18446744073709551616 = W := by rw [← h]; unfold U at hW; exact Int.emod_eq_of_lt hW.1 hW.2
  rw [w1, w2] at o
  refine ⟨o, ?_⟩
  have s := pow_split (show k + 1 ≤ 64 by omega)
  unfold U at hW
  have pq := p2pos (64 - (k + 1))
  rw [Int.pow_succ] at h s
  generalize (2 : Int) ^ k = P at *
  generalize (2 : Int) ^ (64 - (k + 1)) = Q at *
  have hz : z < Q := by
    by_cases g : z < Q
    · exact g
    · have : Q * (P * 2) ≤ z * (P * 2) := Int.mul_le_mul_of_nonneg_right (by omega) (by omega)
      rw [s] at this
      omega
  have : (z + 1) * (P * 2) ≤ Q * (P * 2) := Int.mul_le_mul_of_nonneg_right (by omega) (by omega)
  rw [s, Int.add_mul] at this
  omega
theorem q_bit {q : List Int} {i : Nat} (h : Ws q) (hi : i / 64 < q.length) (hlt : q.getD (i / 64) 0 + 2 ^ (i % 64) < 18446744073709551616) : Ws (q.set (i / 64) (q.getD (i / 64) 0 + 2 ^ (i % 64))) ∧ num (q.set (i / 64) (q.getD (i / 64) 0 + 2 ^ (i % 64))) = num q + 2 ^ i := by
  have g : U (q.getD (i / 64) 0) := h.get hi
  have p := p2pos (i % 64)
  unfold U at g
  refine ⟨h.set _ (by omega), ?_⟩
  have s : num (q.set (i / 64) (q.getD (i / 64) 0 + 2 ^ (i % 64))) = num q + 18446744073709551616 ^ (i / 64) * (q.getD (i / 64) 0 + 2 ^ (i % 64) - q.getD (i / 64) 0) := val_set _ hi
  rw [s]
  have : (18446744073709551616 : Int) ^ (i / 64) = 2 ^ (64 * (i / 64)) := by rw [Int.pow_mul]; rfl
  have e : q.getD (i / 64) 0 + 2 ^ (i % 64) - q.getD (i / 64) 0 = 2 ^ (i % 64) := by omega
  rw [e, this, ← Int.pow_add]
  congr 2; omega
end Na
end Go.Proofs.YtfnpigkiookejabDoor

/- plumbref03.Bit, DivMod. -/
namespace Go.Proofs.YtfnpigkiookejabDoor
open Go.ChangeShapes Go.WideShapes Go.ChangeAt Go.RowKit
open Na Ar
set_option linter.unusedVariables false
theorem or_1bit {x t : Int} (ht : t = 0 ∨ t = 1) : bits .or .u64 (IntKind.u64.wrap (x * 2)) t = x * 2 % 18446744073709551616 + t := by
  have h := or_parts (x := x) (y := t) (k := 1) (by omega) (by omega) (by rw [Int.pow_one]; omega)
  rw [Int.pow_one] at h
  exact h
theorem wrap_p2 {k : Nat} (h : k < 64) : IntKind.u64.wrap (2 ^ k) = 2 ^ k := by
  rw [wrapU]
  have s := pow_split (show k ≤ 64 by omega)
  have p := p2pos k
  have q : (2 : Int) ^ (64 - k) = 2 * 2 ^ (63 - k) := by rw [show 64 - k = (63 - k) + 1 by omega, Int.pow_succ]; omega
  have r := p2pos (63 - k)
  refine Int.emod_eq_of_lt (by omega) ?_
  rw [q] at s
  have := Int.mul_le_mul_of_nonneg_right (show (2 : Int) ≤ 2 * 2 ^ (63 - k) by omega) (Int.le_of_lt p)
  omega
end Go.Proofs.YtfnpigkiookejabDoor

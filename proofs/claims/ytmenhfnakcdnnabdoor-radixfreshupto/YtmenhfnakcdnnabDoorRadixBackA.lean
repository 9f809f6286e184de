/- a number's text, read back. -/
import Derived.Test.YtmenhfnakcdnnabDoorRadixAll
namespace Go.Proofs.YtmenhfnakcdnnabDoor
open Go.ChangeShapes Go.WideShapes Go.ChangeAt Go.RowKit
open Na Ar
set_option linter.unusedVariables false
namespace Na
theorem val_dch {d : Int} (h0 : 0 ≤ d) (h1 : d < 36) : valN (dch d) = d := by
  unfold valN dch
  split
  · rw [if_pos (by omega)]; omega
  · rw [if_neg (by omega), if_pos (by omega)]; omega
/-- a capital for a small letter -/
def upc (z : Int) : Int := if 97 ≤ z ∧ z ≤ 122 then z - 32 else z
theorem val_upc {d : Int} (h0 : 0 ≤ d) (h1 : d < 36) : valN (upc (dch d)) = d := by
  unfold upc dch
  by_cases g : d < 10
  · rw [if_pos g, if_neg (by omega)]
    unfold valN
    rw [if_pos (by omega)]; omega
  · rw [if_neg g, if_pos (by omega)]
    unfold valN
    rw [if_neg (by omega), if_neg (by omega), if_pos (by omega)]; omega
theorem laid_get {b : Int} (hb : 2 ≤ b) (X : Int) (m : Nat) : ∀ i, i < m → (laidD b m X).getD i 0 = dch (X / b ^ (m - 1 - i) % b) := by
  induction m with
  | zero => intro i hi; omega
  | succ m ih =>
    intro i hi
    rw [laidD_cons hb]
    cases i with
    | zero => simp
    | succ i =>
      have := ih i (by omega)
      rw [List.getD_cons_succ, this, show m + 1 - 1 - (i + 1) = m - 1 - i by omega]
theorem bytes_dgt {s : ByteArray} {D : List Int} (h : s.data.toList = bytesOf D) (hD : ∀ x ∈ D, 48 ≤ x ∧ x ≤ 122) {i : Nat} (hi : i < D.length) : dgt s i = valN (D.getD i 0) := by
  unfold dgt
  rw [byte_list, h]
  have hm := hD (D.getD i 0) (by rw [List.getD_eq_getElem?_getD, List.getElem?_eq_getElem hi]; exact List.getElem_mem hi)
  have e : (bytesOf D).getD i 0 = UInt8.ofNat (D.getD i 0).toNat := by
    unfold bytesOf
    simp [List.getD_eq_getElem?_getD, List.getElem?_eq_getElem hi]
  rw [e, UInt8.toNat_ofNat']
  congr 1
  omega
theorem bytes_size {s : ByteArray} {D : List Int} (h : s.data.toList = bytesOf D) : s.size = D.length := by rw [Lib.size_eq, h]; unfold bytesOf; simp
/-- a text whose digits are X's -/
theorem digits_num {s : ByteArray} {X b : Int} {m : Nat} (hb : 2 ≤ b) (h0 : 0 ≤ X) (hX : X < b ^ m) (hd : ∀ i, i < m → dgt s i = X / b ^ (m - 1 - i) % b) : numB s b m = X := by
  have key : ∀ i, i ≤ m → numB s b i = X / b ^ (m - i) := by
    intro i
    induction i with
    | zero => intro _; rw [Nat.sub_zero, Int.ediv_eq_zero_of_lt h0 hX]; rfl
    | succ i ih =>
      intro hi
      show numB s b i * b + dgt s i = _
      rw [ih (by omega), hd i (by omega)]
      have e1 : m - i = (m - 1 - i) + 1 := by omega
      have e2 : m - (i + 1) = m - 1 - i := by omega
      rw [e1, e2, Int.pow_succ, ← Int.ediv_ediv_of_nonneg (Int.pow_nonneg (by omega))]
      generalize X / b ^ (m - 1 - i) = Y
      have := Int.mul_ediv_add_emod Y b
      rw [Int.mul_comm] at this
      exact this
  have := key m (Nat.le_refl _)
  rw [Nat.sub_self, Int.pow_zero, Int.ediv_one] at this
  exact this
theorem has_log {b X : Int} (hb : 2 ≤ b) (hX : 0 < X) : ∃ d : Nat, b ^ d ≤ X ∧ X < b ^ (d + 1) := by
  have ex : ∃ n : Nat, X < b ^ n := by
    refine ⟨X.toNat, ?_⟩
    have : ∀ n : Nat, (n : Int) < b ^ n := by
      intro n
      induction n with
      | zero => simp
      | succ n ih =>
        rw [Int.pow_succ]
        have := Int.mul_le_mul_of_nonneg_left hb (show 0 ≤ b ^ n by omega)
        omega
    have := this X.toNat
    omega
  obtain ⟨n, hn⟩ := ex
  induction n with
  | zero => simp at hn; omega
  | succ n ih =>
    by_cases g : X < b ^ n
    · exact ih g
    · exact ⟨n, by omega, hn⟩
theorem words_bits4096 {X : Int} (h : 0 ≤ X) : (words X).length ≤ 4096 ↔ bitsN X ≤ 262144 := by
  constructor
  · intro g
    have := bits_le (N := X) (k := 4096) h (by have := val_lt (B := 18446744073709551616) (by omega) (Dg_words X); rw [val_words h] at this; exact Int.lt_of_lt_of_le this (wpow_mono g))
    omega
  · intro g
    by_cases hz : X = 0
    · rw [hz]
      have z : words 0 = [] := dig_zero _
      rw [z]; simp
    · obtain ⟨β, hβ, b1, b2⟩ := bits_some (show 0 < X by omega)
      exact bits_words h b2 (by omega)
/-- what the text of X is, as digits -/
structure Digs (X b : Int) (D : List Int) : Prop where
  one : 1 ≤ D.length
  bd : ∀ x ∈ D, 48 ≤ x ∧ x ≤ 122
  lt : X < b ^ D.length
  get : ∀ i, i < D.length → D.getD i 0 = dch (X / b ^ (D.length - 1 - i) % b)
  top : D.getD 0 0 ≠ 48 ∨ D = [48]
theorem digs_laid {X b : Int} {d : Nat} (hb : 2 ≤ b) (hb9 : b ≤ 36) (h1 : b ^ d ≤ X) (h2 : X < b ^ (d + 1)) : Digs X b (laidD b (d + 1) X) := by
  have l := laidD_length b (d + 1) X
  have hpos : 0 < b ^ d := Int.pow_pos (by omega)
  refine ⟨by omega, laidD_bd hb hb9 _ _, by rw [l]; exact h2, fun i hi => ?_, Or.inl ?_⟩
  · rw [l] at hi ⊢; exact laid_get hb X (d + 1) i hi
  · rw [laid_get hb X (d + 1) 0 (by omega)]
    have e : d + 1 - 1 - 0 = d := by omega
    have q1 : 1 ≤ X / b ^ d := Int.le_ediv_of_mul_le hpos (by omega)
    have q2 : X / b ^ d < b := by
      refine Int.ediv_lt_of_lt_mul hpos ?_
      rw [Int.pow_succ] at h2
      rw [Int.mul_comm]; exact h2
    rw [e, Int.emod_eq_of_lt (by omega) q2]
    unfold dch
    split <;> omega
theorem digs_zero {b : Int} (hb : 2 ≤ b) : Digs 0 b [48] := by
  refine ⟨by simp, by simp, Int.pow_pos (by omega), fun i hi => ?_, Or.inr rfl⟩
  have : i = 0 := by simpa using hi
  subst this
  simp
  rfl
theorem digs_good {X b : Int} {D : List Int} {s : ByteArray} (h : Digs X b D) (hb : 2 ≤ b) (hb9 : b ≤ 36) (h0 : 0 ≤ X) (hs : s.data.toList = bytesOf D) : Good s b ∧ numB s b s.size = X ∧ s.size = D.length := by
  have hz := bytes_size hs
  have hd : ∀ i, i < D.length → dgt s i = X / b ^ (D.length - 1 - i) % b := fun i hi => by
    rw [bytes_dgt hs h.bd hi, h.get i hi]
    exact val_dch (Int.emod_nonneg _ (by omega)) (by have := Int.emod_lt_of_pos (X / b ^ (D.length - 1 - i)) (show 0 < b by omega); omega)
  refine ⟨⟨hb, hb9, by have := h.one; omega, fun i hi => ?_⟩, ?_, hz⟩
  · rw [hd i (by omega)]
    exact Int.emod_lt_of_pos _ (by omega)
  · rw [hz]; exact digits_num hb h0 h.lt hd
theorem digs_upper {X b : Int} {D : List Int} {s : ByteArray} (h : Digs X b D) (hb : 2 ≤ b) (hb9 : b ≤ 36) (h0 : 0 ≤ X) (hs : s.data.toList = bytesOf (D.map upc)) : (∀ i, i < s.size → dgt s i < b) ∧ numB s b s.size = X ∧ s.size = D.length := by
  have hz := bytes_size hs
  rw [List.length_map] at hz
  have hbd : ∀ x ∈ D.map upc, 48 ≤ x ∧ x ≤ 122 := by
    intro x hx
    obtain ⟨y, hy, rfl⟩ := List.mem_map.mp hx
    have := h.bd y hy
    unfold upc
    split <;> omega
  have hd : ∀ i, i < D.length → dgt s i = X / b ^ (D.length - 1 - i) % b := fun i hi => by
    have m := Int.emod_lt_of_pos (X / b ^ (D.length - 1 - i)) (show 0 < b by omega)
    rw [bytes_dgt hs hbd (by rw [List.length_map]; exact hi)]
    have e : (D.map upc).getD i 0 = upc (D.getD i 0) := by simp [List.getD_eq_getElem?_getD, List.getElem?_eq_getElem hi]
    rw [e, h.get i hi]
    exact val_upc (Int.emod_nonneg _ (by omega)) (by omega)
  refine ⟨fun i hi => ?_, ?_, hz⟩
  · rw [hd i (by omega)]
    exact Int.emod_lt_of_pos _ (by omega)
  · rw [hz]; exact digits_num hb h0 h.lt hd
theorem zeros_num {s : ByteArray} {b : Int} {k : Nat} (hb : 2 ≤ b) (hs : s.data.toList = bytesOf (List.replicate k 48)) : (∀ i, i < s.size → dgt s i < b) ∧ numB s b s.size = 0 ∧ s.size = k := by
  have hz := bytes_size hs
  rw [List.length_replicate] at hz
  have hb4 : ∀ j, j < k → s.get! j = 48 := fun j hj => by
    rw [byte_list, hs]
    unfold bytesOf
    simp [List.getD_eq_getElem?_getD, hj]
  refine ⟨fun i hi => ?_, ?_, hz⟩
  · rw [dgt_zero (hb4 i (by omega))]; omega
  · rw [hz]; exact numB_zeros hb4
theorem app_good {z u : ByteArray} {b X : Int} {k : Nat} (hb : 2 ≤ b) (hb9 : b ≤ 36) (hz : (∀ i, i < z.size → dgt z i < b) ∧ numB z b z.size = 0 ∧ z.size = k) (hu : (∀ i, i < u.size → dgt u i < b) ∧ numB u b u.size = X) (hpos : 0 < u.size) : Good (z ++ u) b ∧ numB (z ++ u) b (z ++ u).size = X := by
  refine ⟨⟨hb, hb9, by rw [app_size]; omega, fun i hi => ?_⟩, ?_⟩
  · rw [app_size] at hi
    by_cases g : i < z.size
    · rw [app_left z u g]; exact hz.1 i g
    · have := app_right z u (i - z.size)
      rw [show z.size + (i - z.size) = i by omega] at this
      rw [this]; exact hu.1 _ (by omega)
  · rw [app_num, hz.2.1, hu.2]; simp
end Na
/-- Text of any number that is not too long -/
theorem text_digs {a : Option Addr} {n c1 : Nat} {xs : List Int} {b : Int} {w : World} (hx : RowC w a n c1 xs) (hw : Ws xs) (hn : n ≤ 4000000) (hb : 2 ≤ b) (hb9 : b ≤ 36) (hl : (words (num xs)).length ≤ 4096) :
    Calls Tryd.prog 18 #[.slice a n c1, .int .i64 b] w fun e w' => ∃ (t : ByteArray) (D : List Int), e = .returned (.tuple #[.string t, .int .i64 0]) ∧ t.data.toList = bytesOf D ∧ Digs (num xs) b D ∧ Below w.heap.size w w' := by
  have h0 := num_nonneg hw
  by_cases hz : num xs = 0
  · refine (textZero_any hx hw hn hb hb9 hz).mono ?_
    rintro e w' ⟨rfl, hB⟩
    exact ⟨_, [48], rfl, rfl, by rw [hz]; exact digs_zero hb, hB⟩
  · refine (text_any hx hw hn hb hb9 hl (by omega)).mono ?_
    rintro e w' ⟨t, rfl, ht, hB⟩
    obtain ⟨d, d1, d2⟩ := has_log hb (show 0 < num xs by omega)
    exact ⟨t, _, rfl, text_bytes ht hb hb9 d1 d2, digs_laid hb hb9 d1 d2, hB⟩
set_option maxHeartbeats 1600000 in
set_option maxRecDepth 100000 in
theorem textBad_any {a : Option Addr} {n c1 : Nat} {xs : List Int} {b : Int} {w : World} (hx : RowC w a n c1 xs) (hw : Ws xs) (hn : n ≤ 4000000) (h : ¬ (2 ≤ b ∧ b ≤ 36) ∨ 4096 < (words (num xs)).length) :
    Calls Tryd.prog 18 #[.slice a n c1, .int .i64 b] w fun e w' => ∃ c : Int, e = .returned (.tuple #[.string ⟨#[]⟩, .int .i64 c]) ∧ (c = 40 ∨ c = 21) ∧ Below w.heap.size w w' := by
  have kc := known_any b w
  by_cases hb : 2 ≤ b ∧ b ≤ 36
  · have hbig := h.resolve_left (fun q => q hb)
    have hk : knownB b = true := by unfold knownB; simp; omega
    rw [hk] at kc
    have tc := trim_any hx hw hn
    generalize (words (num xs)).length = L at *
    clear h
    go_enter Tryd.func18, Tryd.ntmps18
    go_wp2_with fail
    refine kc.mono ?_
    rintro e w' ⟨rfl, rfl⟩
    go_wp2_with fail
    refine tc.mono ?_
    rintro e w' ⟨rfl, _, _, _, rfl⟩
    clear tc kc
    go_wp2
    go_ret2
    exact ⟨21, rfl, Or.inr rfl, Below.refl _ _⟩
  · have hk : knownB b = false := by unfold knownB; simp; omega
    rw [hk] at kc
    clear h
    go_enter Tryd.func18, Tryd.ntmps18
    go_wp2_with fail
    refine kc.mono ?_
    rintro e w' ⟨rfl, rfl⟩
    clear kc
    go_wp2
    go_ret2
    exact ⟨40, rfl, Or.inl rfl, Below.refl _ _⟩
end Go.Proofs.YtmenhfnakcdnnabDoor

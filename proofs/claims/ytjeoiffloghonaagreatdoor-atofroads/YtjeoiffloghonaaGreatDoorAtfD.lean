/- package atof: shortened: the numbers. -/
import Derived.Test.YtjeoiffloghonaaGreatDoorAtfB
namespace Go.Proofs.YtjeoiffloghonaaGreatDoor
open Go.RowKit
open Na Ar Lx
set_option linter.unusedVariables false
namespace Lx
/-- is there nothing but zeros? -/
def zeros (l : B) : Bool := (trimL [48] (trimR [48] l)).isEmpty
def perD (k : Int) : Int := if k = 2 then 4 else 1
/-- the digits of the shortened numeral, its exponent -/
def shN (k : Int) (l : B) : B := if k = 3 ∨ l.length ≤ 768 then l else if zeros (l.drop 768) = true then l.take 768 else l.take 768 ++ [49]
def shE (k : Int) (l : B) (e : Int) : Int := if k = 3 ∨ l.length ≤ 768 then e else if zeros (l.drop 768) = true then e + ((l.length - 768 : Nat) : Int) * perD k else e + ((l.length - 769 : Nat) : Int) * perD k
theorem zeros_iff (l : B) : zeros l = true ↔ ∀ b ∈ l, b = 48 := by
  unfold zeros
  rw [trimmed_empty, List.all_eq_true]
  constructor
  · intro h b hb
    have := h b hb
    simpa using this
  · intro h b hb
    rw [h b hb]; rfl
theorem nv_zeros {b : Int} {l : B} (h : ∀ c ∈ l, c = 48) : nv b l = 0 := by
  refine numB_zeros fun j hj => ?_
  rw [byte_list, str_list, List.getD_eq_getElem?_getD, List.getElem?_eq_getElem hj]
  exact h _ (List.getElem_mem hj)
theorem nv_cons (b : Int) (c : UInt8) (r : B) : nv b (c :: r) = valN (c.toNat : Int) * b ^ r.length + nv b r := by
  have := nv_app b [c] r
  rw [List.singleton_append, nv_one] at this
  exact this
theorem val_pos {c : UInt8} (h : c ≠ 48) : 1 ≤ valN (c.toNat : Int) := by
  have := dgt_pos (s := str [c]) (i := 0) (by rw [byte_list, str_list]; simpa using h)
  rw [dgt_str [c] (by simp)] at this
  simpa using this
theorem nv_pos {b : Int} {l : B} (hb : 2 ≤ b) (h : ¬ ∀ c ∈ l, c = 48) : 0 < nv b l := by
  induction l with
  | nil => exact absurd (fun c hc => by cases hc) h
  | cons c r ih =>
    rw [nv_cons]
    have p : 0 < b ^ r.length := Int.pow_pos (by omega)
    have n := nv_nonneg (b := b) (by omega) r
    by_cases hc : c = 48
    · have := ih (fun q => h (fun d hd => by
        rcases List.mem_cons.mp hd with rfl | hd
        · exact hc
        · exact q d hd))
      have v := (valN_bd (c.toNat : Int)).1
      have := Int.mul_nonneg v (Int.le_of_lt p)
      omega
    · have v := val_pos hc
      have := Int.mul_pos (show 0 < valN (c.toNat : Int) by omega) p
      omega
theorem okB.take {b : Int} {l : B} (h : okB b l) (n : Nat) : okB b (l.take n) := fun c hc => h c (List.mem_of_mem_take hc)
theorem okB.drop {b : Int} {l : B} (h : okB b l) (n : Nat) : okB b (l.drop n) := fun c hc => h c (List.mem_of_mem_drop hc)
theorem hex_pow (n : Nat) : (16 : Int) ^ n = e2 ((4 * n : Nat) : Int) := by
  rw [pow_16]; unfold e2; rw [Int.toNat_natCast]
/-- first is no zero -/
def lead (l : B) : Prop := ∃ c r, l = c :: r ∧ c ≠ 48
theorem lead.ge {b : Int} {l : B} (hb : 2 ≤ b) (h : lead l) : b ^ (l.length - 1) ≤ nv b l := by
  obtain ⟨c, r, rfl, hc⟩ := h
  exact nv_ge hb hc
theorem lead.take {l : B} (h : lead l) {n : Nat} (hn : 0 < n) : lead (l.take n) := by
  obtain ⟨c, r, rfl, hc⟩ := h
  obtain ⟨m, rfl⟩ : ∃ m, n = m + 1 := ⟨n - 1, by omega⟩
  exact ⟨c, r.take m, rfl, hc⟩
theorem lead.pos {l : B} (h : lead l) : 0 < l.length := by obtain ⟨c, r, rfl, _⟩ := h; simp
end Lx
/-- the shortened numeral is rounded likewise: decimals -/
theorem short_dec {l : B} {e b E : Int} (hd : okB 10 l) (hl : lead l) : ExIs (nv 10 (shN 1 l)) (shE 1 l e) b E ↔ ExIs (nv 10 l) e b E := by
  unfold shN shE
  by_cases hlen : l.length ≤ 768
  · rw [if_pos (Or.inr hlen), if_pos (Or.inr hlen)]
  · have hc : ¬ ((1 : Int) = 3 ∨ l.length ≤ 768) := by omega
    rw [if_neg hc, if_neg hc]
    have hsplit := nv_app 10 (l.take 768) (l.drop 768)
    rw [List.take_append_drop, List.length_drop] at hsplit
    have p1 : perD 1 = 1 := rfl
    have hH : pTen 767 ≤ nv 10 (l.take 768) := by
      have := (hl.take (n := 768) (by omega)).ge (b := 10) (by omega)
      rw [List.length_take, Nat.min_eq_left (by omega)] at this
      exact this
    have hr := nv_lt (b := 10) (by omega) (hd.drop 768)
    rw [List.length_drop] at hr
    by_cases hz : zeros (l.drop 768) = true
    · rw [if_pos hz, if_pos hz, hsplit, nv_zeros ((zeros_iff _).mp hz), Int.add_zero, p1, Int.mul_one]
      exact (ex_shift (l.length - 768)).symm
    · rw [if_neg hz, if_neg hz, hsplit, p1, Int.mul_one, nv_app]
      have hp := nv_pos (b := 10) (by omega) (mt (zeros_iff _).mpr hz)
      generalize nv 10 (l.take 768) = H at *
      generalize nv 10 (l.drop 768) = r at *
      obtain ⟨t, ht, i1, i2⟩ : ∃ t, l.length = 769 + t ∧ l.length - 768 = t + 1 ∧ l.length - 769 = t := ⟨l.length - 769, by omega, by omega, rfl⟩
      rw [i1] at hr ⊢
      rw [i2]
      have n1 : nv 10 [49] = 1 := by rw [nv_one]; rfl
      have e1 : (10 : Int) ^ [(49 : UInt8)].length = 10 := rfl
      rw [n1, e1]
      exact ex_short hH hp hr
/-- hexadecimals -/
theorem short_hex {l : B} {e b E : Int} (hd : okB 16 l) (hl : lead l) : RoundIs (scA (nv 16 (shN 2 l)) (shE 2 l e)) (scB 1 (shE 2 l e)) false false 0 b E ↔ RoundIs (scA (nv 16 l) e) (scB 1 e) false false 0 b E := by
  unfold shN shE
  by_cases hlen : l.length ≤ 768
  · rw [if_pos (Or.inr hlen), if_pos (Or.inr hlen)]
  · have hc : ¬ ((2 : Int) = 3 ∨ l.length ≤ 768) := by omega
    rw [if_neg hc, if_neg hc]
    have hsplit := nv_app 16 (l.take 768) (l.drop 768)
    rw [List.take_append_drop, List.length_drop, hex_pow] at hsplit
    have p1 : perD 2 = 4 := rfl
    have hH : e2 64 ≤ nv 16 (l.take 768) := by
      have := (hl.take (n := 768) (by omega)).ge (b := 16) (by omega)
      rw [List.length_take, Nat.min_eq_left (by omega), hex_pow] at this
      refine Int.le_trans ?_ this
      have q := e2_add (j := 64) (k := 3004) (by omega) (by omega)
      have q1 : ((4 * (768 - 1) : Nat) : Int) = 64 + 3004 := by omega
      rw [q1, q]
      have a := e2_pos 64
      have c := e2_pos 3004
      have := Int.mul_le_mul_of_nonneg_left (show (1 : Int) ≤ e2 3004 by omega) (Int.le_of_lt a)
      omega
    have hr := nv_lt (b := 16) (by omega) (hd.drop 768)
    rw [List.length_drop, hex_pow] at hr
    by_cases hz : zeros (l.drop 768) = true
    · rw [if_pos hz, if_pos hz, hsplit, nv_zeros ((zeros_iff _).mp hz), Int.add_zero, p1]
      have := (hex_shift (W := nv 16 (l.take 768)) (x := e) (b := b) (E := E) (4 * (l.length - 768))).symm
      rw [show ((4 * (l.length - 768) : Nat) : Int) = ((l.length - 768 : Nat) : Int) * 4 by omega] at this ⊢
      exact this
    · rw [if_neg hz, if_neg hz, hsplit, p1, nv_app]
      have hp := nv_pos (b := 16) (by omega) (mt (zeros_iff _).mpr hz)
      generalize nv 16 (l.take 768) = H at *
      generalize nv 16 (l.drop 768) = r at *
      obtain ⟨t, ht, i1, i2⟩ : ∃ t, l.length = 769 + t ∧ l.length - 768 = t + 1 ∧ l.length - 769 = t := ⟨l.length - 769, by omega, by omega, rfl⟩
      rw [i1] at hr ⊢
      rw [i2]
      have n1 : nv 16 [49] = 1 := by rw [nv_one]; rfl
      have e1 : (16 : Int) ^ [(49 : UInt8)].length = 16 := rfl
      rw [n1, e1, Int.mul_comm (t : Int) 4]
      exact hex_short hH hp hr
/-! ### what the quick roads tell of the numeral -/
theorem trimR_split (l : B) : ∃ z : Nat, l = trimR [48] l ++ List.replicate z 48 := by
  refine ⟨(l.reverse.takeWhile (fun b => ([48] : B).contains b)).length, ?_⟩
  unfold trimR
  have h := List.takeWhile_append_dropWhile (p := fun b => ([48] : B).contains b) (l := l.reverse)
  have hr : l.reverse.takeWhile (fun b => ([48] : B).contains b) = List.replicate (l.reverse.takeWhile (fun b => ([48] : B).contains b)).length 48 := by
    apply List.eq_replicate_of_mem
    intro b hb
    have := List.all_takeWhile (p := fun b => ([48] : B).contains b) (l := l.reverse)
    rw [List.all_eq_true] at this
    have := this b hb
    simpa using this
  have h2 := congrArg List.reverse h
  rw [List.reverse_append, List.reverse_reverse] at h2
  rw [hr, List.reverse_replicate] at h2
  exact h2.symm
theorem quick_num {l : B} (hd : ∀ c ∈ l, isD c = true) : ∃ t : Nat, (cutN (trimR [48] l) + t = l.length) ∧ cutV (trimR [48] l) * pTen t ≤ nv 10 l ∧ nv 10 l ≤ (cutV (trimR [48] l) + 1) * pTen t ∧ (cutMr (trimR [48] l) = false → nv 10 l = cutV (trimR [48] l) * pTen t) ∧ 0 ≤ cutV (trimR [48] l) ∧ cutV (trimR [48] l) ≤ 9999999999999999999 := by
  obtain ⟨z, hz⟩ := trimR_split l
  have hd' : ∀ c ∈ trimR [48] l, isD c = true := fun c hc => hd c (by rw [hz]; exact List.mem_append_left _ hc)
  have hlen : l.length = (trimR [48] l).length + z := by
    have := congrArg List.length hz
    rw [List.length_append, List.length_replicate] at this; exact this
  have hnv : nv 10 l = dv (trimR [48] l) * pTen z := by
    have h1 := congrArg (nv 10) hz
    rw [nv_app, List.length_replicate, nv_zeros (l := List.replicate z 48) (fun c hc => (List.mem_replicate.mp hc).2), Int.add_zero, nv_dv hd'] at h1
    exact h1
  generalize trimR [48] l = m at *
  obtain ⟨r, h1, h2, h3, h4, h5, h6, h7, _⟩ := cut_num (allD_iff.mpr hd')
  refine ⟨m.length - cutN m + z, by omega, ?_, ?_, ?_, h6, h7⟩
  all_goals rw [hnv, h1, pTen_add]
  · have e : (10 : Int) ^ (m.length - cutN m) = pTen (m.length - cutN m) := rfl
    rw [e] at h3 ⊢
    rw [← Int.mul_assoc]
    exact Int.mul_le_mul_of_nonneg_right (by omega) (Int.le_of_lt (pTen_pos z))
  · have e : (10 : Int) ^ (m.length - cutN m) = pTen (m.length - cutN m) := rfl
    rw [e] at h3 ⊢
    rw [← Int.mul_assoc]
    refine Int.mul_le_mul_of_nonneg_right ?_ (Int.le_of_lt (pTen_pos z))
    rw [Int.add_mul]; omega
  · intro hm
    have : r = 0 := by
      apply Decidable.byContradiction
      intro hc
      rw [h4.mpr hc] at hm
      cases hm
    rw [this, Int.add_zero, Int.mul_assoc]
    rfl
theorem quick_ex {l : B} {e b E : Int} (hd : ∀ c ∈ l, isD c = true) (h1 : ExIs (cutV (trimR [48] l)) (e + l.length - cutN (trimR [48] l)) b E) (h2 : cutMr (trimR [48] l) = true → ExIs (cutV (trimR [48] l) + 1) (e + l.length - cutN (trimR [48] l)) b E) : ExIs (nv 10 l) e b E := by
  obtain ⟨t, q1, q2, q3, q4, q5, q6⟩ := quick_num hd
  have i : e + (l.length : Int) - (cutN (trimR [48] l) : Int) = e + t := by omega
  rw [i] at h1 h2
  cases hm : cutMr (trimR [48] l)
  · rw [q4 hm]
    exact (ex_shift t).mpr h1
  · exact ex_between (Int.mul_nonneg q5 (Int.le_of_lt (pTen_pos t))) q2 q3 ((ex_shift t).mpr h1) ((ex_shift t).mpr (h2 hm))
end Go.Proofs.YtjeoiffloghonaaGreatDoor

/- Plain numbers: atof: what Bits tells of some numerals. -/
import Derived.Test.YtjeoiffloghonaaGreatDoorAtfI
namespace Go.Proofs.YtjeoiffloghonaaGreatDoor
open Go.RowKit
open Na Ar Lx
set_option linter.unusedVariables false
theorem bits_val {k e m F b E : Int} {ng : Bool} {num den : B} (hr : refE k num e den = 0) (hn : num ≠ []) (hv : ValIs k num e den m F) (h : BitsIs k ng num e den b E) : (F ≠ 0 → b = 0 ∧ E = F) ∧ (F = 0 → b = m + sgB ng ∧ E = 0) := by
  rcases h with ⟨a1, _⟩ | ⟨_, a2, _⟩ | ⟨a1, a2, m', F', a3, a4⟩
  · exact absurd hr a1
  · exact absurd a2 hn
  · obtain ⟨rfl, rfl⟩ := val_uniq hr hv a3
    rcases a4 with ⟨x1, x2, x3⟩ | ⟨x1, x2, x3⟩
    · exact ⟨fun _ => ⟨x2, x3⟩, fun q => absurd q x1⟩
    · exact ⟨fun q => absurd x1 q, fun _ => ⟨x3, x2⟩⟩
/-- not too great: a pattern -/
theorem round_fit {A B b E : Int} (hB : 0 < B) (h : RoundIs A B false false 0 b E) (hs : 2 * A < e2 2045 * B) : E = 0 := by
  rcases round_over hB h with ⟨_, _, q⟩ | ⟨q, _⟩
  · exfalso
    obtain ⟨m1, m2⟩ := most_nums
    unfold nxtN at q
    rw [m1, m2] at q
    have hp := e2_pos 2045
    generalize e2 2045 = P at *
    have e4 : (9007199254740991 * P + (9007199254740991 * P + P)) * B = 18014398509481983 * (P * B) := by
      rw [← Int.mul_assoc]; congr 1; omega
    rw [e4] at q
    have := Int.mul_pos hp hB
    omega
  · exact q
theorem ex_fit {N e b E : Int} (h : ExIs N e b E) (hs : 2 * exN N e < e2 971 * exD e) : E = 0 := by
  refine round_fit (scB_pos' (exD_pos e)) h ?_
  rw [scB_flat]
  unfold scA
  have s : e2 2045 = e2 971 * e2 (0 + 1074) := by rw [← e2_add (by omega) (by omega)]; congr 1
  rw [s, Int.mul_right_comm, ← Int.mul_assoc]
  exact Int.mul_lt_mul_of_pos_right hs (e2_pos _)
namespace Lx
/-- a digit that isn't zero, and zeros -/
def farL (d : UInt8) (n : Nat) : B := d :: List.replicate n 48
theorem farL_dig {d : UInt8} (h0 : 49 ≤ d.toNat) (h1 : d.toNat ≤ 57) (n : Nat) : ∀ c ∈ farL d n, isD c = true := fun c hc => by
  rcases List.mem_cons.mp hc with rfl | hc
  · unfold isD; simp; omega
  · rw [(List.mem_replicate.mp hc).2]; rfl
theorem farL_lead {d : UInt8} (h0 : 49 ≤ d.toNat) (n : Nat) : lead (farL d n) := ⟨d, _, rfl, fun q => by rw [q] at h0; exact absurd h0 (by decide)⟩
theorem farL_len (d : UInt8) (n : Nat) : (farL d n).length = n + 1 := by unfold farL; simp
theorem farL_nv (b : Int) {d : UInt8} (h0 : 49 ≤ d.toNat) (h1 : d.toNat ≤ 57) (n : Nat) : nv b (farL d n) = ((d.toNat : Int) - 48) * b ^ n := by
  unfold farL
  rw [nv_cons, nv_zeros (fun c hc => (List.mem_replicate.mp hc).2), List.length_replicate, Int.add_zero]
  congr 1
  unfold valN
  rw [if_pos (by omega)]
theorem kept_of {cs l : B} (hl : l.length ≤ 65536) (h : lead l) (ha : ∀ c ∈ l, cs.contains c = true) : keptB cs l = true := by
  unfold keptB
  rw [decide_eq_true hl, List.all_eq_true.mpr ha]
  obtain ⟨c, r, rfl, hc⟩ := h
  simp [fst]
  exact hc
theorem isD_digs {c : UInt8} (h : isD c = true) : digs9.contains c = true := by
  have := digits_has c
  rw [h] at this
  exact this
theorem isD_smal {c : UInt8} (h : isD c = true) : smal9.contains c = true := by
  have h2 := isD_digs h
  unfold digs9 at h2
  unfold smal9
  simp only [List.contains_cons, List.contains_nil, Bool.or_eq_true, Bool.or_false] at h2 ⊢
  rcases h2 with h2 | h2 | h2 | h2 | h2 | h2 | h2 | h2 | h2 | h2 <;> simp [h2]
end Lx
theorem ref_dec {l : B} {e : Int} (hl : l.length ≤ 65536) (h : lead l) (hd : ∀ c ∈ l, isD c = true) (e0 : -1073741824 ≤ e) (e1 : e ≤ 1073741824) : refE 1 l e [] = 0 := by
  have hr : rightB 1 l e [] = true := by
    unfold rightB
    rw [if_pos rfl, kept_of hl h (fun c hc => isD_digs (hd c hc))]
    unfold withB
    simp; omega
  unfold refE
  rw [hr, if_pos rfl, if_neg (fun q => absurd q.1 (by decide))]
theorem ref_hex {l : B} {e : Int} (hl : l.length ≤ 65536) (h : lead l) (hd : ∀ c ∈ l, smal9.contains c = true) (e0 : -1073741824 ≤ e) (e1 : e ≤ 1073741824) : refE 2 l e [] = 0 := by
  have hr : rightB 2 l e [] = true := by
    unfold rightB
    rw [if_neg (by decide), if_pos rfl, kept_of hl h hd]
    unfold withB
    simp; omega
  unfold refE
  rw [hr, if_pos rfl, if_neg (fun q => absurd q.1 (by decide))]
theorem ref_rat {l m : B} (hl : l.length ≤ 65536) (h : lead l) (hd : ∀ c ∈ l, isD c = true) (hm : m.length ≤ 65536) (h' : lead m) (hd' : ∀ c ∈ m, isD c = true) : refE 3 l 0 m = 0 := by
  have hr : rightB 3 l 0 m = true := by
    unfold rightB
    rw [if_neg (by decide), if_neg (by decide), if_pos rfl, kept_of hl h (fun c hc => isD_digs (hd c hc)), kept_of hm h' (fun c hc => isD_digs (hd' c hc))]
    rfl
  unfold refE
  rw [hr, if_pos rfl, if_neg]
  rintro ⟨_, q⟩
  subst q
  exact absurd h'.pos (by simp)
theorem lead_ne {l : B} (h : lead l) : l ≠ [] := fun q => by subst q; exact absurd h.pos (by simp)
theorem far_one {d : UInt8} (h0 : 49 ≤ d.toNat) (h1 : d.toNat ≤ 57) {n : Nat} (hn : n ≤ 3000) {ng : Bool} {b E : Int} (h : BitsIs 1 ng (farL d n) (-(n : Int)) [] b E) : BitsIs 1 ng [d] 0 [] b E ∧ E = 0 := by
  have hr := ref_dec (l := farL d n) (e := -(n : Int)) (by rw [farL_len]; omega) (farL_lead h0 n) (farL_dig h0 h1 n) (by omega) (by omega)
  have hr' := ref_dec (l := farL d 0) (e := 0) (by rw [farL_len]; omega) (farL_lead h0 0) (farL_dig h0 h1 0) (by omega) (by omega)
  rcases h with ⟨a1, _⟩ | ⟨_, a2, _⟩ | ⟨a1, a2, m, F, a3, a4⟩
  · exact absurd hr a1
  · exact absurd a2 (lead_ne (farL_lead h0 n))
  · have a5 : ExIs ((d.toNat : Int) - 48) 0 m F := by
      unfold ValIs at a3
      rw [if_pos rfl, farL_nv 10 h0 h1] at a3
      have := (ex_shift (m := (d.toNat : Int) - 48) (e := -(n : Int)) n).mp a3
      rw [show -(n : Int) + n = 0 by omega] at this
      exact this
    have a6 : ValIs 1 (farL d 0) 0 [] m F := by
      unfold ValIs
      rw [if_pos rfl, farL_nv 10 h0 h1, Int.pow_zero, Int.mul_one]; exact a5
    have hF : F = 0 := by
      refine ex_fit a5 ?_
      have e1 : exN ((d.toNat : Int) - 48) 0 = (d.toNat : Int) - 48 := by unfold exN; rw [if_pos (by omega)]; simp
      have e2' : exD 0 = 1 := rfl
      have e3 : e2 971 = e2 10 * e2 961 := by rw [← e2_add (by omega) (by omega)]; congr 1
      have e4 : e2 10 = 1024 := rfl
      have := e2_pos 961
      rw [e1, e2', e3, e4]
      omega
    refine ⟨Or.inr (Or.inr ⟨hr', lead_ne (farL_lead h0 0), m, F, a6, a4⟩), ?_⟩
    rcases a4 with ⟨x1, _⟩ | ⟨_, x2, _⟩
    · exact absurd hF x1
    · exact x2
theorem far_over {d : UInt8} (h0 : 49 ≤ d.toNat) (h1 : d.toNat ≤ 57) {n : Nat} (hn : n ≤ 3000) {ng : Bool} {b E : Int} (h : BitsIs 1 ng (farL d n) 1073741824 [] b E) : E = 70 := by
  have hr := ref_dec (l := farL d n) (e := 1073741824) (by rw [farL_len]; omega) (farL_lead h0 n) (farL_dig h0 h1 n) (by omega) (by omega)
  refine ((bits_val (m := 0) (F := 70) hr (lead_ne (farL_lead h0 n)) ?_ h).1 (by decide)).2
  unfold ValIs
  rw [if_pos rfl, farL_nv 10 h0 h1]
  refine ex_huge (L := n) ?_ (by omega)
  have p : (0 : Int) < 10 ^ n := Int.pow_pos (by omega)
  have e : pTen n = 10 ^ n := rfl
  rw [e]
  have := Int.mul_le_mul_of_nonneg_right (show (1 : Int) ≤ (d.toNat : Int) - 48 by omega) (Int.le_of_lt p)
  omega
theorem far_none {d : UInt8} (h0 : 49 ≤ d.toNat) (h1 : d.toNat ≤ 57) {n : Nat} (hn : n ≤ 3000) {ng : Bool} {b E : Int} (h : BitsIs 1 ng (farL d n) (-1073741824) [] b E) : E = 0 ∧ b = sgB ng := by
  have hr := ref_dec (l := farL d n) (e := -1073741824) (by rw [farL_len]; omega) (farL_lead h0 n) (farL_dig h0 h1 n) (by omega) (by omega)
  have q := (bits_val (m := 0) (F := 0) hr (lead_ne (farL_lead h0 n)) ?_ h).2 rfl
  · rw [Int.zero_add] at q
    exact ⟨q.2, q.1⟩
  · unfold ValIs
    rw [if_pos rfl]
    have lt := nv_lt (b := 10) (by omega) (okB_ten (farL_dig h0 h1 n))
    rw [farL_len] at lt
    have ge := (farL_lead h0 n).ge (b := 10) (by omega)
    have p : (0 : Int) < 10 ^ ((farL d n).length - 1) := Int.pow_pos (by omega)
    exact ex_tiny (L := n + 1) (by omega) lt (by omega)
theorem far_hex0 {d : UInt8} (h0 : 49 ≤ d.toNat) (h1 : d.toNat ≤ 57) {n : Nat} (hn : n ≤ 3000) {ng : Bool} {b E : Int} (h : BitsIs 2 ng (farL d n) (-1073741824) [] b E) : E = 0 ∧ b = sgB ng := by
  have hr := ref_hex (l := farL d n) (e := -1073741824) (by rw [farL_len]; omega) (farL_lead h0 n) (fun c hc => isD_smal (farL_dig h0 h1 n c hc)) (by omega) (by omega)
  have q := (bits_val (m := 0) (F := 0) hr (lead_ne (farL_lead h0 n)) ?_ h).2 rfl
  · rw [Int.zero_add] at q
    exact ⟨q.2, q.1⟩
  · unfold ValIs
    rw [if_neg (by decide), if_pos rfl]
    have lt := nv_lt (b := 16) (by omega) (fun c hc => smal_val (isD_smal (farL_dig h0 h1 n c hc)))
    rw [farL_len, hex_pow] at lt
    have ge := (farL_lead h0 n).ge (b := 16) (by omega)
    have p : (0 : Int) < 16 ^ ((farL d n).length - 1) := Int.pow_pos (by omega)
    have := cut_tiny (M := nv 16 (farL d n)) (L := ((4 * (n + 1) : Nat) : Int)) (x := -1073741824) (by omega) lt (by omega) (by omega)
    have hs : sgB false = 0 := rfl
    have r := (round_tiny (mode := 0) (more := false) (neg := false) (scB_pos' (x := -1073741824) (show (0 : Int) < 1 by omega)) (Or.inl this.1) (Int.le_of_lt this.1) this.2).2 (by omega)
    rw [hs] at r
    exact r
theorem far_hex1 {d : UInt8} (h0 : 49 ≤ d.toNat) (h1 : d.toNat ≤ 57) {n : Nat} (hn : n ≤ 3000) {ng : Bool} {b E : Int} (h : BitsIs 2 ng (farL d n) 1073741824 [] b E) : E = 70 := by
  have hr := ref_hex (l := farL d n) (e := 1073741824) (by rw [farL_len]; omega) (farL_lead h0 n) (fun c hc => isD_smal (farL_dig h0 h1 n c hc)) (by omega) (by omega)
  refine ((bits_val (m := 0) (F := 70) hr (lead_ne (farL_lead h0 n)) ?_ h).1 (by decide)).2
  unfold ValIs
  rw [if_neg (by decide), if_pos rfl]
  have ge := (farL_lead h0 n).ge (b := 16) (by omega)
  rw [farL_len, hex_pow] at ge
  refine (round_huge (mode := 0) (more := false) (neg := false) (scB_pos' (by omega)) (cut_huge (L := ((4 * n : Nat) : Int) + 1) ?_ (by omega) (by omega))).1 (by omega)
  rw [Int.add_sub_cancel]
  exact ge
theorem far_rat {d : UInt8} (h0 : 49 ≤ d.toNat) (h1 : d.toNat ≤ 57) {n : Nat} (hn : n ≤ 3000) {ng : Bool} {b E : Int} (h : BitsIs 3 ng [49] 0 (farL d n) b E) : E = 0 ∧ (329 ≤ n → b = sgB ng) := by
  have l1 : lead ([49] : B) := ⟨49, [], rfl, by decide⟩
  have hr := ref_rat (l := [49]) (m := farL d n) (by decide) l1 (by decide) (by rw [farL_len]; omega) (farL_lead h0 n) (farL_dig h0 h1 n)
  have n1 : nv 10 [49] = 1 := by rw [nv_one]; rfl
  have ge := (farL_lead h0 n).ge (b := 10) (by omega)
  rw [farL_len, Nat.add_sub_cancel] at ge
  have p : (0 : Int) < 10 ^ n := Int.pow_pos (by omega)
  rcases h with ⟨a1, _⟩ | ⟨_, a2, _⟩ | ⟨a1, a2, m, F, a3, a4⟩
  · exact absurd hr a1
  · exact absurd a2 (by decide)
  · unfold ValIs at a3
    rw [if_neg (by decide), if_neg (by decide), n1, scB_flat] at a3
    have hF : F = 0 := by
      refine round_fit (by omega) a3 ?_
      unfold scA
      have s : e2 2045 = e2 971 * e2 (0 + 1074) := by rw [← e2_add (by omega) (by omega)]; congr 1
      have e3 : e2 971 = e2 10 * e2 961 := by rw [← e2_add (by omega) (by omega)]; congr 1
      have e4 : e2 10 = 1024 := rfl
      have q1 := e2_pos 961
      have q2 := e2_pos (0 + 1074)
      have q3 : 2 * (1 * e2 (0 + 1074)) < e2 2045 := by
        rw [s, e3, e4, Int.one_mul]
        exact Int.mul_lt_mul_of_pos_right (by omega) q2
      have q4 : e2 2045 * 1 ≤ e2 2045 * nv 10 (farL d n) := Int.mul_le_mul_of_nonneg_left (by omega) (Int.le_of_lt (e2_pos _))
      omega
    subst hF
    rcases a4 with ⟨x1, _⟩ | ⟨_, x2, x3⟩
    · exact absurd rfl x1
    · refine ⟨x2, fun hk => ?_⟩
      have hs : sgB false = 0 := rfl
      have r := (round_tiny (A := scA 1 0) (B := nv 10 (farL d n)) (mode := 0) (more := false) (neg := false) (by omega) (Or.inl (Int.mul_pos (by omega) (e2_pos _))) (Int.le_of_lt (Int.mul_pos (by omega) (e2_pos _))) ?_).2 (by omega)
      · rw [hs] at r
        have := (roundIs_uniq (by omega) a3 r).1
        rw [x3, this, Int.zero_add]
      · have k1 := pT_lt low_nat
        have k2 : pTen 324 ≤ pTen n := pTen_mono (by omega)
        have k3 : pTen n = 10 ^ n := rfl
        have k4 : 2 * scA 1 0 = pTwo 1075 := by
          rw [scA_flat, Int.one_mul]
          have := pTwo_add 1 1074
          exact this.symm
        omega
end Go.Proofs.YtjeoiffloghonaaGreatDoor

/- AtofFar. -/
import Derived.Test.YtjeoiffloghonaaGreatDoorAtfH
import Derived.Test.YtjeoiffloghonaaGreatDoorLexParse
import Derived.Test.YtjeoiffloghonaaGreatDoorRadixBackB
import Derived.Test.YtjeoiffloghonaaGreatDoorCards
import Derived.Test.YtjeoiffloghonaaGreatDoorTie
import Derived.Deep.DeepHandedRow
import Derived.Lay
import Derived.LaidSub
import Derived.LaidHandle
import Derived.LaidLaws
import Derived.Stop.Joined
import Derived.SevenTiedAt
import Derived.WalkKit
import Derived.ProofKit
import Derived.OpenShut
import Derived.ShutString
import Derived.ChangeOld
import Derived.Below
import Derived.FnData
import Derived.Deep.DeepWitnessRowRef
import Derived.WalkLawsBesides
/- plumblaw11: atof.Parse of a numeral, alive. -/
namespace Go.Proofs.YtjeoiffloghonaaGreatDoor
open Go.ChangeShapes Go.WideShapes Go.ChangeAt Go.RowKit
open Na Ar Lx
set_option linter.unusedVariables false
theorem parse_said11 {S : B} {p : Pc} (hl : S.length ≤ 60000) (hp : scanP S 0 = p) (hk : p.kind ≠ 0) (hst : p.stop = S.length) (w : World) :
    Calls Tryz.prog 41 #[.string (str S)] w fun r w' => r = .returned (.tuple #[.agg (nmA (Lx.numOf p)), .nilIface]) ∧ Below w.heap.size w w' := by
  refine (parse9_any (str S) (by rw [str_size]; unfold maxLen; omega) w).mono ?_
  rintro r w' ⟨⟨g, at_, c, rfl, _, _, _, hn⟩ | ⟨_, _, rfl⟩, hb⟩
  · exfalso
    rw [str_list, hp] at hn
    rcases hn with ⟨q, _⟩ | ⟨_, q, _⟩
    · exact hk q
    · rw [str_size] at q; omega
  · rw [str_list, hp]
    exact ⟨rfl, hb⟩
set_option maxHeartbeats 1600000 in
set_option maxRecDepth 100000 in
/-- a numeral that is read, and has a pattern -/
theorem parse11_ok {s : ByteArray} {k e : Int} {ng : Bool} {nu de : ByteArray} {V : Int} (hP : ∀ w, Calls Tryz.prog 41 #[.string s] w fun r w' => r = .returned (.tuple #[.agg (numC k ng nu e de), .nilIface]) ∧ Below w.heap.size w w')
    (h1 : nu.size ≤ 65536) (h2 : de.size ≤ 65536) (hV : ∀ b E, BitsIs k ng nu.data.toList e de.data.toList b E → b = V ∧ E = 0) {w : World} (hG : GrVar w) (hT : TenVar w) :
    Calls Tryz.prog 19 #[.string s] w fun r w' => r = .returned (.tuple #[.int .u64 V, .nilIface]) ∧ Below w.heap.size w w' := by
  have hB : ∀ w1, Below w.heap.size w w1 → Calls Tryz.prog 11 #[.agg (numC k ng nu e de)] w1 fun r w' => r = .returned (.tuple #[.int .u64 V, .int .i64 0]) ∧ Below w1.heap.size w1 w' := fun w1 h => by
    refine (bits11_any k ng nu e de (by omega) (by omega) (hG.later h) (hT.later h)).mono ?_
    rintro r w' ⟨b, E, rfl, q, _, hb⟩
    obtain ⟨rfl, rfl⟩ := hV b E q
    exact ⟨rfl, hb⟩
  clear hV h1 h2
  unfold numC at hP hB
  go_enter Tryz.func19, Tryz.ntmps19
  go_wp2_with fail
  refine (hP _).mono ?_
  rintro r w1 ⟨rfl, hb1⟩
  have B : Below w.heap.size w (w1.alloc (.cells #[.int .i64 k, .bool ng, .string nu, .int .i64 e, .string de] 23)) := hb1.alloc hb1.size _
  have hB' := hB _ B
  clear hP hB
  go_wp2_with fail
  refine hB'.mono ?_
  rintro r w2 ⟨rfl, hb2⟩
  have B := B.trans (hb2.mono B.size)
  clear hB'
  go_wp2
  go_ret2
  exact ⟨rfl, B⟩
namespace Ar
set_option maxRecDepth 100000 in
theorem tenth11 : RoundIs (1 * pTwo 1074) (pTen 1) false false 0 4591870180066957722 0 :=
  ⟨4591870180066957721, ⟨by decide, by decide, by decide +kernel, Or.inr (by decide +kernel)⟩, Or.inr ⟨⟨by decide +kernel, by decide +kernel⟩, Or.inr ⟨by decide, by decide, rfl⟩⟩⟩
end Ar
theorem tenth_bits {b E : Int} (h : BitsIs 1 false [49] (-1) [] b E) : b = 4591870180066957722 ∧ E = 0 := by
  have hr : refE 1 [49] (-1) [] = 0 := by decide
  refine bits_uniq h (Or.inr (Or.inr ⟨hr, by decide, 4591870180066957722, 0, ?_, Or.inr ⟨rfl, rfl, rfl⟩⟩))
  unfold ValIs
  rw [if_pos rfl]
  have n1 : nv 10 [49] = 1 := by rw [nv_one]; rfl
  rw [n1]
  exact (ex_neg (k := 1) (by omega)).mpr tenth11
theorem parse_tenth {w : World} (hG : GrVar w) (hT : TenVar w) : Calls Tryz.prog 19 #[.string ⟨#[48, 46, 49]⟩] w fun r w' => r = .returned (.tuple #[.int .u64 4591870180066957722, .nilIface]) ∧ Below w.heap.size w w' := by
  have e : Lx.numOf ⟨1, false, [48], [49], [], [], 3⟩ = ⟨1, false, [49], -1, []⟩ := by rfl
  refine parse11_ok (k := 1) (e := -1) (ng := false) (nu := str [49]) (de := str []) (fun w => ?_) (by decide) (by decide) (fun b E q => tenth_bits q) hG hT
  have := parse_said11 (S := [48, 46, 49]) (p := ⟨1, false, [48], [49], [], [], 3⟩) (by decide) (by rfl) (by decide) rfl w
  rw [e] at this
  exact this
set_option maxHeartbeats 1600000 in
set_option maxRecDepth 100000 in
theorem alive11_any {w : World} (hG : GrVar w) (hT : TenVar w) : Calls Tryz.prog 14 #[] w fun r w' => r = .returned (.bool true) ∧ Below w.heap.size w w' := by
  have hP := parse_tenth hG hT
  go_enter Tryz.func14, Tryz.ntmps14
  go_wp2_with fail
  refine hP.mono ?_
  rintro r w1 ⟨rfl, hb⟩
  clear hP
  go_wp2
  go_ret
  exact ⟨rfl, hb⟩
end Go.Proofs.YtjeoiffloghonaaGreatDoor

/- Plain numbers: atof: what Bits tells of some numerals. -/
namespace Go.Proofs.YtjeoiffloghonaaGreatDoor
open Go.RowKit
open Na Ar Lx
set_option linter.unusedVariables false
theorem bits_val {k e m F b E : Int} {ng : Bool} {num den : B} (hr : refE k num e den = 0) (hn : num ≠ []) (hv : ValIs k num e den m F) (h : BitsIs k ng num e den b E) : (F ≠ 0 → b = 0 ∧ E = F) ∧ (F = 0 → b = m + sgB ng ∧ E = 0) := by
  rcases h with ⟨a1, _⟩ | ⟨_, a2, _⟩ | ⟨a1, a2, m', F', a3, a4⟩
  · exact absurd hr a1
  · exact absurd a2 hn
  · obtain ⟨rfl, rfl⟩ := val_uniq hr hv a3
    rcases a4 with ⟨x1, x2, x3⟩ | ⟨x1, x2, x3⟩
    · exact ⟨fun _ => ⟨x2, x3⟩, fun q => absurd q x1⟩
    · exact ⟨fun q => absurd x1 q, fun _ => ⟨x3, x2⟩⟩
/-- not too great: a pattern -/
theorem round_fit {A B b E : Int} (hB : 0 < B) (h : RoundIs A B false false 0 b E) (hs : 2 * A < e2 2045 * B) : E = 0 := by
  rcases round_over hB h with ⟨_, _, q⟩ | ⟨q, _⟩
  · exfalso
    obtain ⟨m1, m2⟩ := most_nums
    unfold nxtN at q
    rw [m1, m2] at q
    have hp := e2_pos 2045
    generalize e2 2045 = P at *
    have e4 : (9007199254740991 * P + (9007199254740991 * P + P)) * B = 18014398509481983 * (P * B) := by
      rw [← Int.mul_assoc]; congr 1; omega
    rw [e4] at q
    have := Int.mul_pos hp hB
    omega
  · exact q
theorem ex_fit {N e b E : Int} (h : ExIs N e b E) (hs : 2 * exN N e < e2 971 * exD e) : E = 0 := by
  refine round_fit (scB_pos' (exD_pos e)) h ?_
  rw [scB_flat]
  unfold scA
  have s : e2 2045 = e2 971 * e2 (0 + 1074) := by rw [← e2_add (by omega) (by omega)]; congr 1
  rw [s, Int.mul_right_comm, ← Int.mul_assoc]
  exact Int.mul_lt_mul_of_pos_right hs (e2_pos _)
namespace Lx
/-- a digit that isn't zero, and zeros -/
def farL (d : UInt8) (n : Nat) : B := d :: List.replicate n 48
theorem farL_dig {d : UInt8} (h0 : 49 ≤ d.toNat) (h1 : d.toNat ≤ 57) (n : Nat) : ∀ c ∈ farL d n, isD c = true := fun c hc => by
  rcases List.mem_cons.mp hc with rfl | hc
  · unfold isD; simp; omega
  · rw [(List.mem_replicate.mp hc).2]; rfl
theorem farL_lead {d : UInt8} (h0 : 49 ≤ d.toNat) (n : Nat) : lead (farL d n) := ⟨d, _, rfl, fun q => by rw [q] at h0; exact absurd h0 (by decide)⟩
theorem farL_len (d : UInt8) (n : Nat) : (farL d n).length = n + 1 := by unfold farL; simp
theorem farL_nv (b : Int) {d : UInt8} (h0 : 49 ≤ d.toNat) (h1 : d.toNat ≤ 57) (n : Nat) : nv b (farL d n) = ((d.toNat : Int) - 48) * b ^ n := by
  unfold farL
  rw [nv_cons, nv_zeros (fun c hc => (List.mem_replicate.mp hc).2), List.length_replicate, Int.add_zero]
  congr 1
  unfold valN
  rw [if_pos (by omega)]
theorem kept_of {cs l : B} (hl : l.length ≤ 65536) (h : lead l) (ha : ∀ c ∈ l, cs.contains c = true) : keptB cs l = true := by
  unfold keptB
  rw [decide_eq_true hl, List.all_eq_true.mpr ha]
  obtain ⟨c, r, rfl, hc⟩ := h
  simp [fst]
  exact hc
theorem isD_digs {c : UInt8} (h : isD c = true) : digs9.contains c = true := by
  have := digits_has c
  rw [h] at this
  exact this
theorem isD_smal {c : UInt8} (h : isD c = true) : smal9.contains c = true := by
  have h2 := isD_digs h
  unfold digs9 at h2
  unfold smal9
  simp only [List.contains_cons, List.contains_nil, Bool.or_eq_true, Bool.or_false] at h2 ⊢
  rcases h2 with h2 | h2 | h2 | h2 | h2 | h2 | h2 | h2 | h2 | h2 <;> simp [h2]
end Lx
theorem ref_dec {l : B} {e : Int} (hl : l.length ≤ 65536) (h : lead l) (hd : ∀ c ∈ l, isD c = true) (e0 : -1073741824 ≤ e) (e1 : e ≤ 1073741824) : refE 1 l e [] = 0 := by
  have hr : rightB 1 l e [] = true := by
    unfold rightB
    rw [if_pos rfl, kept_of hl h (fun c hc => isD_digs (hd c hc))]
    unfold withB
    simp; omega
  unfold refE
  rw [hr, if_pos rfl, if_neg (fun q => absurd q.1 (by decide))]
theorem ref_hex {l : B} {e : Int} (hl : l.length ≤ 65536) (h : lead l) (hd : ∀ c ∈ l, smal9.contains c = true) (e0 : -1073741824 ≤ e) (e1 : e ≤ 1073741824) : refE 2 l e [] = 0 := by
  have hr : rightB 2 l e [] = true := by
    unfold rightB
    rw [if_neg (by decide), if_pos rfl, kept_of hl h hd]
    unfold withB
    simp; omega
  unfold refE
  rw [hr, if_pos rfl, if_neg (fun q => absurd q.1 (by decide))]
theorem ref_rat {l m : B} (hl : l.length ≤ 65536) (h : lead l) (hd : ∀ c ∈ l, isD c = true) (hm : m.length ≤ 65536) (h' : lead m) (hd' : ∀ c ∈ m, isD c = true) : refE 3 l 0 m = 0 := by
  have hr : rightB 3 l 0 m = true := by
    unfold rightB
    rw [if_neg (by decide), if_neg (by decide), if_pos rfl, kept_of hl h (fun c hc => isD_digs (hd c hc)), kept_of hm h' (fun c hc => isD_digs (hd' c hc))]
    rfl
  unfold refE
  rw [hr, if_pos rfl, if_neg]
  rintro ⟨_, q⟩
  subst q
  exact absurd h'.pos (by simp)
theorem lead_ne {l : B} (h : lead l) : l ≠ [] := fun q => by subst q; exact absurd h.pos (by simp)
theorem far_one {d : UInt8} (h0 : 49 ≤ d.toNat) (h1 : d.toNat ≤ 57) {n : Nat} (hn : n ≤ 3000) {ng : Bool} {b E : Int} (h : BitsIs 1 ng (farL d n) (-(n : Int)) [] b E) : BitsIs 1 ng [d] 0 [] b E ∧ E = 0 := by
  have hr := ref_dec (l := farL d n) (e := -(n : Int)) (by rw [farL_len]; omega) (farL_lead h0 n) (farL_dig h0 h1 n) (by omega) (by omega)
  have hr' := ref_dec (l := farL d 0) (e := 0) (by rw [farL_len]; omega) (farL_lead h0 0) (farL_dig h0 h1 0) (by omega) (by omega)
  rcases h with ⟨a1, _⟩ | ⟨_, a2, _⟩ | ⟨a1, a2, m, F, a3, a4⟩
  · exact absurd hr a1
  · exact absurd a2 (lead_ne (farL_lead h0 n))
  · have a5 : ExIs ((d.toNat : Int) - 48) 0 m F := by
      unfold ValIs at a3
      rw [if_pos rfl, farL_nv 10 h0 h1] at a3
      have := (ex_shift (m := (d.toNat : Int) - 48) (e := -(n : Int)) n).mp a3
      rw [show -(n : Int) + n = 0 by omega] at this
      exact this
    have a6 : ValIs 1 (farL d 0) 0 [] m F := by
      unfold ValIs
      rw [if_pos rfl, farL_nv 10 h0 h1, Int.pow_zero, Int.mul_one]; exact a5
    have hF : F = 0 := by
      refine ex_fit a5 ?_
      have e1 : exN ((d.toNat : Int) - 48) 0 = (d.toNat : Int) - 48 := by unfold exN; rw [if_pos (by omega)]; simp
      have e2' : exD 0 = 1 := rfl
      have e3 : e2 971 = e2 10 * e2 961 := by rw [← e2_add (by omega) (by omega)]; congr 1
      have e4 : e2 10 = 1024 := rfl
      have := e2_pos 961
      rw [e1, e2', e3, e4]
      omega
    refine ⟨Or.inr (Or.inr ⟨hr', lead_ne (farL_lead h0 0), m, F, a6, a4⟩), ?_⟩
    rcases a4 with ⟨x1, _⟩ | ⟨_, x2, _⟩
    · exact absurd hF x1
    · exact x2
theorem far_over {d : UInt8} (h0 : 49 ≤ d.toNat) (h1 : d.toNat ≤ 57) {n : Nat} (hn : n ≤ 3000) {ng : Bool} {b E : Int} (h : BitsIs 1 ng (farL d n) 1073741824 [] b E) : E = 70 := by
  have hr := ref_dec (l := farL d n) (e := 1073741824) (by rw [farL_len]; omega) (farL_lead h0 n) (farL_dig h0 h1 n) (by omega) (by omega)
  refine ((bits_val (m := 0) (F := 70) hr (lead_ne (farL_lead h0 n)) ?_ h).1 (by decide)).2
  unfold ValIs
  rw [if_pos rfl, farL_nv 10 h0 h1]
  refine ex_huge (L := n) ?_ (by omega)
  have p : (0 : Int) < 10 ^ n := Int.pow_pos (by omega)
  have e : pTen n = 10 ^ n := rfl
  rw [e]
  have := Int.mul_le_mul_of_nonneg_right (show (1 : Int) ≤ (d.toNat : Int) - 48 by omega) (Int.le_of_lt p)
  omega
theorem far_none {d : UInt8} (h0 : 49 ≤ d.toNat) (h1 : d.toNat ≤ 57) {n : Nat} (hn : n ≤ 3000) {ng : Bool} {b E : Int} (h : BitsIs 1 ng (farL d n) (-1073741824) [] b E) : E = 0 ∧ b = sgB ng := by
  have hr := ref_dec (l := farL d n) (e := -1073741824) (by rw [farL_len]; omega) (farL_lead h0 n) (farL_dig h0 h1 n) (by omega) (by omega)
  have q := (bits_val (m := 0) (F := 0) hr (lead_ne (farL_lead h0 n)) ?_ h).2 rfl
  · rw [Int.zero_add] at q
    exact ⟨q.2, q.1⟩
  · unfold ValIs
    rw [if_pos rfl]
    have lt := nv_lt (b := 10) (by omega) (okB_ten (farL_dig h0 h1 n))
    rw [farL_len] at lt
    have ge := (farL_lead h0 n).ge (b := 10) (by omega)
    have p : (0 : Int) < 10 ^ ((farL d n).length - 1) := Int.pow_pos (by omega)
    exact ex_tiny (L := n + 1) (by omega) lt (by omega)
theorem far_hex0 {d : UInt8} (h0 : 49 ≤ d.toNat) (h1 : d.toNat ≤ 57) {n : Nat} (hn : n ≤ 3000) {ng : Bool} {b E : Int} (h : BitsIs 2 ng (farL d n) (-1073741824) [] b E) : E = 0 ∧ b = sgB ng := by
  have hr := ref_hex (l := farL d n) (e := -1073741824) (by rw [farL_len]; omega) (farL_lead h0 n) (fun c hc => isD_smal (farL_dig h0 h1 n c hc)) (by omega) (by omega)
  have q := (bits_val (m := 0) (F := 0) hr (lead_ne (farL_lead h0 n)) ?_ h).2 rfl
  · rw [Int.zero_add] at q
    exact ⟨q.2, q.1⟩
  · unfold ValIs
    rw [if_neg (by decide), if_pos rfl]
    have lt := nv_lt (b := 16) (by omega) (fun c hc => smal_val (isD_smal (farL_dig h0 h1 n c hc)))
    rw [farL_len, hex_pow] at lt
    have ge := (farL_lead h0 n).ge (b := 16) (by omega)
    have p : (0 : Int) < 16 ^ ((farL d n).length - 1) := Int.pow_pos (by omega)
    have := cut_tiny (M := nv 16 (farL d n)) (L := ((4 * (n + 1) : Nat) : Int)) (x := -1073741824) (by omega) lt (by omega) (by omega)
    have hs : sgB false = 0 := rfl
    have r := (round_tiny (mode := 0) (more := false) (neg := false) (scB_pos' (x := -1073741824) (show (0 : Int) < 1 by omega)) (Or.inl this.1) (Int.le_of_lt this.1) this.2).2 (by omega)
    rw [hs] at r
    exact r
theorem far_hex1 {d : UInt8} (h0 : 49 ≤ d.toNat) (h1 : d.toNat ≤ 57) {n : Nat} (hn : n ≤ 3000) {ng : Bool} {b E : Int} (h : BitsIs 2 ng (farL d n) 1073741824 [] b E) : E = 70 := by
  have hr := ref_hex (l := farL d n) (e := 1073741824) (by rw [farL_len]; omega) (farL_lead h0 n) (fun c hc => isD_smal (farL_dig h0 h1 n c hc)) (by omega) (by omega)
  refine ((bits_val (m := 0) (F := 70) hr (lead_ne (farL_lead h0 n)) ?_ h).1 (by decide)).2
  unfold ValIs
  rw [if_neg (by decide), if_pos rfl]
  have ge := (farL_lead h0 n).ge (b := 16) (by omega)
  rw [farL_len, hex_pow] at ge
  refine (round_huge (mode := 0) (more := false) (neg := false) (scB_pos' (by omega)) (cut_huge (L := ((4 * n : Nat) : Int) + 1) ?_ (by omega) (by omega))).1 (by omega)
  rw [Int.add_sub_cancel]
  exact ge
theorem far_rat {d : UInt8} (h0 : 49 ≤ d.toNat) (h1 : d.toNat ≤ 57) {n : Nat} (hn : n ≤ 3000) {ng : Bool} {b E : Int} (h : BitsIs 3 ng [49] 0 (farL d n) b E) : E = 0 ∧ (329 ≤ n → b = sgB ng) := by
  have l1 : lead ([49] : B) := ⟨49, [], rfl, by decide⟩
  have hr := ref_rat (l := [49]) (m := farL d n) (by decide) l1 (by decide) (by rw [farL_len]; omega) (farL_lead h0 n) (farL_dig h0 h1 n)
  have n1 : nv 10 [49] = 1 := by rw [nv_one]; rfl
  have ge := (farL_lead h0 n).ge (b := 10) (by omega)
  rw [farL_len, Nat.add_sub_cancel] at ge
  have p : (0 : Int) < 10 ^ n := Int.pow_pos (by omega)
  rcases h with ⟨a1, _⟩ | ⟨_, a2, _⟩ | ⟨a1, a2, m, F, a3, a4⟩
  · exact absurd hr a1
  · exact absurd a2 (by decide)
  · unfold ValIs at a3
    rw [if_neg (by decide), if_neg (by decide), n1, scB_flat] at a3
    have hF : F = 0 := by
      refine round_fit (by omega) a3 ?_
      unfold scA
      have s : e2 2045 = e2 971 * e2 (0 + 1074) := by rw [← e2_add (by omega) (by omega)]; congr 1
      have e3 : e2 971 = e2 10 * e2 961 := by rw [← e2_add (by omega) (by omega)]; congr 1
      have e4 : e2 10 = 1024 := rfl
      have q1 := e2_pos 961
      have q2 := e2_pos (0 + 1074)
      have q3 : 2 * (1 * e2 (0 + 1074)) < e2 2045 := by
        rw [s, e3, e4, Int.one_mul]
        exact Int.mul_lt_mul_of_pos_right (by omega) q2
      have q4 : e2 2045 * 1 ≤ e2 2045 * nv 10 (farL d n) := Int.mul_le_mul_of_nonneg_left (by omega) (Int.le_of_lt (e2_pos _))
      omega
    subst hF
    rcases a4 with ⟨x1, _⟩ | ⟨_, x2, x3⟩
    · exact absurd rfl x1
    · refine ⟨x2, fun hk => ?_⟩
      have hs : sgB false = 0 := rfl
      have r := (round_tiny (A := scA 1 0) (B := nv 10 (farL d n)) (mode := 0) (more := false) (neg := false) (by omega) (Or.inl (Int.mul_pos (by omega) (e2_pos _))) (Int.le_of_lt (Int.mul_pos (by omega) (e2_pos _))) ?_).2 (by omega)
      · rw [hs] at r
        have := (roundIs_uniq (by omega) a3 r).1
        rw [x3, this, Int.zero_add]
      · have k1 := pT_lt low_nat
        have k2 : pTen 324 ≤ pTen n := pTen_mono (by omega)
        have k3 : pTen n = 10 ^ n := rfl
        have k4 : 2 * scA 1 0 = pTwo 1075 := by
          rw [scA_flat, Int.one_mul]
          have := pTwo_add 1 1074
          exact this.symm
        omega
end Go.Proofs.YtjeoiffloghonaaGreatDoor

/- AtofFar. -/
namespace Go.Proofs.YtjeoiffloghonaaGreatDoor
open Go.ChangeShapes Go.WideShapes Go.ChangeAt Go.RowKit
open Na Ar Lx
set_option linter.unusedVariables false
theorem into11_any {n top : Int} (h0 : 0 < top) (h1 : top ≤ 1000000) (w : World) :
    Calls Tryz.prog 13 #[.int .i64 n, .int .i64 top] w fun e w' => e = .returned (.int .i64 (n % top)) ∧ w' = w := by
  have z : (top == 0) = false := by simp; omega
  have hne : ¬ top = -1 := by omega
  have hz0 : ¬ top = 0 := by omega
  have e1 : n.tmod top < top := Int.tmod_lt_of_pos n h0
  have e2 : -top < n.tmod top := Int.lt_tmod_of_pos n h0
  have hd := Int.emod_emod_of_dvd n (Int.dvd_refl top)
  have hm : n % top = if n.tmod top < 0 then n.tmod top + top else n.tmod top := by
    have q1 := Int.emod_nonneg n hz0
    have q2 := Int.emod_lt_of_pos n h0
    have hN : (top.natAbs : Int) = top := by omega
    rw [Int.tmod_eq_emod]
    split
    · split <;> omega
    · rw [hN]; split <;> omega
  rw [hm]
  clear hm hd
  generalize hq : n.tmod top = q at *
  by_cases h : q < 0
  · rw [if_pos h]
    have d : decide (q < 0) = true := by simp; omega
    go_enter Tryz.func13, Tryz.ntmps13
    go_wp2
    go_ret
    exact ⟨rfl, rfl⟩
  · rw [if_neg h]
    have d : decide (q < 0) = false := by simp; omega
    go_enter Tryz.func13, Tryz.ntmps13
    go_wp2
    go_ret
    exact ⟨rfl, rfl⟩
theorem info11_u8 : (Tryz.prog.info? 5).map (fun i => (i.zero, i.size, i.bytes)) = some (some (.int .u8 0), 1, 1) := by kernel_rfl
theorem rep_set (m : Nat) (x : Int) : (List.replicate (m + 1) (48 : Int)).set 0 x = x :: List.replicate m 48 := by rw [List.replicate_succ]; rfl
theorem bytes_far (d : UInt8) (m : Nat) : (⟨(bytesOf ((d.toNat : Int) :: List.replicate m 48)).toArray⟩ : ByteArray) = str (farL d m) := by
  unfold str farL bytesOf
  rw [List.map_cons, List.map_replicate]
  congr 3
  simp
set_option maxHeartbeats 3200000 in
set_option maxRecDepth 100000 in
theorem far_walk {n c : Int} {b2 : Bool} (i0 : -9223372036854775808 ≤ n) (i1 : n ≤ 9223372036854775807) (c0 : 0 ≤ c) (c1 : c ≤ 255) {w : World} (hT : TenVar w) (hG : GrVar w) :
    Calls Tryz.prog 4 #[.int .i64 n, .int .u8 c, .bool b2] w fun r w' => r = .returned (.bool true) ∧ Below w.heap.size w w' := by
  obtain ⟨i_u8, hi_u8, hz0_u8, hz1_u8, hz2_u8⟩ := info_parts info11_u8
  have hI := fun w => into11_any (n := n) (top := 3000) (by omega) (by omega) w
  obtain ⟨m, hm, hm9⟩ : ∃ m : Nat, n % 3000 = (m : Int) ∧ m < 3000 := ⟨(n % 3000).toNat, by omega, by omega⟩
  rw [hm] at hI
  have w1' : IntKind.i64.wrap (1 + (m : Int)) = ((m + 1 : Nat) : Int) := by rw [wrapI (by omega) (by omega)]; omega
  obtain ⟨d, hd, h0, h1⟩ : ∃ d : UInt8, (d.toNat : Int) = 49 + c % 9 ∧ 49 ≤ d.toNat ∧ d.toNat ≤ 57 := by
    refine ⟨UInt8.ofNat (49 + c % 9).toNat, ?_, ?_, ?_⟩ <;> rw [UInt8.toNat_ofNat'] <;> omega
  have ec : c.tmod 9 = c % 9 := Int.tmod_eq_emod_of_nonneg c0
  have w2' : IntKind.u8.wrap (49 + c % 9) = (d.toNat : Int) := by
    rw [hd]
    show (49 + c % 9) % 256 = _
    omega
  clear hm hd
  go_enter Tryz.func4, Tryz.ntmps4
  go_wp2_with fail
  refine (hI _).mono ?_
  rintro r wA ⟨rfl, hwA⟩
  rw [hwA]
  clear hI hwA
  go_wp2_with (at_make; refine wpList_make_full _ rfl _ _ 33 rfl w.heap.size 5 i_u8 (.int .u8 0) 1 Tryz.underlying33 hi_u8 hz0_u8 hz1_u8 .i64 .i64 _ _ (m + 1) rfl rfl (by omega) (by omega) (by rw [hz2_u8]; omega) (by unfold maxLen; omega) (Nat.le_refl _) ?_)
  intro w6 hmade hgr
  have hown := own_zeros hmade
  have hb6 : Below w.heap.size w w6 := (Below.refl _ _).grown hgr (Nat.le_refl _) (fun k hk => by cases hk)
  obtain ⟨g2, hg2⟩ : ∃ g2, g2 = w.heap.size := ⟨_, rfl⟩
  rw [← hg2] at hown ⊢
  have HG2 : Hid (w.heap.size = g2) := hg2.symm
  have hbz := BO.of_own hown (by simp)
  have hzf : ZF (List.replicate (m + 1) (0 : Int)) (m + 1) 0 := ⟨by simp, fun i hi => by omega⟩
  generalize List.replicate (m + 1) (0 : Int) = zs0 at *
  clear hmade hgr hg2 hown
  go_wp2_with fail
  go_loopw [10] (fun i wz => ∃ (k : Nat) (zs : List Int), i = .int .i64 (k : Int) ∧ k ≤ m + 1 ∧ ZF zs (m + 1) k ∧ BO wz g2 zs ∧ In g2 (g2 + 1) w6 wz) (fun i _ => m + 1 - (RowKit.intOf i).toNat)
  case atStart => exact ⟨0, zs0, rfl, by omega, hzf, hbz, In.refl _ _ _⟩
  case round =>
    obtain ⟨k, zs, rfl, hk, hzk, hoz, hin2⟩ := hrel
    by_cases hlt2 : k < m + 1
    · have hzl := hzk.1
      have hce := hoz.2.1 k (by omega)
      have hfz := hoz.2.2 k (by omega)
      have hset := hoz.set (j := k) (by omega) 48
      have hzn := hzk.set hlt2
      have tlt : decide ((k : Int) < ((m + 1 : Nat) : Int)) = true := by simp; omega
      clear hoz hbz hzl
      go_wp2
      go_roundw
      case rel => exact ⟨k + 1, _, by go_num, by omega, hzn, hset, hin2.set1 _ _⟩
      case measure => simp [RowKit.intOf]; omega
    · have hkM : k = m + 1 := by omega
      rw [hkM] at hzk
      rw [hzk.all] at hoz
      have hb7 := below_inn hb6 hin2 (by have := HG2.out; omega) (Nat.le_refl _)
      have hce := hoz.2.1 0 (by simp)
      have hfz := hoz.2.2 0 (by simp)
      have hset := hoz.set (j := 0) (by simp) (d.toNat : Int)
      rw [rep_set] at hset
      have hb8 : Below w.heap.size w (wr.setCell ⟨g2, 0, none⟩ (.int .u8 (d.toNat : Int))) := below_inn hb6 (hin2.set1 0 _) (by have := HG2.out; omega) (Nat.le_refl _)
      have cz := hset.conv (N := m + 1) (cap := m + 1) (by simp) (fun x hx => by
        rcases List.mem_cons.mp hx with rfl | hx
        · omega
        · have := List.eq_of_mem_replicate hx; omega)
      rw [bytes_far] at cz
      subst hkM
      have tlt : decide (((m + 1 : Nat) : Int) < ((m + 1 : Nat) : Int)) = false := by simp
      have cd : ∀ W : World, (convert 33 9 (.slice (some ⟨W.heap.size, 0, none⟩) 1 1)).run Tryz.prog (W.alloc (.cells #[.int .u8 (d.toNat : Int)] 5)) = .ok (.string (str [d])) (W.alloc (.cells #[.int .u8 (d.toNat : Int)] 5)) := fun W => by
        have := run_convert_bytes_back (P := Tryz.prog) (W.alloc (.cells #[.int .u8 (d.toNat : Int)] 5)) 33 9 5 ⟨W.heap.size, 0, none⟩ 1 [d] Tryz.underlying33 Tryz.underlying5 Tryz.underlying9 (fun j hj => by
          have : j = 0 := by simpa using hj
          subst this
          exact (Bk.new W 5 #[.int .u8 (d.toNat : Int)]).cell 0 rfl)
        exact this
      clear hin2 hb6 hzk hzf hbz hoz hb7
      have cd2 : ∀ (W : World) (a : Addr) (v : Value) (o : Obj), (convert 33 9 (.slice (some ⟨W.heap.size + 1, 0, none⟩) 1 1)).run Tryz.prog (((W.setCell a v).alloc o).alloc (.cells #[.int .u8 (d.toNat : Int)] 5)) = .ok (.string (str [d])) (((W.setCell a v).alloc o).alloc (.cells #[.int .u8 (d.toNat : Int)] 5)) := fun W a v o => by
        have := cd ((W.setCell a v).alloc o)
        simp only [World.size_alloc, World.size_setCell] at this
        exact this
      have wsz : IntKind.i64.wrap (1 - ((m : Int) + 1)) = -(m : Int) := by rw [wrapI (by omega) (by omega)]; omega
      obtain ⟨W2, hW2⟩ : ∃ W2, W2 = (((wr.setCell ⟨g2, 0, none⟩ (.int .u8 (d.toNat : Int))).alloc (.cells #[.int .i64 1, .bool b2, .string (str (farL d m)), .int .i64 (-(m : Int)), .string ⟨#[]⟩] 23)).alloc (.cells #[.int .u8 (d.toNat : Int)] 5)).alloc (.cells #[.int .i64 1, .bool b2, .string (str [d]), .int .i64 0, .string ⟨#[]⟩] 23) := ⟨_, rfl⟩
      have BX : Bk W2 wr.heap.size 23 (numC 1 b2 (str (farL d m)) (-(m : Int)) ⟨#[]⟩) := by
        have := ((Bk.new (wr.setCell ⟨g2, 0, none⟩ (.int .u8 (d.toNat : Int))) 23 (numC 1 b2 (str (farL d m)) (-(m : Int)) ⟨#[]⟩)).later ((Below.refl _ _).alloc (Nat.le_refl _) (.cells #[.int .u8 (d.toNat : Int)] 5))).later ((Below.refl _ _).alloc (Nat.le_refl _) (.cells #[.int .i64 1, .bool b2, .string (str [d]), .int .i64 0, .string ⟨#[]⟩] 23))
        rw [World.size_setCell] at this
        rw [hW2]
        exact this
      have BY : Bk W2 (wr.heap.size + 1 + 1) 23 (numC 1 b2 (str [d]) 0 ⟨#[]⟩) := by
        have := Bk.new (((wr.setCell ⟨g2, 0, none⟩ (.int .u8 (d.toNat : Int))).alloc (.cells #[.int .i64 1, .bool b2, .string (str (farL d m)), .int .i64 (-(m : Int)), .string ⟨#[]⟩] 23)).alloc (.cells #[.int .u8 (d.toNat : Int)] 5)) 23 (numC 1 b2 (str [d]) 0 ⟨#[]⟩)
        simp only [World.size_alloc, World.size_setCell] at this
        rw [hW2]
        exact this
      have BW : Below w.heap.size w W2 := by
        rw [hW2]
        have s := hb8.size
        rw [World.size_setCell] at s
        exact ((hb8.alloc (by simpa using s) _).alloc (by simp; omega) _).alloc (by simp; omega) _
      -- the calls
      have hgx : w.heap.size ≤ wr.heap.size := by have s := hb8.size; rw [World.size_setCell] at s; exact s
      have hWs : wr.heap.size < W2.heap.size := BX.lt
      go_wp2_with fail
      rw [← hW2]
      clear hW2 cd cd2 cz hb8 hset hce hfz w2' ec hi_u8 hz0_u8 hz1_u8 hz2_u8 hlt2 tlt hk wsz w1'
      obtain ⟨gx, hx⟩ : ∃ gx, gx = wr.heap.size := ⟨_, rfl⟩
      rw [← hx] at BX BY hgx hWs ⊢
      clear hx
      have hS := str_size (farL d m)
      rw [farL_len] at hS
      have hS1 : (str [d]).size = 1 := rfl
      have x0 := BX.cell 0 (v := .int .i64 1) rfl
      have x1 := BX.cell 1 (v := .bool b2) rfl
      have x2 := BX.cell 2 (v := .string (str (farL d m))) rfl
      have x3 := BX.cell 3 (v := .int .i64 (-(m : Int))) rfl
      have x4 := BX.cell 4 (v := .string ⟨#[]⟩) rfl
      have f0 := BX.frozen 0
      have f3 := BX.frozen 3
      have hc := bits11_any 1 b2 (str (farL d m)) (-(m : Int)) ⟨#[]⟩ (by omega) (by decide) (hG.later BW) (hT.later BW)
      unfold numC at hc
      refine hc.mono ?_
      rintro r V1 ⟨p, E1, rfl, hq, ub, hb⟩
      rw [str_list] at hq
      obtain ⟨hp, rfl⟩ := far_one h0 h1 (by omega) hq
      have HP : Hid (BitsIs 1 b2 [d] 0 [] p 0) := hp
      clear hq hp
      clear x0 x1 x2 x3 x4 f0 f3
      have BX := BX.later hb
      have BY := BY.later hb
      have BW := BW.trans (hb.mono BW.size)
      clear hb hc ub
      have x0 := BX.cell 0 (v := .int .i64 1) rfl
      have x1 := BX.cell 1 (v := .bool b2) rfl
      have x2 := BX.cell 2 (v := .string (str (farL d m))) rfl
      have x3 := BX.cell 3 (v := .int .i64 (-(m : Int))) rfl
      have x4 := BX.cell 4 (v := .string ⟨#[]⟩) rfl
      have f0 := BX.frozen 0
      have f3 := BX.frozen 3
      have y0 := BY.cell 0 (v := .int .i64 1) rfl
      have y1 := BY.cell 1 (v := .bool b2) rfl
      have y2 := BY.cell 2 (v := .string (str [d])) rfl
      have y3 := BY.cell 3 (v := .int .i64 0) rfl
      have y4 := BY.cell 4 (v := .string ⟨#[]⟩) rfl
      have hc := bits11_any 1 b2 (str [d]) 0 ⟨#[]⟩ (by omega) (by decide) (hG.later BW) (hT.later BW)
      unfold numC at hc
      go_wp2_with fail
      refine hc.mono ?_
      rintro r V2 ⟨q, E2, rfl, hq, ub, hb⟩
      obtain ⟨rfl, rfl⟩ := bits_uniq hq HP.out
      clear hq y0 y1 y2 y3 y4
      clear x0 x1 x2 x3 x4 f0 f3
      have BX := BX.later hb
      have BY := BY.later hb
      have BW := BW.trans (hb.mono BW.size)
      clear hb hc ub
      clear BY
      have x0 := BX.cell 0 (v := .int .i64 1) rfl
      have x1 := BX.cell 1 (v := .bool b2) rfl
      have x2 := BX.cell 2 (v := .string (str (farL d m))) rfl
      have x3 := BX.cell 3 (v := .int .i64 (-(m : Int))) rfl
      have x4 := BX.cell 4 (v := .string ⟨#[]⟩) rfl
      have f0 := BX.frozen 0
      have f3 := BX.frozen 3
      obtain ⟨V2s, hV2s⟩ : ∃ W, W = V2.setCell ⟨gx, 3, none⟩ (.int .i64 1073741824) := ⟨_, rfl⟩
      have BXs : Bk V2s gx 23 (numC 1 b2 (str (farL d m)) 1073741824 ⟨#[]⟩) := by rw [hV2s]; exact Bk.set BX 3 _
      have BWs : Below w.heap.size w V2s := by rw [hV2s]; exact Tn.below BW ((Tn.refl gx _).set 3 _) hgx (Nat.le_refl _)
      have hc := bits11_any 1 b2 (str (farL d m)) 1073741824 ⟨#[]⟩ (by omega) (by decide) (hG.later BWs) (hT.later BWs)
      unfold numC at hc
      go_wp2_with fail
      rw [← hV2s]
      refine hc.mono ?_
      rintro r V3 ⟨bb, EE, rfl, hq, ub, hb⟩
      rw [str_list] at hq
      obtain rfl := far_over h0 h1 (by omega) hq
      clear hq x0 x1 x2 x3 x4 f0 f3 BX BW hV2s
      have BX := BXs.later hb
      have BW := BWs.trans (hb.mono BWs.size)
      clear hb hc ub BXs BWs
      have x0 := BX.cell 0 (v := .int .i64 1) rfl
      have x1 := BX.cell 1 (v := .bool b2) rfl
      have x2 := BX.cell 2 (v := .string (str (farL d m))) rfl
      have x3 := BX.cell 3 (v := .int .i64 1073741824) rfl
      have x4 := BX.cell 4 (v := .string ⟨#[]⟩) rfl
      have f0 := BX.frozen 0
      have f3 := BX.frozen 3
      obtain ⟨V3s, hV3s⟩ : ∃ W, W = V3.setCell ⟨gx, 3, none⟩ (.int .i64 (-1073741824)) := ⟨_, rfl⟩
      have BXs : Bk V3s gx 23 (numC 1 b2 (str (farL d m)) (-1073741824) ⟨#[]⟩) := by rw [hV3s]; exact Bk.set BX 3 _
      have BWs : Below w.heap.size w V3s := by rw [hV3s]; exact Tn.below BW ((Tn.refl gx _).set 3 _) hgx (Nat.le_refl _)
      have hc := bits11_any 1 b2 (str (farL d m)) (-1073741824) ⟨#[]⟩ (by omega) (by decide) (hG.later BWs) (hT.later BWs)
      unfold numC at hc
      go_wp2_with fail
      rw [← hV3s]
      refine hc.mono ?_
      rintro r V4 ⟨bb, EE, rfl, hq, ub, hb⟩
      rw [str_list] at hq
      obtain ⟨rfl, rfl⟩ := far_none h0 h1 (by omega) hq
      clear hq x0 x1 x2 x3 x4 f0 f3 BX BW hV3s
      have BX := BXs.later hb
      have BW := BWs.trans (hb.mono BWs.size)
      clear hb hc ub BXs BWs
      have x0 := BX.cell 0 (v := .int .i64 1) rfl
      have x1 := BX.cell 1 (v := .bool b2) rfl
      have x2 := BX.cell 2 (v := .string (str (farL d m))) rfl
      have x3 := BX.cell 3 (v := .int .i64 (-1073741824)) rfl
      have x4 := BX.cell 4 (v := .string ⟨#[]⟩) rfl
      have f0 := BX.frozen 0
      have f3 := BX.frozen 3
      obtain ⟨V4s, hV4s⟩ : ∃ W, W = V4.setCell ⟨gx, 0, none⟩ (.int .i64 2) := ⟨_, rfl⟩
      have BXs : Bk V4s gx 23 (numC 2 b2 (str (farL d m)) (-1073741824) ⟨#[]⟩) := by rw [hV4s]; exact Bk.set BX 0 _
      have BWs : Below w.heap.size w V4s := by rw [hV4s]; exact Tn.below BW ((Tn.refl gx _).set 0 _) hgx (Nat.le_refl _)
      have hc := slow11_any 2 b2 (str (farL d m)) (-1073741824) ⟨#[]⟩ (by omega) (by decide) (hG.later BWs)
      unfold numC at hc
      go_wp2_with fail
      rw [← hV4s]
      refine hc.mono ?_
      rintro r V5 ⟨bb, EE, rfl, hq, ub, hb⟩
      rw [str_list] at hq
      obtain ⟨rfl, rfl⟩ := far_hex0 h0 h1 (by omega) hq
      clear hq x0 x1 x2 x3 x4 f0 f3 BX BW hV4s
      have BX := BXs.later hb
      have BW := BWs.trans (hb.mono BWs.size)
      clear hb hc ub BXs BWs
      have x0 := BX.cell 0 (v := .int .i64 2) rfl
      have x1 := BX.cell 1 (v := .bool b2) rfl
      have x2 := BX.cell 2 (v := .string (str (farL d m))) rfl
      have x3 := BX.cell 3 (v := .int .i64 (-1073741824)) rfl
      have x4 := BX.cell 4 (v := .string ⟨#[]⟩) rfl
      have f0 := BX.frozen 0
      have f3 := BX.frozen 3
      obtain ⟨V5s, hV5s⟩ : ∃ W, W = V5.setCell ⟨gx, 3, none⟩ (.int .i64 1073741824) := ⟨_, rfl⟩
      have BXs : Bk V5s gx 23 (numC 2 b2 (str (farL d m)) 1073741824 ⟨#[]⟩) := by rw [hV5s]; exact Bk.set BX 3 _
      have BWs : Below w.heap.size w V5s := by rw [hV5s]; exact Tn.below BW ((Tn.refl gx _).set 3 _) hgx (Nat.le_refl _)
      have hc := slow11_any 2 b2 (str (farL d m)) 1073741824 ⟨#[]⟩ (by omega) (by decide) (hG.later BWs)
      unfold numC at hc
      go_wp2_with fail
      rw [← hV5s]
      refine hc.mono ?_
      rintro r V6 ⟨bb, EE, rfl, hq, ub, hb⟩
      rw [str_list] at hq
      obtain rfl := far_hex1 h0 h1 (by omega) hq
      clear hq x0 x1 x2 x3 x4 f0 f3 BX BW hV5s
      have BX := BXs.later hb
      have BW := BWs.trans (hb.mono BWs.size)
      clear hb hc ub BXs BWs
      have x0 := BX.cell 0 (v := .int .i64 2) rfl
      have x1 := BX.cell 1 (v := .bool b2) rfl
      have x2 := BX.cell 2 (v := .string (str (farL d m))) rfl
      have x3 := BX.cell 3 (v := .int .i64 1073741824) rfl
      have x4 := BX.cell 4 (v := .string ⟨#[]⟩) rfl
      have f0 := BX.frozen 0
      have f3 := BX.frozen 3
      clear HP
      have hA := fun (w1 : World) (h : Below w.heap.size w w1) => alive11_any (hG.later h) (hT.later h)
      have hR := fun (w1 : World) (h : Below w.heap.size w w1) => bits11_any 3 b2 ⟨#[49]⟩ 0 (str (farL d m)) (by decide) (by omega) (hG.later h) (hT.later h)
      have BN : Below w.heap.size w (V6.alloc (.cells (numC 3 b2 ⟨#[49]⟩ 0 (str (farL d m))) 23)) := BW.alloc BW.size _
      have HF : Hid (∀ b E, BitsIs 3 b2 ([49] : B) 0 (farL d m) b E → E = 0 ∧ (329 ≤ m → b = sgB b2)) := fun b E h => far_rat h0 h1 (by omega) h
      have hR := hR _ BN
      unfold numC at hR BN
      rw [str_list] at hR
      cases b2
      all_goals
        go_wp2_with fail
        refine hR.mono ?_
        rintro r W8 ⟨rr, E8, rfl, hq, ub, hb⟩
        obtain ⟨rfl, hz⟩ := HF.out rr E8 hq
        have BW := BN.trans (hb.mono BN.size)
        have hA := hA _ BW
        clear hq HF hR BN hb ub x0 x1 x2 x3 x4 f0 f3 BX
        go_wp2_with fail
        refine hA.mono ?_
        rintro r W9 ⟨rfl, hb⟩
        have BW := BW.trans (hb.mono BW.size)
        clear hA hb
        by_cases hk : m < 329
        · have tk : decide ((m : Int) + 1 < 330) = true := by simp; omega
          clear hz
          go_wp2
          go_ret
          exact ⟨rfl, BW⟩
        · have tk : decide ((m : Int) + 1 < 330) = false := by simp; omega
          obtain rfl := hz (by omega)
          go_wp2
          go_ret
          exact ⟨rfl, BW⟩
end Go.Proofs.YtjeoiffloghonaaGreatDoor

/- AtofFar. -/
namespace Go.Proofs.YtjeoiffloghonaaGreatDoor.atofFar
open Go.ChangeShapes Go.WideShapes Go.ChangeAt Go.RowKit
open Go.ChangeMaps (open_string shut_string)
open Na Ar
set_option linter.unusedVariables false

theorem own : ownKnob Tryz.prog.godebug = none := by kernel_rfl
theorem laidOut : laidOutB Tryz.prog = true := by kernel_rfl
set_option maxRecDepth 100000
theorem laid_mem {P : Program} {w : World} {L : List (String × DataW Unit)} {ps : List MemPlace} {n : String} {d : DataW Unit} (h : DataW.LaidVars P w L ps) (hm : (n, d) ∈ L) :
    ∃ g t cs fuel p, P.globalNamed n = some g ∧ (P.globals[g]?).map (·.type) = some t ∧ w.var? P n = some cs ∧ DataW.trod (fun _ => ()) P w 0 (fun _ => true) false fuel t cs.toList = some (d, p) := by
  induction L generalizing ps with
  | nil => cases hm
  | cons x r ih =>
    obtain ⟨m, e⟩ := x
    obtain ⟨g, t, cs, fuel, p, q, e1, e2, e3, e4, e5, _⟩ := h
    rcases List.mem_cons.1 hm with hx | hx
    · injection hx with h1 h2
      subst h1 h2
      exact ⟨g, t, cs, fuel, p, e1, e2, e3, e4⟩
    · exact ih e5 hx
theorem tenG : Tryz.prog.globalNamed "plumb/lemire.tens" = some 0 := by kernel_rfl
theorem tenT : (Tryz.prog.globals[0]?).map (·.type) = some 167 := by kernel_rfl
theorem cells_u64 : Tryz.prog.cellsOf 25 = 1 := by kernel_rfl
theorem tens_data : (Rows.laid_plumb_lemire_tens : DataW Unit) = .agg (tenL.map fun (n : Nat) => .lit (.int .u64 (n : Int))) := rfl
theorem tenVar_of {W : World} (h : laidMetH Tryz.prog Rows.atofFarRow.laid W) : TenVar W := by
  obtain ⟨ps, hl, _, _⟩ := (laidMetH_iff.1 h).1
  obtain ⟨g, t, cs, fuel, p, e1, e2, e3, e4⟩ := laid_mem hl (n := "plumb/lemire.tens") (d := Rows.laid_plumb_lemire_tens) (List.mem_filter.2 ⟨by first | exact List.Mem.head _ | exact List.Mem.tail _ (List.Mem.head _) | exact List.Mem.tail _ (List.Mem.tail _ (List.Mem.head _)) | exact List.Mem.tail _ (List.Mem.tail _ (List.Mem.tail _ (List.Mem.head _))) | exact List.Mem.tail _ (List.Mem.tail _ (List.Mem.tail _ (List.Mem.tail _ (List.Mem.head _)))) | exact List.Mem.tail _ (List.Mem.tail _ (List.Mem.tail _ (List.Mem.tail _ (List.Mem.tail _ (List.Mem.head _))))), rfl⟩)
  obtain rfl := Option.some.inj (tenG.symm.trans e1)
  obtain rfl := Option.some.inj (tenT.symm.trans e2)
  obtain ⟨xs, m, _, hd, hlen, hx, hi⟩ := DataW.trod_array Tryz.underlying167 e4
  rw [tens_data] at hd
  have hd1 := (Prod.mk.injEq .. ▸ hd : _ ∧ _).1
  injection hd1 with hd2
  intro k hk
  have hik := hi k hk
  rw [cells_u64, Nat.mul_one, List.getElem?_eq_getElem (by omega)] at hik
  obtain ⟨v, hc, hv, _⟩ := DataW.trod_int Tryz.underlying25 hik
  have hm : (xs.map (·.1))[k]? = some (.lit (.int .u64 (tenP k))) := by
    rw [← hd2, List.getElem?_map]
    have : tenL[k]? = some (tenL.getD k 0) := by rw [List.getD_eq_getElem?_getD, List.getElem?_eq_getElem (by show k < 23; exact hk)]; rfl
    rw [this]
    rfl
  rw [List.getElem?_map, List.getElem?_eq_getElem (by omega)] at hm
  have hm2 := Option.some.inj hm
  rw [hv] at hm2
  injection hm2 with hm3
  injection hm3 with _ hm4
  rw [World.var?_cell tenG e3 k, ← hm4]
  have hg : (cs.toList.drop k)[0]? = some (.int .u64 v) := by
    have : ((cs.toList.drop k).take 1)[0]? = some (.int .u64 v) := by rw [hc]; rfl
    rwa [List.getElem?_take_of_lt (by omega)] at this
  rw [List.getElem?_drop, Nat.add_zero] at hg
  rw [← Array.getElem?_toList]
  exact hg
theorem cells_bool : Tryz.prog.cellsOf 4 = 1 := by kernel_rfl
theorem gv : Tryz.prog.globalNamed "plumb/near.stayAtGreatest" = some 2 := by kernel_rfl
theorem gvt : (Tryz.prog.globals[2]?).map (·.type) = some 241 := by kernel_rfl
theorem cells_tab : Tryz.prog.cellsOf 241 = 10 := by kernel_rfl
theorem cells_tabs : Tryz.prog.cellsOf 240 = 2 := by kernel_rfl
theorem open_tabs {w : World} {base fuel : Nat} {spare : Nat → Bool} {held : Bool} {x y : Value} {s t : Bool} {p : List MemPlace} (hf : DataW.trod (H := Unit) (fun _ => ()) Tryz.prog w base spare held fuel 240 [x, y] = some (.agg [.lit (.bool s), .lit (.bool t)], p)) : x = .bool s ∧ y = .bool t := by
  obtain ⟨xs, m, _, hd, hl, hx, hi⟩ := DataW.trod_struct Tryz.underlying240 hf
  have i0 := hi 0 _ rfl
  have i1 := hi 1 _ rfl
  match xs, hx with
  | [x0, x1], _ =>
    simp [cells_bool] at i0 i1
    obtain ⟨b0, e0, f0⟩ := DataW.trod_bool Tryz.underlying4 i0
    obtain ⟨b1, e1, f1⟩ := DataW.trod_bool Tryz.underlying4 i1
    simp at e0 e1
    subst e0 e1 f0 f1
    simp at hd
    exact ⟨by rw [hd.1.1], by rw [hd.1.2]⟩
theorem grVar_of {W : World} (h : laidMetH Tryz.prog Rows.atofFarRow.laid W) : GrVar W := by
  obtain ⟨ps, hl, _, _⟩ := (laidMetH_iff.1 h).1
  obtain ⟨g, t, cs, fuel, p, e1, e2, e3, e4⟩ := laid_mem hl (n := "plumb/near.stayAtGreatest") (d := Rows.laid_plumb_near_stayAtGreatest) (List.mem_filter.2 ⟨by first | exact List.Mem.head _ | exact List.Mem.tail _ (List.Mem.head _) | exact List.Mem.tail _ (List.Mem.tail _ (List.Mem.head _)) | exact List.Mem.tail _ (List.Mem.tail _ (List.Mem.tail _ (List.Mem.head _))) | exact List.Mem.tail _ (List.Mem.tail _ (List.Mem.tail _ (List.Mem.tail _ (List.Mem.head _)))) | exact List.Mem.tail _ (List.Mem.tail _ (List.Mem.tail _ (List.Mem.tail _ (List.Mem.tail _ (List.Mem.head _))))), rfl⟩)
  obtain rfl := Option.some.inj (gv.symm.trans e1)
  obtain rfl := Option.some.inj (gvt.symm.trans e2)
  obtain ⟨xs, m, _, hd, hlen, hx, hi⟩ := DataW.trod_array Tryz.underlying241 e4
  rw [cells_tab] at hlen
  obtain ⟨c0, c1, c2, c3, c4, c5, c6, c7, c8, c9, rfl⟩ : ∃ c0 c1 c2 c3 c4 c5 c6 c7 c8 c9, cs = #[c0, c1, c2, c3, c4, c5, c6, c7, c8, c9] := by
    match cs, hlen with
    | ⟨[c0, c1, c2, c3, c4, c5, c6, c7, c8, c9]⟩, _ => exact ⟨c0, c1, c2, c3, c4, c5, c6, c7, c8, c9, rfl⟩
  have i0 := hi 0 (by omega)
  have i1 := hi 1 (by omega)
  have i2 := hi 2 (by omega)
  have i3 := hi 3 (by omega)
  have i4 := hi 4 (by omega)
  match xs, hx with
  | [(d0, p0), (d1, p1), (d2, p2), (d3, p3), (d4, p4)], _ =>
    simp only [Rows.laid_plumb_near_stayAtGreatest, List.map, Prod.mk.injEq, DataW.agg.injEq, List.cons.injEq] at hd
    obtain ⟨⟨rfl, rfl, rfl, rfl, rfl, _⟩, _⟩ := hd
    simp only [cells_tabs] at i0 i1 i2 i3 i4
    obtain ⟨rfl, rfl⟩ := open_tabs (i0 : _ = some _)
    obtain ⟨rfl, rfl⟩ := open_tabs (i1 : _ = some _)
    obtain ⟨rfl, rfl⟩ := open_tabs (i2 : _ = some _)
    obtain ⟨rfl, rfl⟩ := open_tabs (i3 : _ = some _)
    obtain ⟨rfl, rfl⟩ := open_tabs (i4 : _ = some _)
    have hc := World.var?_cell gv e3
    exact ⟨⟨hc 0, hc 1⟩, ⟨hc 2, hc 3⟩, ⟨hc 4, hc 5⟩, ⟨hc 6, hc 7⟩, hc 8, hc 9⟩
noncomputable def laidBase (os : Os) : World := World.holding Tryz.prog os ⟨#[], #[], []⟩
def plainLaid : List (String × DataW Unit) := Rows.atofFarRow.laid.filter fun x => x.2.handleName?.isNone
noncomputable def laidW (os : Os) : World := (laidBase os).layVars Tryz.prog plainLaid
theorem laidW_os (os : Os) : (laidW os).os = os := World.layVars_os _ _ _
theorem laidW_met (os : Os) (args : Array Value) : laidMetH Tryz.prog Rows.atofFarRow.laid ((laidW os).forCall (fun _ _ => 0) ⟨#[], args, []⟩).memory := by
  refine laidMetH_of_parts ?_ (by kernel_rfl)
  have e1 : (plainLaid.filter fun x => (plainLaid.map (·.1)).contains x.1) = plainLaid := List.filter_eq_self.2 fun x hx => List.contains_iff_mem.2 (List.mem_map.2 ⟨x, hx, rfl⟩)
  have e2 : (plainLaid.filter fun x => !(plainLaid.map (·.1)).contains x.1) = [] := List.filter_eq_nil_iff.2 fun x hx => by rw [List.contains_iff_mem.2 (List.mem_map.2 ⟨x, hx, rfl⟩)]; simp
  have h : laidMet Tryz.prog plainLaid (laidW os) := laidMet_layVars (w0 := laidBase os) (plainLaid.map (·.1)) [] (by rw [e1]; rfl) (by rw [e1]; kernel_rfl) (by rw [e1]; kernel_rfl) (by rw [e2]; exact LaidIn.none)
  exact h.of_heap (by simp [World.memory, World.forCall, Input.heap])
theorem reads (os : Os) {H : Type} (enc : TypeId × Value → H) : ∃ places, DataW.whole enc Tryz.prog ((laidW os).forCall (fun _ _ => 0) ⟨#[], #[.int .i64 0, .int .u8 0, .bool false], []⟩).memory Tryz.f4.params.toList Rows.atofFarSpec.vars false (#[.int .i64 0, .int .u8 0, .bool false] : Array Value).toList 8 = some ([.lit (.int .i64 0), .lit (.int .u8 0), .lit (.bool false)], [], places) :=
  ⟨[], by kernel_rfl⟩
theorem lifted (os : Os) (started : os.Started) (H : Type) (enc : TypeId × Value → H) (F : Stop.Interp) :
    ReturnsInHanded {} Tryz.checked os 4 .any ((OpenSpec.ofChange Rows.atofFarSpec).preRow enc Tryz.prog Tryz.f4 Rows.atofFarRow.domain false Rows.atofFarRow.laid) (((OpenSpec.ofChange Rows.atofFarSpec).at F).post enc Tryz.prog Tryz.f4 false true false false) := by
  obtain ⟨places, hx⟩ := reads os enc
  refine returnsInHanded_of_row (C := Tryz.checked) (s := (OpenSpec.ofChange Rows.atofFarSpec)) own started (by kernel_rfl) Tryz.func4
    (witness_row_atRef (enc := enc) (C := Tryz.checked) false (laidW os) #[.int .i64 0, .int .u8 0, .bool false] (laidW_os os) (by kernel_rfl) (by kernel_rfl) (by kernel_rfl)
      (OpenSpec.preRow_of_cond 8 hx (by kernel_rfl) (fun k hk => by cases hk) (by kernel_rfl) (laidW_met os _))) ?_
  intro W base args ds gs before hval0 hW _ hcond _ hL _ _
  have hval : ∀ (j : Nat) t v, Tryz.f4.params[j]? = some t → args[j]? = some v → Value.okWide Tryz.prog W .any base t v := hval0
  have hW' := hW
  obtain ⟨p, q, hA0, hV, rfl, hfz, hnd⟩ := hW
  have hA : DataW.TrodAll enc Tryz.prog W 0 (fun _ => true) true Tryz.f4.params.toList args.toList ds p := hA0
  rw [Tryz.params4] at hA hval
  obtain ⟨v0, vs0, d0, ds0, p0, q0, hargs, rfl, rfl, h0, r0⟩ := trodAll_cons hA
  obtain ⟨v1, vs1, d1, ds1, p1, q1, rfl, rfl, rfl, h1, r1⟩ := trodAll_cons r0
  obtain ⟨v2, vs2, d2, ds2, p2, q2, rfl, rfl, rfl, h2, r2⟩ := trodAll_cons r1
  obtain ⟨rfl, rfl, rfl⟩ := trodAll_nil r2
  obtain rfl : args = #[v0, v1, v2] := by cases args; simp_all
  obtain ⟨rfl, rfl⟩ := trodVars_none hV
  have k0 := h0
  have lt0 : ∀ x ∈ p0, x.block < W.heap.size := by obtain ⟨m, hm⟩ := k0; exact DataW.trod_lt m _ _ _ hm
  obtain ⟨x0, rfl, g0⟩ : ∃ x : Int, v0 = .int .i64 x ∧ (Lit.int .i64 x).wf = true := by
    obtain ⟨fuel, hf⟩ := h0
    obtain ⟨x, hc, _, hw⟩ := DataW.trod_int Tryz.underlying3 hf
    obtain ⟨y, rfl⟩ := okWide_int Tryz.underlying3 (hval 0 3 v0 rfl rfl)
    simp [Value.cells] at hc
    subst hc
    exact ⟨_, rfl, hw⟩
  simp only [Lit.wf, Bool.and_eq_true, decide_eq_true_eq] at g0
  have G0 : -9223372036854775808 ≤ x0 ∧ x0 ≤ 9223372036854775807 := by have h1 : IntKind.i64.min = -9223372036854775808 := rfl; have h2 : IntKind.i64.max = 9223372036854775807 := rfl; omega
  have k1 := h1
  have lt1 : ∀ x ∈ p1, x.block < W.heap.size := by obtain ⟨m, hm⟩ := k1; exact DataW.trod_lt m _ _ _ hm
  obtain ⟨x1, rfl, g1⟩ : ∃ x : Int, v1 = .int .u8 x ∧ (Lit.int .u8 x).wf = true := by
    obtain ⟨fuel, hf⟩ := h1
    obtain ⟨x, hc, _, hw⟩ := DataW.trod_int Tryz.underlying5 hf
    obtain ⟨y, rfl⟩ := okWide_int Tryz.underlying5 (hval 1 5 v1 rfl rfl)
    simp [Value.cells] at hc
    subst hc
    exact ⟨_, rfl, hw⟩
  simp only [Lit.wf, Bool.and_eq_true, decide_eq_true_eq] at g1
  have G1 : 0 ≤ x1 ∧ x1 ≤ 255 := by have h1 : IntKind.u8.min = 0 := rfl; have h2 : IntKind.u8.max = 255 := rfl; omega
  have k2 := h2
  have lt2 : ∀ x ∈ p2, x.block < W.heap.size := by obtain ⟨m, hm⟩ := k2; exact DataW.trod_lt m _ _ _ hm
  obtain ⟨x2, rfl, _, _⟩ := open_bool Tryz.underlying4 (hval 2 4 v2 rfl rfl) h2
  clear hA0 hval0
  simp only [List.append_nil] at hW'
  refine (far_walk G0.1 G0.2 G1.1 G1.2 (b2 := x2) (tenVar_of hL) (grVar_of hL)).mono fun e W' ⟨he, bel⟩ => ?_
  subst he
  exact ⟨_, rfl, _, _, _, [], _, [], hW', trodAll_mk1 (shut_bool Tryz.underlying4 _), (trodAll_cons_mk (Below.trod laidOut (by kernel_rfl) (of_decide_eq_true (by kernel_rfl)) k0 bel lt0) (trodAll_cons_mk (Below.trod laidOut (by kernel_rfl) (of_decide_eq_true (by kernel_rfl)) k1 bel lt1) (trodAll_cons_mk (Below.trod laidOut (by kernel_rfl) (of_decide_eq_true (by kernel_rfl)) k2 bel lt2) trodAll_mk0))), rfl, bel.frame _, fun h => by cases h⟩
theorem over : Rows.atofFarRow.holds Tryz.pinned (OpenSpec.ofChange Rows.atofFarSpec) :=
  OpenClaim.holds_of_cond 4 Tryz.f4 rfl rfl rfl rfl rfl rfl rfl ⟨rfl, rfl, rfl, rfl, rfl⟩ rfl rfl rfl rfl rfl (by kernel_rfl) Tryz.func4 (by kernel_rfl)
    (of_decide_eq_true (by kernel_rfl)) (by unfold Func.isWrapper; first | (rw [if_pos (by decide +kernel)]; kernel_rfl) | (rw [if_neg (by decide +kernel)]; exact ⟨rfl, rfl⟩))
    (fun os started H enc _ F => by rw [OpenClaim.pre_eq_preRow]; exact lifted os started H enc F)
theorem plain (f : FuncId) (fn : Func) (hf : Tryz.pinned.checked.prog.funcNamed "plumb/plumblaw11.AtofFar" = some f) (hfn : Tryz.pinned.checked.prog.funcs[f]? = some fn) :
    true = Tryz.pinned.checked.prog.looks [] ∧ ∀ (j : Nat) t, fn.params[j]? = some t → Tryz.pinned.checked.prog.wantsStandIn t = false := by
  obtain rfl : f = 4 := Option.some.inj ((show Tryz.prog.funcNamed "plumb/plumblaw11.AtofFar" = some 4 by kernel_rfl).symm.trans hf) |>.symm
  obtain rfl : fn = Tryz.f4 := (Option.some.inj (Tryz.func4.symm.trans hfn)).symm
  refine ⟨by kernel_rfl, fun j t ht => ?_⟩
  rw [Tryz.params4] at ht
  have hall : ∀ t ∈ (Tryz.f4.params).toList, Tryz.prog.wantsStandIn t = false := by
    rw [Tryz.params4]
    intro t ht
    simp only [List.mem_cons, List.mem_nil_iff, or_false] at ht
    rcases ht with rfl | rfl | rfl <;> kernel_rfl
  exact hall t (by rw [Tryz.params4]; exact Array.mem_toList_iff.mpr (Array.mem_of_getElem? ht))
/-- the statement -/
theorem proved : Rows.AtofFarCardSaid :=
  Claim7.holds_tied_plain_at .later [] _ _ _ _ over (fun _ h => by cases h) (by kernel_rfl) (fun _ h => by cases h) atofFar_row_tie rfl ⟨rfl, rfl⟩ (by kernel_rfl) rfl plain (by kernel_rfl)
#print axioms proved
end Go.Proofs.YtjeoiffloghonaaGreatDoor.atofFar

/- AtofRoads. -/
import Derived.Test.YtjeoiffloghonaaGreatDoorAtfH
import Derived.Test.YtjeoiffloghonaaGreatDoorLexParse
import Derived.WalkKit
import Derived.ProofKit
import Derived.OpenShut
import Derived.ShutString
import Derived.ChangeOld
import Derived.Test.YtjeoiffloghonaaGreatDoorLexExp
import Derived.Test.YtjeoiffloghonaaGreatDoorBaseA
import Derived.Lib.BufferRead
import Derived.Test.YtjeoiffloghonaaGreatDoorRadixBackB
import Derived.Deep.DeepCutAuto
import Derived.Test.YtjeoiffloghonaaGreatDoorCards
import Derived.Test.YtjeoiffloghonaaGreatDoorTie
import Derived.Deep.DeepHandedRow
import Derived.Lay
import Derived.LaidSub
import Derived.LaidHandle
import Derived.LaidLaws
import Derived.Stop.Joined
import Derived.SevenTiedAt
import Derived.Below
import Derived.FnData
import Derived.Deep.DeepWitnessRowRef
import Derived.WalkLawsBesides
/- plumblaw11: atof.Parse of a numeral, alive. -/
namespace Go.Proofs.YtjeoiffloghonaaGreatDoor
open Go.ChangeShapes Go.WideShapes Go.ChangeAt Go.RowKit
open Na Ar Lx
set_option linter.unusedVariables false
theorem parse_said11 {S : B} {p : Pc} (hl : S.length ≤ 60000) (hp : scanP S 0 = p) (hk : p.kind ≠ 0) (hst : p.stop = S.length) (w : World) :
    Calls Tryz.prog 41 #[.string (str S)] w fun r w' => r = .returned (.tuple #[.agg (nmA (Lx.numOf p)), .nilIface]) ∧ Below w.heap.size w w' := by
  refine (parse9_any (str S) (by rw [str_size]; unfold maxLen; omega) w).mono ?_
  rintro r w' ⟨⟨g, at_, c, rfl, _, _, _, hn⟩ | ⟨_, _, rfl⟩, hb⟩
  · exfalso
    rw [str_list, hp] at hn
    rcases hn with ⟨q, _⟩ | ⟨_, q, _⟩
    · exact hk q
    · rw [str_size] at q; omega
  · rw [str_list, hp]
    exact ⟨rfl, hb⟩
set_option maxHeartbeats 1600000 in
set_option maxRecDepth 100000 in
/-- a numeral that is read, and has a pattern -/
theorem parse11_ok {s : ByteArray} {k e : Int} {ng : Bool} {nu de : ByteArray} {V : Int} (hP : ∀ w, Calls Tryz.prog 41 #[.string s] w fun r w' => r = .returned (.tuple #[.agg (numC k ng nu e de), .nilIface]) ∧ Below w.heap.size w w')
    (h1 : nu.size ≤ 65536) (h2 : de.size ≤ 65536) (hV : ∀ b E, BitsIs k ng nu.data.toList e de.data.toList b E → b = V ∧ E = 0) {w : World} (hG : GrVar w) (hT : TenVar w) :
    Calls Tryz.prog 19 #[.string s] w fun r w' => r = .returned (.tuple #[.int .u64 V, .nilIface]) ∧ Below w.heap.size w w' := by
  have hB : ∀ w1, Below w.heap.size w w1 → Calls Tryz.prog 11 #[.agg (numC k ng nu e de)] w1 fun r w' => r = .returned (.tuple #[.int .u64 V, .int .i64 0]) ∧ Below w1.heap.size w1 w' := fun w1 h => by
    refine (bits11_any k ng nu e de (by omega) (by omega) (hG.later h) (hT.later h)).mono ?_
    rintro r w' ⟨b, E, rfl, q, _, hb⟩
    obtain ⟨rfl, rfl⟩ := hV b E q
    exact ⟨rfl, hb⟩
  clear hV h1 h2
  unfold numC at hP hB
  go_enter Tryz.func19, Tryz.ntmps19
  go_wp2_with fail
  refine (hP _).mono ?_
  rintro r w1 ⟨rfl, hb1⟩
  have B : Below w.heap.size w (w1.alloc (.cells #[.int .i64 k, .bool ng, .string nu, .int .i64 e, .string de] 23)) := hb1.alloc hb1.size _
  have hB' := hB _ B
  clear hP hB
  go_wp2_with fail
  refine hB'.mono ?_
  rintro r w2 ⟨rfl, hb2⟩
  have B := B.trans (hb2.mono B.size)
  clear hB'
  go_wp2
  go_ret2
  exact ⟨rfl, B⟩
namespace Ar
set_option maxRecDepth 100000 in
theorem tenth11 : RoundIs (1 * pTwo 1074) (pTen 1) false false 0 4591870180066957722 0 :=
  ⟨4591870180066957721, ⟨by decide, by decide, by decide +kernel, Or.inr (by decide +kernel)⟩, Or.inr ⟨⟨by decide +kernel, by decide +kernel⟩, Or.inr ⟨by decide, by decide, rfl⟩⟩⟩
end Ar
theorem tenth_bits {b E : Int} (h : BitsIs 1 false [49] (-1) [] b E) : b = 4591870180066957722 ∧ E = 0 := by
  have hr : refE 1 [49] (-1) [] = 0 := by decide
  refine bits_uniq h (Or.inr (Or.inr ⟨hr, by decide, 4591870180066957722, 0, ?_, Or.inr ⟨rfl, rfl, rfl⟩⟩))
  unfold ValIs
  rw [if_pos rfl]
  have n1 : nv 10 [49] = 1 := by rw [nv_one]; rfl
  rw [n1]
  exact (ex_neg (k := 1) (by omega)).mpr tenth11
theorem parse_tenth {w : World} (hG : GrVar w) (hT : TenVar w) : Calls Tryz.prog 19 #[.string ⟨#[48, 46, 49]⟩] w fun r w' => r = .returned (.tuple #[.int .u64 4591870180066957722, .nilIface]) ∧ Below w.heap.size w w' := by
  have e : Lx.numOf ⟨1, false, [48], [49], [], [], 3⟩ = ⟨1, false, [49], -1, []⟩ := by rfl
  refine parse11_ok (k := 1) (e := -1) (ng := false) (nu := str [49]) (de := str []) (fun w => ?_) (by decide) (by decide) (fun b E q => tenth_bits q) hG hT
  have := parse_said11 (S := [48, 46, 49]) (p := ⟨1, false, [48], [49], [], [], 3⟩) (by decide) (by rfl) (by decide) rfl w
  rw [e] at this
  exact this
set_option maxHeartbeats 1600000 in
set_option maxRecDepth 100000 in
theorem alive11_any {w : World} (hG : GrVar w) (hT : TenVar w) : Calls Tryz.prog 14 #[] w fun r w' => r = .returned (.bool true) ∧ Below w.heap.size w w' := by
  have hP := parse_tenth hG hT
  go_enter Tryz.func14, Tryz.ntmps14
  go_wp2_with fail
  refine hP.mono ?_
  rintro r w1 ⟨rfl, hb⟩
  clear hP
  go_wp2
  go_ret
  exact ⟨rfl, hb⟩
end Go.Proofs.YtjeoiffloghonaaGreatDoor

/- Plain numbers: atof: what Bits tells of some numerals. -/
namespace Go.Proofs.YtjeoiffloghonaaGreatDoor
open Go.RowKit
open Na Ar Lx
set_option linter.unusedVariables false
theorem bits_val {k e m F b E : Int} {ng : Bool} {num den : B} (hr : refE k num e den = 0) (hn : num ≠ []) (hv : ValIs k num e den m F) (h : BitsIs k ng num e den b E) : (F ≠ 0 → b = 0 ∧ E = F) ∧ (F = 0 → b = m + sgB ng ∧ E = 0) := by
  rcases h with ⟨a1, _⟩ | ⟨_, a2, _⟩ | ⟨a1, a2, m', F', a3, a4⟩
  · exact absurd hr a1
  · exact absurd a2 hn
  · obtain ⟨rfl, rfl⟩ := val_uniq hr hv a3
    rcases a4 with ⟨x1, x2, x3⟩ | ⟨x1, x2, x3⟩
    · exact ⟨fun _ => ⟨x2, x3⟩, fun q => absurd q x1⟩
    · exact ⟨fun q => absurd x1 q, fun _ => ⟨x3, x2⟩⟩
/-- not too great: a pattern -/
theorem round_fit {A B b E : Int} (hB : 0 < B) (h : RoundIs A B false false 0 b E) (hs : 2 * A < e2 2045 * B) : E = 0 := by
  rcases round_over hB h with ⟨_, _, q⟩ | ⟨q, _⟩
  · exfalso
    obtain ⟨m1, m2⟩ := most_nums
    unfold nxtN at q
    rw [m1, m2] at q
    have hp := e2_pos 2045
    generalize e2 2045 = P at *
    have e4 : (9007199254740991 * P + (9007199254740991 * P + P)) * B = 18014398509481983 * (P * B) := by
      rw [← Int.mul_assoc]; congr 1; omega
    rw [e4] at q
    have := Int.mul_pos hp hB
    omega
  · exact q
theorem ex_fit {N e b E : Int} (h : ExIs N e b E) (hs : 2 * exN N e < e2 971 * exD e) : E = 0 := by
  refine round_fit (scB_pos' (exD_pos e)) h ?_
  rw [scB_flat]
  unfold scA
  have s : e2 2045 = e2 971 * e2 (0 + 1074) := by rw [← e2_add (by omega) (by omega)]; congr 1
  rw [s, Int.mul_right_comm, ← Int.mul_assoc]
  exact Int.mul_lt_mul_of_pos_right hs (e2_pos _)
namespace Lx
/-- a digit that isn't zero, and zeros -/
def farL (d : UInt8) (n : Nat) : B := d :: List.replicate n 48
theorem farL_dig {d : UInt8} (h0 : 49 ≤ d.toNat) (h1 : d.toNat ≤ 57) (n : Nat) : ∀ c ∈ farL d n, isD c = true := fun c hc => by
  rcases List.mem_cons.mp hc with rfl | hc
  · unfold isD; simp; omega
  · rw [(List.mem_replicate.mp hc).2]; rfl
theorem farL_lead {d : UInt8} (h0 : 49 ≤ d.toNat) (n : Nat) : lead (farL d n) := ⟨d, _, rfl, fun q => by rw [q] at h0; exact absurd h0 (by decide)⟩
theorem farL_len (d : UInt8) (n : Nat) : (farL d n).length = n + 1 := by unfold farL; simp
theorem farL_nv (b : Int) {d : UInt8} (h0 : 49 ≤ d.toNat) (h1 : d.toNat ≤ 57) (n : Nat) : nv b (farL d n) = ((d.toNat : Int) - 48) * b ^ n := by
  unfold farL
  rw [nv_cons, nv_zeros (fun c hc => (List.mem_replicate.mp hc).2), List.length_replicate, Int.add_zero]
  congr 1
  unfold valN
  rw [if_pos (by omega)]
theorem kept_of {cs l : B} (hl : l.length ≤ 65536) (h : lead l) (ha : ∀ c ∈ l, cs.contains c = true) : keptB cs l = true := by
  unfold keptB
  rw [decide_eq_true hl, List.all_eq_true.mpr ha]
  obtain ⟨c, r, rfl, hc⟩ := h
  simp [fst]
  exact hc
theorem isD_digs {c : UInt8} (h : isD c = true) : digs9.contains c = true := by
  have := digits_has c
  rw [h] at this
  exact this
theorem isD_smal {c : UInt8} (h : isD c = true) : smal9.contains c = true := by
  have h2 := isD_digs h
  unfold digs9 at h2
  unfold smal9
  simp only [List.contains_cons, List.contains_nil, Bool.or_eq_true, Bool.or_false] at h2 ⊢
  rcases h2 with h2 | h2 | h2 | h2 | h2 | h2 | h2 | h2 | h2 | h2 <;> simp [h2]
end Lx
theorem ref_dec {l : B} {e : Int} (hl : l.length ≤ 65536) (h : lead l) (hd : ∀ c ∈ l, isD c = true) (e0 : -1073741824 ≤ e) (e1 : e ≤ 1073741824) : refE 1 l e [] = 0 := by
  have hr : rightB 1 l e [] = true := by
    unfold rightB
    rw [if_pos rfl, kept_of hl h (fun c hc => isD_digs (hd c hc))]
    unfold withB
    simp; omega
  unfold refE
  rw [hr, if_pos rfl, if_neg (fun q => absurd q.1 (by decide))]
theorem ref_hex {l : B} {e : Int} (hl : l.length ≤ 65536) (h : lead l) (hd : ∀ c ∈ l, smal9.contains c = true) (e0 : -1073741824 ≤ e) (e1 : e ≤ 1073741824) : refE 2 l e [] = 0 := by
  have hr : rightB 2 l e [] = true := by
    unfold rightB
    rw [if_neg (by decide), if_pos rfl, kept_of hl h hd]
    unfold withB
    simp; omega
  unfold refE
  rw [hr, if_pos rfl, if_neg (fun q => absurd q.1 (by decide))]
theorem ref_rat {l m : B} (hl : l.length ≤ 65536) (h : lead l) (hd : ∀ c ∈ l, isD c = true) (hm : m.length ≤ 65536) (h' : lead m) (hd' : ∀ c ∈ m, isD c = true) : refE 3 l 0 m = 0 := by
  have hr : rightB 3 l 0 m = true := by
    unfold rightB
    rw [if_neg (by decide), if_neg (by decide), if_pos rfl, kept_of hl h (fun c hc => isD_digs (hd c hc)), kept_of hm h' (fun c hc => isD_digs (hd' c hc))]
    rfl
  unfold refE
  rw [hr, if_pos rfl, if_neg]
  rintro ⟨_, q⟩
  subst q
  exact absurd h'.pos (by simp)
theorem lead_ne {l : B} (h : lead l) : l ≠ [] := fun q => by subst q; exact absurd h.pos (by simp)
theorem far_one {d : UInt8} (h0 : 49 ≤ d.toNat) (h1 : d.toNat ≤ 57) {n : Nat} (hn : n ≤ 3000) {ng : Bool} {b E : Int} (h : BitsIs 1 ng (farL d n) (-(n : Int)) [] b E) : BitsIs 1 ng [d] 0 [] b E ∧ E = 0 := by
  have hr := ref_dec (l := farL d n) (e := -(n : Int)) (by rw [farL_len]; omega) (farL_lead h0 n) (farL_dig h0 h1 n) (by omega) (by omega)
  have hr' := ref_dec (l := farL d 0) (e := 0) (by rw [farL_len]; omega) (farL_lead h0 0) (farL_dig h0 h1 0) (by omega) (by omega)
  rcases h with ⟨a1, _⟩ | ⟨_, a2, _⟩ | ⟨a1, a2, m, F, a3, a4⟩
  · exact absurd hr a1
  · exact absurd a2 (lead_ne (farL_lead h0 n))
  · have a5 : ExIs ((d.toNat : Int) - 48) 0 m F := by
      unfold ValIs at a3
      rw [if_pos rfl, farL_nv 10 h0 h1] at a3
      have := (ex_shift (m := (d.toNat : Int) - 48) (e := -(n : Int)) n).mp a3
      rw [show -(n : Int) + n = 0 by omega] at this
      exact this
    have a6 : ValIs 1 (farL d 0) 0 [] m F := by
      unfold ValIs
      rw [if_pos rfl, farL_nv 10 h0 h1, Int.pow_zero, Int.mul_one]; exact a5
    have hF : F = 0 := by
      refine ex_fit a5 ?_
      have e1 : exN ((d.toNat : Int) - 48) 0 = (d.toNat : Int) - 48 := by unfold exN; rw [if_pos (by omega)]; simp
      have e2' : exD 0 = 1 := rfl
      have e3 : e2 971 = e2 10 * e2 961 := by rw [← e2_add (by omega) (by omega)]; congr 1
      have e4 : e2 10 = 1024 := rfl
      have := e2_pos 961
      rw [e1, e2', e3, e4]
      omega
    refine ⟨Or.inr (Or.inr ⟨hr', lead_ne (farL_lead h0 0), m, F, a6, a4⟩), ?_⟩
    rcases a4 with ⟨x1, _⟩ | ⟨_, x2, _⟩
    · exact absurd hF x1
    · exact x2
theorem far_over {d : UInt8} (h0 : 49 ≤ d.toNat) (h1 : d.toNat ≤ 57) {n : Nat} (hn : n ≤ 3000) {ng : Bool} {b E : Int} (h : BitsIs 1 ng (farL d n) 1073741824 [] b E) : E = 70 := by
  have hr := ref_dec (l := farL d n) (e := 1073741824) (by rw [farL_len]; omega) (farL_lead h0 n) (farL_dig h0 h1 n) (by omega) (by omega)
  refine ((bits_val (m := 0) (F := 70) hr (lead_ne (farL_lead h0 n)) ?_ h).1 (by decide)).2
  unfold ValIs
  rw [if_pos rfl, farL_nv 10 h0 h1]
  refine ex_huge (L := n) ?_ (by omega)
  have p : (0 : Int) < 10 ^ n := Int.pow_pos (by omega)
  have e : pTen n = 10 ^ n := rfl
  rw [e]
  have := Int.mul_le_mul_of_nonneg_right (show (1 : Int) ≤ (d.toNat : Int) - 48 by omega) (Int.le_of_lt p)
  omega
theorem far_none {d : UInt8} (h0 : 49 ≤ d.toNat) (h1 : d.toNat ≤ 57) {n : Nat} (hn : n ≤ 3000) {ng : Bool} {b E : Int} (h : BitsIs 1 ng (farL d n) (-1073741824) [] b E) : E = 0 ∧ b = sgB ng := by
  have hr := ref_dec (l := farL d n) (e := -1073741824) (by rw [farL_len]; omega) (farL_lead h0 n) (farL_dig h0 h1 n) (by omega) (by omega)
  have q := (bits_val (m := 0) (F := 0) hr (lead_ne (farL_lead h0 n)) ?_ h).2 rfl
  · rw [Int.zero_add] at q
    exact ⟨q.2, q.1⟩
  · unfold ValIs
    rw [if_pos rfl]
    have lt := nv_lt (b := 10) (by omega) (okB_ten (farL_dig h0 h1 n))
    rw [farL_len] at lt
    have ge := (farL_lead h0 n).ge (b := 10) (by omega)
    have p : (0 : Int) < 10 ^ ((farL d n).length - 1) := Int.pow_pos (by omega)
    exact ex_tiny (L := n + 1) (by omega) lt (by omega)
theorem far_hex0 {d : UInt8} (h0 : 49 ≤ d.toNat) (h1 : d.toNat ≤ 57) {n : Nat} (hn : n ≤ 3000) {ng : Bool} {b E : Int} (h : BitsIs 2 ng (farL d n) (-1073741824) [] b E) : E = 0 ∧ b = sgB ng := by
  have hr := ref_hex (l := farL d n) (e := -1073741824) (by rw [farL_len]; omega) (farL_lead h0 n) (fun c hc => isD_smal (farL_dig h0 h1 n c hc)) (by omega) (by omega)
  have q := (bits_val (m := 0) (F := 0) hr (lead_ne (farL_lead h0 n)) ?_ h).2 rfl
  · rw [Int.zero_add] at q
    exact ⟨q.2, q.1⟩
  · unfold ValIs
    rw [if_neg (by decide), if_pos rfl]
    have lt := nv_lt (b := 16) (by omega) (fun c hc => smal_val (isD_smal (farL_dig h0 h1 n c hc)))
    rw [farL_len, hex_pow] at lt
    have ge := (farL_lead h0 n).ge (b := 16) (by omega)
    have p : (0 : Int) < 16 ^ ((farL d n).length - 1) := Int.pow_pos (by omega)
    have := cut_tiny (M := nv 16 (farL d n)) (L := ((4 * (n + 1) : Nat) : Int)) (x := -1073741824) (by omega) lt (by omega) (by omega)
    have hs : sgB false = 0 := rfl
    have r := (round_tiny (mode := 0) (more := false) (neg := false) (scB_pos' (x := -1073741824) (show (0 : Int) < 1 by omega)) (Or.inl this.1) (Int.le_of_lt this.1) this.2).2 (by omega)
    rw [hs] at r
    exact r
theorem far_hex1 {d : UInt8} (h0 : 49 ≤ d.toNat) (h1 : d.toNat ≤ 57) {n : Nat} (hn : n ≤ 3000) {ng : Bool} {b E : Int} (h : BitsIs 2 ng (farL d n) 1073741824 [] b E) : E = 70 := by
  have hr := ref_hex (l := farL d n) (e := 1073741824) (by rw [farL_len]; omega) (farL_lead h0 n) (fun c hc => isD_smal (farL_dig h0 h1 n c hc)) (by omega) (by omega)
  refine ((bits_val (m := 0) (F := 70) hr (lead_ne (farL_lead h0 n)) ?_ h).1 (by decide)).2
  unfold ValIs
  rw [if_neg (by decide), if_pos rfl]
  have ge := (farL_lead h0 n).ge (b := 16) (by omega)
  rw [farL_len, hex_pow] at ge
  refine (round_huge (mode := 0) (more := false) (neg := false) (scB_pos' (by omega)) (cut_huge (L := ((4 * n : Nat) : Int) + 1) ?_ (by omega) (by omega))).1 (by omega)
  rw [Int.add_sub_cancel]
  exact ge
theorem far_rat {d : UInt8} (h0 : 49 ≤ d.toNat) (h1 : d.toNat ≤ 57) {n : Nat} (hn : n ≤ 3000) {ng : Bool} {b E : Int} (h : BitsIs 3 ng [49] 0 (farL d n) b E) : E = 0 ∧ (329 ≤ n → b = sgB ng) := by
  have l1 : lead ([49] : B) := ⟨49, [], rfl, by decide⟩
  have hr := ref_rat (l := [49]) (m := farL d n) (by decide) l1 (by decide) (by rw [farL_len]; omega) (farL_lead h0 n) (farL_dig h0 h1 n)
  have n1 : nv 10 [49] = 1 := by rw [nv_one]; rfl
  have ge := (farL_lead h0 n).ge (b := 10) (by omega)
  rw [farL_len, Nat.add_sub_cancel] at ge
  have p : (0 : Int) < 10 ^ n := Int.pow_pos (by omega)
  rcases h with ⟨a1, _⟩ | ⟨_, a2, _⟩ | ⟨a1, a2, m, F, a3, a4⟩
  · exact absurd hr a1
  · exact absurd a2 (by decide)
  · unfold ValIs at a3
    rw [if_neg (by decide), if_neg (by decide), n1, scB_flat] at a3
    have hF : F = 0 := by
      refine round_fit (by omega) a3 ?_
      unfold scA
      have s : e2 2045 = e2 971 * e2 (0 + 1074) := by rw [← e2_add (by omega) (by omega)]; congr 1
      have e3 : e2 971 = e2 10 * e2 961 := by rw [← e2_add (by omega) (by omega)]; congr 1
      have e4 : e2 10 = 1024 := rfl
      have q1 := e2_pos 961
      have q2 := e2_pos (0 + 1074)
      have q3 : 2 * (1 * e2 (0 + 1074)) < e2 2045 := by
        rw [s, e3, e4, Int.one_mul]
        exact Int.mul_lt_mul_of_pos_right (by omega) q2
      have q4 : e2 2045 * 1 ≤ e2 2045 * nv 10 (farL d n) := Int.mul_le_mul_of_nonneg_left (by omega) (Int.le_of_lt (e2_pos _))
      omega
    subst hF
    rcases a4 with ⟨x1, _⟩ | ⟨_, x2, x3⟩
    · exact absurd rfl x1
    · refine ⟨x2, fun hk => ?_⟩
      have hs : sgB false = 0 := rfl
      have r := (round_tiny (A := scA 1 0) (B := nv 10 (farL d n)) (mode := 0) (more := false) (neg := false) (by omega) (Or.inl (Int.mul_pos (by omega) (e2_pos _))) (Int.le_of_lt (Int.mul_pos (by omega) (e2_pos _))) ?_).2 (by omega)
      · rw [hs] at r
        have := (roundIs_uniq (by omega) a3 r).1
        rw [x3, this, Int.zero_add]
      · have k1 := pT_lt low_nat
        have k2 : pTen 324 ≤ pTen n := pTen_mono (by omega)
        have k3 : pTen n = 10 ^ n := rfl
        have k4 : 2 * scA 1 0 = pTwo 1075 := by
          rw [scA_flat, Int.one_mul]
          have := pTwo_add 1 1074
          exact this.symm
        omega
end Go.Proofs.YtjeoiffloghonaaGreatDoor

/- an api.Numeral among the inputs. -/
namespace Go.Proofs.YtjeoiffloghonaaGreatDoor
open Go.ChangeShapes Go.WideShapes Go.ChangeAt Go.RowKit
open Na Ar Lx
set_option linter.unusedVariables false
theorem cells_numeral : Tryz.prog.cellsOf 23 = 5 := by kernel_rfl
theorem cells_str11 : Tryz.prog.cellsOf 9 = 1 := by kernel_rfl
theorem cells_i6411 : Tryz.prog.cellsOf 3 = 1 := by kernel_rfl
theorem cells_bool11 : Tryz.prog.cellsOf 4 = 1 := by kernel_rfl
set_option maxRecDepth 100000 in
theorem open_numeral {H : Type} {enc : TypeId × Value → H} {w : World} {r : Reach} {base b0 : Nat} {spare : Nat → Bool} {held : Bool} {v : Value} {d : DataW H} {p : List MemPlace}
    (hv : Value.okWide Tryz.prog w r b0 23 v) (h : DataW.Trod enc Tryz.prog w base spare held 23 v d p) :
    ∃ k ng nu e de, v = .agg (numC k ng nu e de) ∧ -9223372036854775808 ≤ k ∧ k ≤ 9223372036854775807 ∧ -9223372036854775808 ≤ e ∧ e ≤ 9223372036854775807 ∧ nu.size ≤ 9223372036854775807 ∧ de.size ≤ 9223372036854775807 := by
  obtain ⟨cs, rfl, hsz⟩ := okWide_struct Tryz.underlying23 hv
  obtain ⟨fuel, hf⟩ := h
  obtain ⟨xs, m, _, _, hl, hx, hi⟩ := DataW.trod_struct Tryz.underlying23 hf
  rw [cells_numeral] at hsz
  obtain ⟨c0, c1, c2, c3, c4, rfl⟩ : ∃ c0 c1 c2 c3 c4, cs = #[c0, c1, c2, c3, c4] := by
    match cs, hsz with
    | ⟨[c0, c1, c2, c3, c4]⟩, _ => exact ⟨c0, c1, c2, c3, c4, rfl⟩
  have i0 := hi 0 _ rfl
  have i1 := hi 1 _ rfl
  have i2 := hi 2 _ rfl
  have i3 := hi 3 _ rfl
  have i4 := hi 4 _ rfl
  match xs, hx with
  | [x0, x1, x2, x3, x4], _ =>
    simp [Value.cells, cells_str11, cells_bool11, cells_i6411] at i0 i1 i2 i3 i4
    have bo : ∀ {cs : Value} {x : DataW H × List MemPlace}, DataW.trod enc Tryz.prog w base spare held m 4 [cs] = some x → ∃ s, cs = .bool s := by
      intro cs x hf
      obtain ⟨s, e0, _⟩ := DataW.trod_bool Tryz.underlying4 hf
      simp at e0
      exact ⟨s, e0⟩
    have nt : ∀ {cs : Value} {x : DataW H × List MemPlace}, DataW.trod enc Tryz.prog w base spare held m 3 [cs] = some x → ∃ s, cs = .int .i64 s ∧ -9223372036854775808 ≤ s ∧ s ≤ 9223372036854775807 := by
      intro cs x hf
      obtain ⟨s, e0, _, hw⟩ := DataW.trod_int Tryz.underlying3 hf
      simp at e0
      simp only [Lit.wf, Bool.and_eq_true, decide_eq_true_eq] at hw
      have h1 : IntKind.i64.min = -9223372036854775808 := rfl
      have h2 : IntKind.i64.max = 9223372036854775807 := rfl
      exact ⟨s, e0, by omega, by omega⟩
    have st : ∀ {cs : Value} {x : DataW H × List MemPlace}, DataW.trod enc Tryz.prog w base spare held m 9 [cs] = some x → ∃ s : ByteArray, cs = .string s ∧ s.size ≤ 9223372036854775807 := by
      intro cs x hf
      obtain ⟨s, e0, _, hw⟩ := DataW.trod_string Tryz.underlying9 hf
      simp at e0
      unfold maxLen at hw
      exact ⟨s, e0, by omega⟩
    obtain ⟨k, rfl, k0, k1⟩ := nt i0
    obtain ⟨ng, rfl⟩ := bo i1
    obtain ⟨nu, rfl, n0⟩ := st i2
    obtain ⟨e, rfl, e0, e1⟩ := nt i3
    obtain ⟨de, rfl, d0⟩ := st i4
    exact ⟨k, ng, nu, e, de, rfl, k0, k1, e0, e1, n0, d0⟩
end Go.Proofs.YtjeoiffloghonaaGreatDoor

/- Layer 9: a text put together byte by byte; into. -/
namespace Go.Proofs.YtjeoiffloghonaaGreatDoor
open Go.ChangeShapes Go.WideShapes Go.ChangeAt Go.RowKit
open Lx
set_option linter.unusedVariables false
namespace Lx
/-- bytes as whole numbers -/
def intb (l : B) : List Int := l.map fun b => (b.toNat : Int)
theorem lowF_intb (x : UInt8) : ((lowF x).toNat : Int) = if 65 ≤ (x.toNat : Int) ∧ (x.toNat : Int) ≤ 70 then (x.toNat : Int) + 32 else (x.toNat : Int) := by
  unfold lowF
  by_cases h : 65 ≤ x.toNat ∧ x.toNat ≤ 70
  · rw [if_pos h, if_pos (by omega), UInt8.toNat_ofNat']
    omega
  · rw [if_neg h, if_neg (by omega)]
theorem intb_len (l : B) : (intb l).length = l.length := by unfold intb; rw [List.length_map]
end Lx
theorem info9_u8 : (Tryz.prog.info? 5).map (fun i => (i.zero, i.size, i.bytes)) = some (some (.int .u8 0), 1, 1) := by kernel_rfl
theorem conv9b {w : World} {base : Nat} {v : Value} {l : B} (h : Own .u8 w base 5 v (intb l)) :
    ∃ (a : Option Addr) (n c : Nat), v = .slice a n c ∧ (convert 33 9 (.slice a n c)).run Tryz.prog w = .ok (.string (str l)) w := by
  obtain ⟨oa, oc, rfl, hr⟩ := h.reads
  refine ⟨_, _, _, rfl, ?_⟩
  obtain ⟨_, _, hl, hr⟩ := hr
  rw [intb_len] at *
  by_cases hz : l = []
  · subst hz
    cases oa with
    | none =>
      have := Lib.run_convert_nil_bytes (P := Tryz.prog) w 33 9 5 oc Tryz.underlying33 Tryz.underlying5 Tryz.underlying9
      exact this
    | some a => exact run_convert_bytes_back (P := Tryz.prog) w 33 9 5 a oc [] Tryz.underlying33 Tryz.underlying5 Tryz.underlying9 (fun j hj => absurd hj (Nat.not_lt_zero _))
  · rcases hr with h0 | ⟨g, off, rfl, hg, hc⟩
    · exact absurd (List.length_eq_zero_iff.mp h0) hz
    · refine run_convert_bytes_back (P := Tryz.prog) w 33 9 5 ⟨g, off, none⟩ oc l Tryz.underlying33 Tryz.underlying5 Tryz.underlying9 (fun j hj => ?_)
      have ea : (⟨g, off, none⟩ : Addr).add j = ⟨g, off + j, none⟩ := by
        unfold Addr.add
        by_cases hi0 : j = 0
        · subst hi0; simp
        · simp [hi0]
      rw [ea, hc j hj]
      congr 2
      unfold intb
      rw [List.getD_eq_getElem?_getD, List.getElem?_map, List.getElem?_eq_getElem hj]
      rfl
end Go.Proofs.YtjeoiffloghonaaGreatDoor

/- plumblaw11: plain. -/
namespace Go.Proofs.YtjeoiffloghonaaGreatDoor
open Go.ChangeShapes Go.WideShapes Go.ChangeAt Go.RowKit
open Na Ar Lx
set_option linter.unusedVariables false
namespace Lx
/-- digits of few, none ahead a zero -/
def PlOk (hex : Bool) (l : B) : Prop := l.length ≤ 40 ∧ (∀ c ∈ l, (if hex = true then smal9.contains c else isD c) = true) ∧ (l = [] ∨ lead l)
theorem plOk_nil (hex : Bool) : PlOk hex [] := by
  refine ⟨by simp, ?_, Or.inl rfl⟩
  intro c hc
  cases hc
theorem plOk_next {hex : Bool} {l : B} (h : PlOk hex l) {c : UInt8} (hl : l.length < 40) (hc : (if hex = true then smal9.contains c else isD c) = true) (ha : c ≠ 48 ∨ l ≠ []) : PlOk hex (l ++ [c]) := by
  refine ⟨by rw [List.length_append, List.length_singleton]; omega, fun d hd => ?_, Or.inr ?_⟩
  · rcases List.mem_append.mp hd with hd | hd
    · exact h.2.1 d hd
    · rw [List.mem_singleton.mp hd]; exact hc
  · cases l with
    | nil =>
      rcases ha with ha | ha
      · exact ⟨c, [], rfl, ha⟩
      · exact absurd rfl ha
    | cons x r =>
      rcases h.2.2 with q | ⟨y, r', q, hy⟩
      · exact absurd q (List.cons_ne_nil _ _)
      · simp only [List.cons.injEq] at q
        obtain ⟨rfl, rfl⟩ := q
        exact ⟨x, r ++ [c], rfl, hy⟩
def hexT : B := [48, 49, 50, 51, 52, 53, 54, 55, 56, 57, 97, 98, 99, 100, 101, 102]
theorem tab_at (k : Nat) (hk : k < 16) (h : k < (ByteArray.mk #[48, 49, 50, 51, 52, 53, 54, 55, 56, 57, 97, 98, 99, 100, 101, 102]).size) : (ByteArray.mk #[48, 49, 50, 51, 52, 53, 54, 55, 56, 57, 97, 98, 99, 100, 101, 102])[k]'h = hexT.getD k 0 := by
  have : ∀ k : Fin 16, ∀ h, (ByteArray.mk #[48, 49, 50, 51, 52, 53, 54, 55, 56, 57, 97, 98, 99, 100, 101, 102])[k.val]'h = hexT.getD k.val 0 := by decide
  exact this ⟨k, hk⟩ h
theorem tab_dec : ∀ k : Fin 10, isD (hexT.getD k.val 0) = true := by decide
theorem tab_hex : ∀ k : Fin 16, smal9.contains (hexT.getD k.val 0) = true := by decide
end Lx
set_option maxHeartbeats 3200000 in
set_option maxRecDepth 100000 in
theorem plain_any (s : ByteArray) (hs : s.size ≤ 9223372036854775807) (hex : Bool) (w : World) :
    Calls Tryz.prog 17 #[.string s, .bool hex, .int .i64 40] w fun r w' => ∃ l : B, r = .returned (.string (str l)) ∧ PlOk hex l ∧ Below w.heap.size w w' := by
  obtain ⟨i_u8, hi_u8, hz0_u8, hz1_u8, hz2_u8⟩ := info_parts info9_u8
  go_enter Tryz.func17, Tryz.ntmps17
  go_wp2
  go_loopw [7, 8, 9, 10] (fun v i _ _ wx => ∃ (j : Nat) (l : B), i = .int .i64 (j : Int) ∧ j ≤ s.size ∧ PlOk hex l ∧ Own .u8 wx w.heap.size 5 v (intb l) ∧ Below w.heap.size w wx) (fun _ i _ _ _ => s.size - (RowKit.intOf i).toNat)
  case atStart => exact ⟨0, [], rfl, Nat.zero_le _, plOk_nil _, own_nil _ _ _ _, Below.refl _ _⟩
  case round =>
    obtain ⟨j, l, rfl, hj, hpl, hov, hbl⟩ := hrel
    have HP : Hid (PlOk hex l) := hpl
    have hlen : (intb l).length = l.length := intb_len l
    have hl40 : l.length ≤ 40 := hpl.1
    clear hpl
    obtain ⟨oa, oc, rfl, hrd⟩ := hov.reads
    rw [hlen] at hov ⊢
    clear hrd
    by_cases hq : j < s.size ∧ l.length < 40
    · obtain ⟨q1, q2⟩ := hq
      have d1 : decide ((j : Int) < (s.size : Int)) = true := by simp; omega
      have d2 : decide ((l.length : Int) < 40) = true := by simp; omega
      have hsz : w.heap.size ≤ wr.heap.size := hbl.size
      obtain ⟨x, hx0⟩ : ∃ x, s[j]'q1 = x := ⟨_, rfl⟩
      cases hex
      · obtain ⟨k, hk, hkb⟩ : ∃ k : Nat, ((x.toNat : Int)).tmod 10 = (k : Int) ∧ k < 10 := ⟨x.toNat % 10, by rw [Int.tmod_eq_emod_of_nonneg (by omega)]; omega, by omega⟩
        have hk16 : k < 16 := by omega
        have hkI : (k : Int) < 16 := by omega
        have hx : ∀ h, (ByteArray.mk #[48, 49, 50, 51, 52, 53, 54, 55, 56, 57, 97, 98, 99, 100, 101, 102])[k]'h = hexT.getD k 0 := fun h => tab_at k hk16 h
        have HD : Hid ((if false = true then smal9.contains (hexT.getD k 0) else isD (hexT.getD k 0)) = true) := tab_dec ⟨k, hkb⟩
        generalize hexT.getD k 0 = X at *
        have HJ : Hid (intb (l ++ [X]) = intb l ++ [(X.toNat : Int)]) := by unfold Hid intb; rw [List.map_append]; rfl
        by_cases hX : X = 48
        · have cb : ((X.toNat : Int) != 48) = false := by rw [hX]; rfl
          by_cases hl0 : l = []
          · have d3 : decide ((l.length : Int) > 0) = false := by rw [hl0]; rfl
            have d3' : decide (0 < (l.length : Int)) = false := by rw [hl0]; rfl
            have d4 : decide (0 < l.length) = false := by rw [hl0]; rfl
            clear hX hl0 HJ HD
            generalize l.length = L at *
            go_wp2
            go_roundw
            case rel => exact ⟨j + 1, l, by go_num, by omega, HP.out, hov, hbl⟩
            case measure => simp [RowKit.intOf]; omega
          · have HN : Hid (PlOk false (l ++ [X])) := plOk_next HP.out q2 HD.out (Or.inr hl0)
            have pl : 0 < l.length := List.length_pos_iff.mpr hl0
            have d3 : decide ((l.length : Int) > 0) = true := by simp; omega
            have d3' : decide (0 < (l.length : Int)) = true := by simp; omega
            have d4 : decide (0 < l.length) = true := by simp; omega
            clear hX hl0 HD
            generalize intb l = us at *
            generalize hL : l.length = L at *
            clear hL
            go_wp2_with (at_builtin; refine wpList_append_own _ rfl _ _ 33 rfl w.heap.size 5 i_u8 (.int .u8 0) 1 1 Tryz.underlying33 hi_u8 hz0_u8 hz1_u8 hz2_u8 rfl (by decide) _ _ _ rfl (hov.row.alloc _) ⟨wr.heap.size, 0, none⟩ 1 1 [.int .u8 X.toNat] rfl rfl one_new one_cell (by unfold maxLen; omega) (by omega) (by simp; omega) ?_)
            intro v' w5 hown' hgrow _
            have hb' := grow_below hsz hov.row hbl hgrow
            have ho' := own_next hown' hlen.symm
            rw [← HJ.out] at ho'
            clear hown' hgrow hov hbl HJ
            go_wp2
            go_roundw
            case rel => exact ⟨j + 1, l ++ [X], by go_num, by omega, HN.out, ho', hb'⟩
            case measure => simp [RowKit.intOf]; omega
        · have cb : ((X.toNat : Int) != 48) = true := by
            refine bne_yes fun q => hX (UInt8.toNat_inj.mp ?_)
            show X.toNat = 48
            omega
          have HN : Hid (PlOk false (l ++ [X])) := plOk_next HP.out q2 HD.out (Or.inl hX)
          clear hX HD
          generalize intb l = us at *
          generalize hL : l.length = L at *
          clear hL
          go_wp2_with (at_builtin; refine wpList_append_own _ rfl _ _ 33 rfl w.heap.size 5 i_u8 (.int .u8 0) 1 1 Tryz.underlying33 hi_u8 hz0_u8 hz1_u8 hz2_u8 rfl (by decide) _ _ _ rfl (hov.row.alloc _) ⟨wr.heap.size, 0, none⟩ 1 1 [.int .u8 X.toNat] rfl rfl one_new one_cell (by unfold maxLen; omega) (by omega) (by simp; omega) ?_)
          intro v' w5 hown' hgrow _
          have hb' := grow_below hsz hov.row hbl hgrow
          have ho' := own_next hown' hlen.symm
          rw [← HJ.out] at ho'
          clear hown' hgrow hov hbl HJ
          go_wp2
          go_roundw
          case rel => exact ⟨j + 1, l ++ [X], by go_num, by omega, HN.out, ho', hb'⟩
          case measure => simp [RowKit.intOf]; omega
      · obtain ⟨k, hk, hkb⟩ : ∃ k : Nat, ((x.toNat : Int)).tmod 16 = (k : Int) ∧ k < 16 := ⟨x.toNat % 16, by rw [Int.tmod_eq_emod_of_nonneg (by omega)]; omega, by omega⟩
        have hk16 : k < 16 := by omega
        have hkI : (k : Int) < 16 := by omega
        have hx : ∀ h, (ByteArray.mk #[48, 49, 50, 51, 52, 53, 54, 55, 56, 57, 97, 98, 99, 100, 101, 102])[k]'h = hexT.getD k 0 := fun h => tab_at k hk16 h
        have HD : Hid ((if true = true then smal9.contains (hexT.getD k 0) else isD (hexT.getD k 0)) = true) := tab_hex ⟨k, hkb⟩
        generalize hexT.getD k 0 = X at *
        have HJ : Hid (intb (l ++ [X]) = intb l ++ [(X.toNat : Int)]) := by unfold Hid intb; rw [List.map_append]; rfl
        by_cases hX : X = 48
        · have cb : ((X.toNat : Int) != 48) = false := by rw [hX]; rfl
          by_cases hl0 : l = []
          · have d3 : decide ((l.length : Int) > 0) = false := by rw [hl0]; rfl
            have d3' : decide (0 < (l.length : Int)) = false := by rw [hl0]; rfl
            have d4 : decide (0 < l.length) = false := by rw [hl0]; rfl
            clear hX hl0 HJ HD
            generalize l.length = L at *
            go_wp2
            go_roundw
            case rel => exact ⟨j + 1, l, by go_num, by omega, HP.out, hov, hbl⟩
            case measure => simp [RowKit.intOf]; omega
          · have HN : Hid (PlOk true (l ++ [X])) := plOk_next HP.out q2 HD.out (Or.inr hl0)
            have pl : 0 < l.length := List.length_pos_iff.mpr hl0
            have d3 : decide ((l.length : Int) > 0) = true := by simp; omega
            have d3' : decide (0 < (l.length : Int)) = true := by simp; omega
            have d4 : decide (0 < l.length) = true := by simp; omega
            clear hX hl0 HD
            generalize intb l = us at *
            generalize hL : l.length = L at *
            clear hL
            go_wp2_with (at_builtin; refine wpList_append_own _ rfl _ _ 33 rfl w.heap.size 5 i_u8 (.int .u8 0) 1 1 Tryz.underlying33 hi_u8 hz0_u8 hz1_u8 hz2_u8 rfl (by decide) _ _ _ rfl (hov.row.alloc _) ⟨wr.heap.size, 0, none⟩ 1 1 [.int .u8 X.toNat] rfl rfl one_new one_cell (by unfold maxLen; omega) (by omega) (by simp; omega) ?_)
            intro v' w5 hown' hgrow _
            have hb' := grow_below hsz hov.row hbl hgrow
            have ho' := own_next hown' hlen.symm
            rw [← HJ.out] at ho'
            clear hown' hgrow hov hbl HJ
            go_wp2
            go_roundw
            case rel => exact ⟨j + 1, l ++ [X], by go_num, by omega, HN.out, ho', hb'⟩
            case measure => simp [RowKit.intOf]; omega
        · have cb : ((X.toNat : Int) != 48) = true := by
            refine bne_yes fun q => hX (UInt8.toNat_inj.mp ?_)
            show X.toNat = 48
            omega
          have HN : Hid (PlOk true (l ++ [X])) := plOk_next HP.out q2 HD.out (Or.inl hX)
          clear hX HD
          generalize intb l = us at *
          generalize hL : l.length = L at *
          clear hL
          go_wp2_with (at_builtin; refine wpList_append_own _ rfl _ _ 33 rfl w.heap.size 5 i_u8 (.int .u8 0) 1 1 Tryz.underlying33 hi_u8 hz0_u8 hz1_u8 hz2_u8 rfl (by decide) _ _ _ rfl (hov.row.alloc _) ⟨wr.heap.size, 0, none⟩ 1 1 [.int .u8 X.toNat] rfl rfl one_new one_cell (by unfold maxLen; omega) (by omega) (by simp; omega) ?_)
          intro v' w5 hown' hgrow _
          have hb' := grow_below hsz hov.row hbl hgrow
          have ho' := own_next hown' hlen.symm
          rw [← HJ.out] at ho'
          clear hown' hgrow hov hbl HJ
          go_wp2
          go_roundw
          case rel => exact ⟨j + 1, l ++ [X], by go_num, by omega, HN.out, ho', hb'⟩
          case measure => simp [RowKit.intOf]; omega
    · obtain ⟨a9, n9, c9, e9, hcv⟩ := conv9b hov
      simp only [Value.slice.injEq] at e9
      obtain ⟨rfl, rfl, rfl⟩ := e9
      by_cases hq1 : j < s.size
      · have d1 : decide ((j : Int) < (s.size : Int)) = true := by simp; omega
        have d2 : decide ((l.length : Int) < 40) = false := by simp; omega
        clear hq hov
        go_wp2
        go_ret
        exact ⟨l, rfl, HP.out, hbl⟩
      · have d1 : decide ((j : Int) < (s.size : Int)) = false := by simp; omega
        clear hq hov
        go_wp2
        go_ret
        exact ⟨l, rfl, HP.out, hbl⟩
end Go.Proofs.YtjeoiffloghonaaGreatDoor

/- plumblaw11: tame. -/
namespace Go.Proofs.YtjeoiffloghonaaGreatDoor
open Go.ChangeShapes Go.WideShapes Go.ChangeAt Go.RowKit
open Na Ar Lx
set_option linter.unusedVariables false
theorem into11b_any {n top : Int} (h0 : 0 < top) (h1 : top ≤ 1000000) (w : World) :
    Calls Tryz.prog 13 #[.int .i64 n, .int .i64 top] w fun e w' => e = .returned (.int .i64 (n % top)) ∧ w' = w := by
  have z : (top == 0) = false := by simp; omega
  have hne : ¬ top = -1 := by omega
  have hz0 : ¬ top = 0 := by omega
  have e1 : n.tmod top < top := Int.tmod_lt_of_pos n h0
  have e2 : -top < n.tmod top := Int.lt_tmod_of_pos n h0
  have hd := Int.emod_emod_of_dvd n (Int.dvd_refl top)
  have hm : n % top = if n.tmod top < 0 then n.tmod top + top else n.tmod top := by
    have q1 := Int.emod_nonneg n hz0
    have q2 := Int.emod_lt_of_pos n h0
    have hN : (top.natAbs : Int) = top := by omega
    rw [Int.tmod_eq_emod]
    split
    · split <;> omega
    · rw [hN]; split <;> omega
  rw [hm]
  clear hm hd
  generalize hq : n.tmod top = q at *
  by_cases h : q < 0
  · rw [if_pos h]
    have d : decide (q < 0) = true := by simp; omega
    go_enter Tryz.func13, Tryz.ntmps13
    go_wp2
    go_ret
    exact ⟨rfl, rfl⟩
  · rw [if_neg h]
    have d : decide (q < 0) = false := by simp; omega
    go_enter Tryz.func13, Tryz.ntmps13
    go_wp2
    go_ret
    exact ⟨rfl, rfl⟩
/-- a right numeral of few digits -/
def TameIs (k : Int) (nu : B) (e : Int) (de : B) : Prop :=
  (k = 1 ∧ PlOk false nu ∧ de = [] ∧ -420 < e ∧ e < 420) ∨ (k = 2 ∧ PlOk true nu ∧ de = [] ∧ -1260 < e ∧ e < 1260) ∨ (k = 3 ∧ PlOk false nu ∧ e = 0 ∧ PlOk false de ∧ de ≠ [])
set_option maxHeartbeats 3200000 in
set_option maxRecDepth 100000 in
theorem tame_1 (k : Int) (ng : Bool) (nu : ByteArray) (e : Int) (de : ByteArray) (hk : k % 3 = 0) (hn : nu.size ≤ 9223372036854775807) (hd : de.size ≤ 9223372036854775807) (w : World) :
    Calls Tryz.prog 15 #[.agg (numC k ng nu e de)] w fun r w' => ∃ (k' e' : Int) (nu' de' : B), r = .returned (.agg (numC k' ng (str nu') e' (str de'))) ∧ TameIs k' nu' e' de' ∧ Below w.heap.size w w' := by
  have hI := fun w => into11b_any (n := k) (top := 3) (by omega) (by omega) w
  rw [hk] at hI
  have hP1 := fun w => plain_any nu hn false w
  have hP2 := fun w => plain_any de hd false w
  obtain ⟨q, hq⟩ : ∃ q, e.tmod 420 = q := ⟨_, rfl⟩
  have q0 : -420 < q := by rw [← hq]; exact Int.lt_tmod_of_pos e (by omega)
  have q1 : q < 420 := by rw [← hq]; exact Int.tmod_lt_of_pos e (by omega)
  have wq : IntKind.i64.wrap (q * 3) = q * 3 := wrapI (by omega) (by omega)
  have B0 : Bk ((w.alloc (.cells (numC k ng nu e de) 23)).alloc (.cells zero5 23)) w.heap.size 23 (numC k ng nu e de) := (Bk.new w _ _).later ((Below.refl _ _).alloc (Nat.le_refl _) _)
  have B1 : Bk ((w.alloc (.cells (numC k ng nu e de) 23)).alloc (.cells zero5 23)) (w.heap.size + 1) 23 zero5 := by
    have := Bk.new (w.alloc (.cells (numC k ng nu e de) 23)) 23 zero5
    rw [World.size_alloc] at this
    exact this
  have hb0 : Below w.heap.size w ((w.alloc (.cells (numC k ng nu e de) 23)).alloc (.cells zero5 23)) := ((Below.refl _ w).alloc (Nat.le_refl _) _).alloc (by simp) _
  obtain ⟨w0, hw0⟩ : ∃ w0, w0 = ((w.alloc (.cells #[.int .i64 k, .bool ng, .string nu, .int .i64 e, .string de] 23)).alloc (.cells #[.int .i64 0, .bool false, .string ⟨#[]⟩, .int .i64 0, .string ⟨#[]⟩] 23)) := ⟨_, rfl⟩
  unfold numC zero5 at B0 B1 hb0
  rw [← hw0] at B0 B1 hb0
  obtain ⟨g, hg⟩ : ∃ g, g = w.heap.size := ⟨_, rfl⟩
  rw [← hg] at B0 B1 hb0
  have HG : Hid (w.heap.size = g) := hg.symm
  have BX : Bk w0 g 23 (numC k ng nu e de) := B0
  have BR : Bk w0 (g + 1) 23 zero5 := B1
  clear B0 B1
  have BW := hb0
  clear hb0
  unfold numC
  go_enter Tryz.func15, Tryz.ntmps15
  go_wp2_with fail
  refine (hI _).mono ?_
  rintro r wA ⟨rfl, hwA⟩
  rw [hwA, ← hw0, ← hg]
  clear hI hwA hw0 hg hk
  have x0 := BX.cell 0 (v := .int .i64 k) rfl
  have x1 := BX.cell 1 (v := .bool ng) rfl
  have x2 := BX.cell 2 (v := .string (nu)) rfl
  have x3 := BX.cell 3 (v := .int .i64 e) rfl
  have x4 := BX.cell 4 (v := .string (de)) rfl
  have f0 := BX.frozen 0
  have f2 := BX.frozen 2
  have f3 := BX.frozen 3
  have f4 := BX.frozen 4
  have t2 : ((1 : Int) == 2) = false := by decide
  obtain ⟨s1, hs1⟩ : ∃ W, W = w0.setCell ⟨g, 0, none⟩ (.int .i64 1) := ⟨_, rfl⟩
  have BX' : Bk s1 g 23 (numC 1 ng (nu) e (de)) := by rw [hs1]; exact Bk.set BX 0 _
  have BR' : Bk s1 (g + 1) 23 zero5 := by rw [hs1]; exact Bk.tn BR ((Tn.refl g _).set 0 _) (by omega)
  have BW' : Below g w s1 := by rw [hs1]; exact Tn.below BW ((Tn.refl g _).set 0 _) (Nat.le_refl _) (by rw [HG.out]; exact Nat.le_refl _)
  clear BX BR BW
  have BX := BX'
  have BR := BR'
  have BW := BW'
  clear BX' BR' BW'
  go_wp2_with fail
  rw [← hs1]
  refine (hP1 _).mono ?_
  rintro r v1 ⟨l1, rfl, hl1, hb⟩
  have HL1 : Hid (PlOk false l1) := hl1
  clear hP1 hl1 hs1
  clear x0 x1 x2 x3 x4 f0 f2 f3 f4
  have BX := BX.later hb
  have BR := BR.later hb
  have BW := BW.trans (hb.mono (by have := BW.size; have := HG.out; omega))
  clear hb
  have x0 := BX.cell 0 (v := .int .i64 1) rfl
  have x1 := BX.cell 1 (v := .bool ng) rfl
  have x2 := BX.cell 2 (v := .string (nu)) rfl
  have x3 := BX.cell 3 (v := .int .i64 e) rfl
  have x4 := BX.cell 4 (v := .string (de)) rfl
  have f0 := BX.frozen 0
  have f2 := BX.frozen 2
  have f3 := BX.frozen 3
  have f4 := BX.frozen 4
  obtain ⟨s2, hs2⟩ : ∃ W, W = v1.setCell ⟨g, 2, none⟩ (.string (str l1)) := ⟨_, rfl⟩
  have BX' : Bk s2 g 23 (numC 1 ng (str l1) e (de)) := by rw [hs2]; exact Bk.set BX 2 _
  have BR' : Bk s2 (g + 1) 23 zero5 := by rw [hs2]; exact Bk.tn BR ((Tn.refl g _).set 2 _) (by omega)
  have BW' : Below g w s2 := by rw [hs2]; exact Tn.below BW ((Tn.refl g _).set 2 _) (Nat.le_refl _) (by rw [HG.out]; exact Nat.le_refl _)
  clear BX BR BW
  have BX := BX'
  have BR := BR'
  have BW := BW'
  clear BX' BR' BW'
  go_wp2_with fail
  rw [← hs2]
  refine (hP2 _).mono ?_
  rintro r v2 ⟨l2, rfl, hl2, hb⟩
  have HL2 : Hid (PlOk false l2) := hl2
  clear hP2 hl2 hs2
  clear x0 x1 x2 x3 x4 f0 f2 f3 f4
  have BX := BX.later hb
  have BR := BR.later hb
  have BW := BW.trans (hb.mono (by have := BW.size; have := HG.out; omega))
  clear hb
  have x0 := BX.cell 0 (v := .int .i64 1) rfl
  have x1 := BX.cell 1 (v := .bool ng) rfl
  have x2 := BX.cell 2 (v := .string (str l1)) rfl
  have x3 := BX.cell 3 (v := .int .i64 e) rfl
  have x4 := BX.cell 4 (v := .string (de)) rfl
  have f0 := BX.frozen 0
  have f2 := BX.frozen 2
  have f3 := BX.frozen 3
  have f4 := BX.frozen 4
  have z0 := BR.cell 0 rfl
  have z1 := BR.cell 1 rfl
  have z2 := BR.cell 2 rfl
  have z3 := BR.cell 3 rfl
  have z4 := BR.cell 4 rfl
  have y0 := BR.frozen 0
  have y1 := BR.frozen 1
  have y2 := BR.frozen 2
  have y3 := BR.frozen 3
  have y4 := BR.frozen 4
  have R0 : Bk (v2.setCell ⟨g, 4, none⟩ (.string (str l2))) (g + 1) 23 zero5 := Bk.tn BR ((Tn.refl g _).set 4 _) (by omega)
  have Q0 : Below g w (v2.setCell ⟨g, 4, none⟩ (.string (str l2))) := Tn.below BW ((Tn.refl g _).set 4 _) (Nat.le_refl _) (by rw [HG.out]; exact Nat.le_refl _)
  have R1 : Bk ((v2.setCell ⟨g, 4, none⟩ (.string (str l2))).setCell ⟨g, 3, none⟩ (.int .i64 q)) (g + 1) 23 zero5 := Bk.tn R0 ((Tn.refl g _).set 3 _) (by omega)
  have Q1 : Below g w ((v2.setCell ⟨g, 4, none⟩ (.string (str l2))).setCell ⟨g, 3, none⟩ (.int .i64 q)) := Tn.below Q0 ((Tn.refl g _).set 3 _) (Nat.le_refl _) (by rw [HG.out]; exact Nat.le_refl _)
  have R2 : Bk (((v2.setCell ⟨g, 4, none⟩ (.string (str l2))).setCell ⟨g, 3, none⟩ (.int .i64 q)).setCell ⟨g, 4, none⟩ (.string ⟨#[]⟩)) (g + 1) 23 zero5 := Bk.tn R1 ((Tn.refl g _).set 4 _) (by omega)
  have Q2 : Below g w (((v2.setCell ⟨g, 4, none⟩ (.string (str l2))).setCell ⟨g, 3, none⟩ (.int .i64 q)).setCell ⟨g, 4, none⟩ (.string ⟨#[]⟩)) := Tn.below Q1 ((Tn.refl g _).set 4 _) (Nat.le_refl _) (by rw [HG.out]; exact Nat.le_refl _)
  have BF : Bk (((v2.setCell ⟨g, 4, none⟩ (.string (str l2))).setCell ⟨g, 3, none⟩ (.int .i64 q)).setCell ⟨g, 4, none⟩ (.string ⟨#[]⟩)) g 23 (numC 1 ng (str l1) (q) (⟨#[]⟩)) := (Bk.set (Bk.set (Bk.set BX 4 (.string (str l2))) 3 (.int .i64 q)) 4 (.string ⟨#[]⟩))
  have c3 := BF.cell 3 (v := .int .i64 (q)) rfl
  have c4 := BF.cell 4 (v := .string (⟨#[]⟩)) rfl
  clear BF
  have HR : Hid (Bk (((v2.setCell ⟨g, 4, none⟩ (.string (str l2))).setCell ⟨g, 3, none⟩ (.int .i64 q)).setCell ⟨g, 4, none⟩ (.string ⟨#[]⟩)) (g + 1) 23 zero5) := R2
  have HQ : Hid (Below g w (((v2.setCell ⟨g, 4, none⟩ (.string (str l2))).setCell ⟨g, 3, none⟩ (.int .i64 q)).setCell ⟨g, 4, none⟩ (.string ⟨#[]⟩))) := Q2
  clear R0 Q0 R1 Q1 R2 Q2 BX BR BW
  go_wp2
  refine bodyPost_ret (results_cell_row rfl _ _ (g + 1) 23 #[.int .i64 1, .bool ng, .string (str l1), .int .i64 (q), .string (⟨#[]⟩)] (0, 0) _ rfl (Bk.all5 HR.out _ _ _ _ _) Tryz.underlying23 rfl (by kernel_rfl)) rfl ?_
  refine ⟨1, q, l1, [], rfl, Or.inl ⟨rfl, HL1.out, rfl, q0, q1⟩, ?_⟩
  rw [HG.out]
  exact Tn.below HQ.out (Tn.all5 ..) (by omega) (by rw [HG.out]; exact Nat.le_refl _)
set_option maxHeartbeats 3200000 in
set_option maxRecDepth 100000 in
theorem tame_2 (k : Int) (ng : Bool) (nu : ByteArray) (e : Int) (de : ByteArray) (hk : k % 3 = 1) (hn : nu.size ≤ 9223372036854775807) (hd : de.size ≤ 9223372036854775807) (w : World) :
    Calls Tryz.prog 15 #[.agg (numC k ng nu e de)] w fun r w' => ∃ (k' e' : Int) (nu' de' : B), r = .returned (.agg (numC k' ng (str nu') e' (str de'))) ∧ TameIs k' nu' e' de' ∧ Below w.heap.size w w' := by
  have hI := fun w => into11b_any (n := k) (top := 3) (by omega) (by omega) w
  rw [hk] at hI
  have hP1 := fun w => plain_any nu hn true w
  have hP2 := fun w => plain_any de hd false w
  obtain ⟨q, hq⟩ : ∃ q, e.tmod 420 = q := ⟨_, rfl⟩
  have q0 : -420 < q := by rw [← hq]; exact Int.lt_tmod_of_pos e (by omega)
  have q1 : q < 420 := by rw [← hq]; exact Int.tmod_lt_of_pos e (by omega)
  have wq : IntKind.i64.wrap (q * 3) = q * 3 := wrapI (by omega) (by omega)
  have B0 : Bk ((w.alloc (.cells (numC k ng nu e de) 23)).alloc (.cells zero5 23)) w.heap.size 23 (numC k ng nu e de) := (Bk.new w _ _).later ((Below.refl _ _).alloc (Nat.le_refl _) _)
  have B1 : Bk ((w.alloc (.cells (numC k ng nu e de) 23)).alloc (.cells zero5 23)) (w.heap.size + 1) 23 zero5 := by
    have := Bk.new (w.alloc (.cells (numC k ng nu e de) 23)) 23 zero5
    rw [World.size_alloc] at this
    exact this
  have hb0 : Below w.heap.size w ((w.alloc (.cells (numC k ng nu e de) 23)).alloc (.cells zero5 23)) := ((Below.refl _ w).alloc (Nat.le_refl _) _).alloc (by simp) _
  obtain ⟨w0, hw0⟩ : ∃ w0, w0 = ((w.alloc (.cells #[.int .i64 k, .bool ng, .string nu, .int .i64 e, .string de] 23)).alloc (.cells #[.int .i64 0, .bool false, .string ⟨#[]⟩, .int .i64 0, .string ⟨#[]⟩] 23)) := ⟨_, rfl⟩
  unfold numC zero5 at B0 B1 hb0
  rw [← hw0] at B0 B1 hb0
  obtain ⟨g, hg⟩ : ∃ g, g = w.heap.size := ⟨_, rfl⟩
  rw [← hg] at B0 B1 hb0
  have HG : Hid (w.heap.size = g) := hg.symm
  have BX : Bk w0 g 23 (numC k ng nu e de) := B0
  have BR : Bk w0 (g + 1) 23 zero5 := B1
  clear B0 B1
  have BW := hb0
  clear hb0
  unfold numC
  go_enter Tryz.func15, Tryz.ntmps15
  go_wp2_with fail
  refine (hI _).mono ?_
  rintro r wA ⟨rfl, hwA⟩
  rw [hwA, ← hw0, ← hg]
  clear hI hwA hw0 hg hk
  have x0 := BX.cell 0 (v := .int .i64 k) rfl
  have x1 := BX.cell 1 (v := .bool ng) rfl
  have x2 := BX.cell 2 (v := .string (nu)) rfl
  have x3 := BX.cell 3 (v := .int .i64 e) rfl
  have x4 := BX.cell 4 (v := .string (de)) rfl
  have f0 := BX.frozen 0
  have f2 := BX.frozen 2
  have f3 := BX.frozen 3
  have f4 := BX.frozen 4
  have t2 : ((2 : Int) == 2) = true := by decide
  obtain ⟨s1, hs1⟩ : ∃ W, W = w0.setCell ⟨g, 0, none⟩ (.int .i64 2) := ⟨_, rfl⟩
  have BX' : Bk s1 g 23 (numC 2 ng (nu) e (de)) := by rw [hs1]; exact Bk.set BX 0 _
  have BR' : Bk s1 (g + 1) 23 zero5 := by rw [hs1]; exact Bk.tn BR ((Tn.refl g _).set 0 _) (by omega)
  have BW' : Below g w s1 := by rw [hs1]; exact Tn.below BW ((Tn.refl g _).set 0 _) (Nat.le_refl _) (by rw [HG.out]; exact Nat.le_refl _)
  clear BX BR BW
  have BX := BX'
  have BR := BR'
  have BW := BW'
  clear BX' BR' BW'
  go_wp2_with fail
  rw [← hs1]
  refine (hP1 _).mono ?_
  rintro r v1 ⟨l1, rfl, hl1, hb⟩
  have HL1 : Hid (PlOk true l1) := hl1
  clear hP1 hl1 hs1
  clear x0 x1 x2 x3 x4 f0 f2 f3 f4
  have BX := BX.later hb
  have BR := BR.later hb
  have BW := BW.trans (hb.mono (by have := BW.size; have := HG.out; omega))
  clear hb
  have x0 := BX.cell 0 (v := .int .i64 2) rfl
  have x1 := BX.cell 1 (v := .bool ng) rfl
  have x2 := BX.cell 2 (v := .string (nu)) rfl
  have x3 := BX.cell 3 (v := .int .i64 e) rfl
  have x4 := BX.cell 4 (v := .string (de)) rfl
  have f0 := BX.frozen 0
  have f2 := BX.frozen 2
  have f3 := BX.frozen 3
  have f4 := BX.frozen 4
  obtain ⟨s2, hs2⟩ : ∃ W, W = v1.setCell ⟨g, 2, none⟩ (.string (str l1)) := ⟨_, rfl⟩
  have BX' : Bk s2 g 23 (numC 2 ng (str l1) e (de)) := by rw [hs2]; exact Bk.set BX 2 _
  have BR' : Bk s2 (g + 1) 23 zero5 := by rw [hs2]; exact Bk.tn BR ((Tn.refl g _).set 2 _) (by omega)
  have BW' : Below g w s2 := by rw [hs2]; exact Tn.below BW ((Tn.refl g _).set 2 _) (Nat.le_refl _) (by rw [HG.out]; exact Nat.le_refl _)
  clear BX BR BW
  have BX := BX'
  have BR := BR'
  have BW := BW'
  clear BX' BR' BW'
  go_wp2_with fail
  rw [← hs2]
  refine (hP2 _).mono ?_
  rintro r v2 ⟨l2, rfl, hl2, hb⟩
  have HL2 : Hid (PlOk false l2) := hl2
  clear hP2 hl2 hs2
  clear x0 x1 x2 x3 x4 f0 f2 f3 f4
  have BX := BX.later hb
  have BR := BR.later hb
  have BW := BW.trans (hb.mono (by have := BW.size; have := HG.out; omega))
  clear hb
  have x0 := BX.cell 0 (v := .int .i64 2) rfl
  have x1 := BX.cell 1 (v := .bool ng) rfl
  have x2 := BX.cell 2 (v := .string (str l1)) rfl
  have x3 := BX.cell 3 (v := .int .i64 e) rfl
  have x4 := BX.cell 4 (v := .string (de)) rfl
  have f0 := BX.frozen 0
  have f2 := BX.frozen 2
  have f3 := BX.frozen 3
  have f4 := BX.frozen 4
  have z0 := BR.cell 0 rfl
  have z1 := BR.cell 1 rfl
  have z2 := BR.cell 2 rfl
  have z3 := BR.cell 3 rfl
  have z4 := BR.cell 4 rfl
  have y0 := BR.frozen 0
  have y1 := BR.frozen 1
  have y2 := BR.frozen 2
  have y3 := BR.frozen 3
  have y4 := BR.frozen 4
  have R0 : Bk (v2.setCell ⟨g, 4, none⟩ (.string (str l2))) (g + 1) 23 zero5 := Bk.tn BR ((Tn.refl g _).set 4 _) (by omega)
  have Q0 : Below g w (v2.setCell ⟨g, 4, none⟩ (.string (str l2))) := Tn.below BW ((Tn.refl g _).set 4 _) (Nat.le_refl _) (by rw [HG.out]; exact Nat.le_refl _)
  have R1 : Bk ((v2.setCell ⟨g, 4, none⟩ (.string (str l2))).setCell ⟨g, 3, none⟩ (.int .i64 q)) (g + 1) 23 zero5 := Bk.tn R0 ((Tn.refl g _).set 3 _) (by omega)
  have Q1 : Below g w ((v2.setCell ⟨g, 4, none⟩ (.string (str l2))).setCell ⟨g, 3, none⟩ (.int .i64 q)) := Tn.below Q0 ((Tn.refl g _).set 3 _) (Nat.le_refl _) (by rw [HG.out]; exact Nat.le_refl _)
  have R2 : Bk (((v2.setCell ⟨g, 4, none⟩ (.string (str l2))).setCell ⟨g, 3, none⟩ (.int .i64 q)).setCell ⟨g, 3, none⟩ (.int .i64 (q * 3))) (g + 1) 23 zero5 := Bk.tn R1 ((Tn.refl g _).set 3 _) (by omega)
  have Q2 : Below g w (((v2.setCell ⟨g, 4, none⟩ (.string (str l2))).setCell ⟨g, 3, none⟩ (.int .i64 q)).setCell ⟨g, 3, none⟩ (.int .i64 (q * 3))) := Tn.below Q1 ((Tn.refl g _).set 3 _) (Nat.le_refl _) (by rw [HG.out]; exact Nat.le_refl _)
  have R3 : Bk ((((v2.setCell ⟨g, 4, none⟩ (.string (str l2))).setCell ⟨g, 3, none⟩ (.int .i64 q)).setCell ⟨g, 3, none⟩ (.int .i64 (q * 3))).setCell ⟨g, 4, none⟩ (.string ⟨#[]⟩)) (g + 1) 23 zero5 := Bk.tn R2 ((Tn.refl g _).set 4 _) (by omega)
  have Q3 : Below g w ((((v2.setCell ⟨g, 4, none⟩ (.string (str l2))).setCell ⟨g, 3, none⟩ (.int .i64 q)).setCell ⟨g, 3, none⟩ (.int .i64 (q * 3))).setCell ⟨g, 4, none⟩ (.string ⟨#[]⟩)) := Tn.below Q2 ((Tn.refl g _).set 4 _) (Nat.le_refl _) (by rw [HG.out]; exact Nat.le_refl _)
  have BF : Bk ((((v2.setCell ⟨g, 4, none⟩ (.string (str l2))).setCell ⟨g, 3, none⟩ (.int .i64 q)).setCell ⟨g, 3, none⟩ (.int .i64 (q * 3))).setCell ⟨g, 4, none⟩ (.string ⟨#[]⟩)) g 23 (numC 2 ng (str l1) (q * 3) (⟨#[]⟩)) := (Bk.set (Bk.set (Bk.set (Bk.set BX 4 (.string (str l2))) 3 (.int .i64 q)) 3 (.int .i64 (q * 3))) 4 (.string ⟨#[]⟩))
  have c3 := BF.cell 3 (v := .int .i64 (q * 3)) rfl
  have c4 := BF.cell 4 (v := .string (⟨#[]⟩)) rfl
  clear BF
  have HR : Hid (Bk ((((v2.setCell ⟨g, 4, none⟩ (.string (str l2))).setCell ⟨g, 3, none⟩ (.int .i64 q)).setCell ⟨g, 3, none⟩ (.int .i64 (q * 3))).setCell ⟨g, 4, none⟩ (.string ⟨#[]⟩)) (g + 1) 23 zero5) := R3
  have HQ : Hid (Below g w ((((v2.setCell ⟨g, 4, none⟩ (.string (str l2))).setCell ⟨g, 3, none⟩ (.int .i64 q)).setCell ⟨g, 3, none⟩ (.int .i64 (q * 3))).setCell ⟨g, 4, none⟩ (.string ⟨#[]⟩))) := Q3
  clear R0 Q0 R1 Q1 R2 Q2 R3 Q3 BX BR BW
  go_wp2
  refine bodyPost_ret (results_cell_row rfl _ _ (g + 1) 23 #[.int .i64 2, .bool ng, .string (str l1), .int .i64 (q * 3), .string (⟨#[]⟩)] (0, 0) _ rfl (Bk.all5 HR.out _ _ _ _ _) Tryz.underlying23 rfl (by kernel_rfl)) rfl ?_
  refine ⟨2, q * 3, l1, [], rfl, Or.inr (Or.inl ⟨rfl, HL1.out, rfl, by omega, by omega⟩), ?_⟩
  rw [HG.out]
  exact Tn.below HQ.out (Tn.all5 ..) (by omega) (by rw [HG.out]; exact Nat.le_refl _)
set_option maxHeartbeats 3200000 in
set_option maxRecDepth 100000 in
theorem tame_3 (k : Int) (ng : Bool) (nu : ByteArray) (e : Int) (de : ByteArray) (hk : k % 3 = 2) (hn : nu.size ≤ 9223372036854775807) (hd : de.size ≤ 9223372036854775807) (w : World) :
    Calls Tryz.prog 15 #[.agg (numC k ng nu e de)] w fun r w' => ∃ (k' e' : Int) (nu' de' : B), r = .returned (.agg (numC k' ng (str nu') e' (str de'))) ∧ TameIs k' nu' e' de' ∧ Below w.heap.size w w' := by
  have hI := fun w => into11b_any (n := k) (top := 3) (by omega) (by omega) w
  rw [hk] at hI
  have hP1 := fun w => plain_any nu hn false w
  have hP2 := fun w => plain_any de hd false w
  obtain ⟨q, hq⟩ : ∃ q, e.tmod 420 = q := ⟨_, rfl⟩
  have q0 : -420 < q := by rw [← hq]; exact Int.lt_tmod_of_pos e (by omega)
  have q1 : q < 420 := by rw [← hq]; exact Int.tmod_lt_of_pos e (by omega)
  have wq : IntKind.i64.wrap (q * 3) = q * 3 := wrapI (by omega) (by omega)
  have B0 : Bk ((w.alloc (.cells (numC k ng nu e de) 23)).alloc (.cells zero5 23)) w.heap.size 23 (numC k ng nu e de) := (Bk.new w _ _).later ((Below.refl _ _).alloc (Nat.le_refl _) _)
  have B1 : Bk ((w.alloc (.cells (numC k ng nu e de) 23)).alloc (.cells zero5 23)) (w.heap.size + 1) 23 zero5 := by
    have := Bk.new (w.alloc (.cells (numC k ng nu e de) 23)) 23 zero5
    rw [World.size_alloc] at this
    exact this
  have hb0 : Below w.heap.size w ((w.alloc (.cells (numC k ng nu e de) 23)).alloc (.cells zero5 23)) := ((Below.refl _ w).alloc (Nat.le_refl _) _).alloc (by simp) _
  obtain ⟨w0, hw0⟩ : ∃ w0, w0 = ((w.alloc (.cells #[.int .i64 k, .bool ng, .string nu, .int .i64 e, .string de] 23)).alloc (.cells #[.int .i64 0, .bool false, .string ⟨#[]⟩, .int .i64 0, .string ⟨#[]⟩] 23)) := ⟨_, rfl⟩
  unfold numC zero5 at B0 B1 hb0
  rw [← hw0] at B0 B1 hb0
  obtain ⟨g, hg⟩ : ∃ g, g = w.heap.size := ⟨_, rfl⟩
  rw [← hg] at B0 B1 hb0
  have HG : Hid (w.heap.size = g) := hg.symm
  have BX : Bk w0 g 23 (numC k ng nu e de) := B0
  have BR : Bk w0 (g + 1) 23 zero5 := B1
  clear B0 B1
  have BW := hb0
  clear hb0
  unfold numC
  go_enter Tryz.func15, Tryz.ntmps15
  go_wp2_with fail
  refine (hI _).mono ?_
  rintro r wA ⟨rfl, hwA⟩
  rw [hwA, ← hw0, ← hg]
  clear hI hwA hw0 hg hk
  have x0 := BX.cell 0 (v := .int .i64 k) rfl
  have x1 := BX.cell 1 (v := .bool ng) rfl
  have x2 := BX.cell 2 (v := .string (nu)) rfl
  have x3 := BX.cell 3 (v := .int .i64 e) rfl
  have x4 := BX.cell 4 (v := .string (de)) rfl
  have f0 := BX.frozen 0
  have f2 := BX.frozen 2
  have f3 := BX.frozen 3
  have f4 := BX.frozen 4
  have t2 : ((3 : Int) == 2) = false := by decide
  obtain ⟨s1, hs1⟩ : ∃ W, W = w0.setCell ⟨g, 0, none⟩ (.int .i64 3) := ⟨_, rfl⟩
  have BX' : Bk s1 g 23 (numC 3 ng (nu) e (de)) := by rw [hs1]; exact Bk.set BX 0 _
  have BR' : Bk s1 (g + 1) 23 zero5 := by rw [hs1]; exact Bk.tn BR ((Tn.refl g _).set 0 _) (by omega)
  have BW' : Below g w s1 := by rw [hs1]; exact Tn.below BW ((Tn.refl g _).set 0 _) (Nat.le_refl _) (by rw [HG.out]; exact Nat.le_refl _)
  clear BX BR BW
  have BX := BX'
  have BR := BR'
  have BW := BW'
  clear BX' BR' BW'
  go_wp2_with fail
  rw [← hs1]
  refine (hP1 _).mono ?_
  rintro r v1 ⟨l1, rfl, hl1, hb⟩
  have HL1 : Hid (PlOk false l1) := hl1
  clear hP1 hl1 hs1
  clear x0 x1 x2 x3 x4 f0 f2 f3 f4
  have BX := BX.later hb
  have BR := BR.later hb
  have BW := BW.trans (hb.mono (by have := BW.size; have := HG.out; omega))
  clear hb
  have x0 := BX.cell 0 (v := .int .i64 3) rfl
  have x1 := BX.cell 1 (v := .bool ng) rfl
  have x2 := BX.cell 2 (v := .string (nu)) rfl
  have x3 := BX.cell 3 (v := .int .i64 e) rfl
  have x4 := BX.cell 4 (v := .string (de)) rfl
  have f0 := BX.frozen 0
  have f2 := BX.frozen 2
  have f3 := BX.frozen 3
  have f4 := BX.frozen 4
  obtain ⟨s2, hs2⟩ : ∃ W, W = v1.setCell ⟨g, 2, none⟩ (.string (str l1)) := ⟨_, rfl⟩
  have BX' : Bk s2 g 23 (numC 3 ng (str l1) e (de)) := by rw [hs2]; exact Bk.set BX 2 _
  have BR' : Bk s2 (g + 1) 23 zero5 := by rw [hs2]; exact Bk.tn BR ((Tn.refl g _).set 2 _) (by omega)
  have BW' : Below g w s2 := by rw [hs2]; exact Tn.below BW ((Tn.refl g _).set 2 _) (Nat.le_refl _) (by rw [HG.out]; exact Nat.le_refl _)
  clear BX BR BW
  have BX := BX'
  have BR := BR'
  have BW := BW'
  clear BX' BR' BW'
  go_wp2_with fail
  rw [← hs2]
  refine (hP2 _).mono ?_
  rintro r v2 ⟨l2, rfl, hl2, hb⟩
  have HL2 : Hid (PlOk false l2) := hl2
  clear hP2 hl2 hs2
  clear x0 x1 x2 x3 x4 f0 f2 f3 f4
  have BX := BX.later hb
  have BR := BR.later hb
  have BW := BW.trans (hb.mono (by have := BW.size; have := HG.out; omega))
  clear hb
  have x0 := BX.cell 0 (v := .int .i64 3) rfl
  have x1 := BX.cell 1 (v := .bool ng) rfl
  have x2 := BX.cell 2 (v := .string (str l1)) rfl
  have x3 := BX.cell 3 (v := .int .i64 e) rfl
  have x4 := BX.cell 4 (v := .string (de)) rfl
  have f0 := BX.frozen 0
  have f2 := BX.frozen 2
  have f3 := BX.frozen 3
  have f4 := BX.frozen 4
  have z0 := BR.cell 0 rfl
  have z1 := BR.cell 1 rfl
  have z2 := BR.cell 2 rfl
  have z3 := BR.cell 3 rfl
  have z4 := BR.cell 4 rfl
  have y0 := BR.frozen 0
  have y1 := BR.frozen 1
  have y2 := BR.frozen 2
  have y3 := BR.frozen 3
  have y4 := BR.frozen 4
  by_cases h2 : l2 = []
  · subst h2
    have te : (str []).toList.isEmpty = true := emp_of (s := str []) rfl
    have R0 : Bk (v2.setCell ⟨g, 4, none⟩ (.string (str []))) (g + 1) 23 zero5 := Bk.tn BR ((Tn.refl g _).set 4 _) (by omega)
    have Q0 : Below g w (v2.setCell ⟨g, 4, none⟩ (.string (str []))) := Tn.below BW ((Tn.refl g _).set 4 _) (Nat.le_refl _) (by rw [HG.out]; exact Nat.le_refl _)
    have R1 : Bk ((v2.setCell ⟨g, 4, none⟩ (.string (str []))).setCell ⟨g, 3, none⟩ (.int .i64 q)) (g + 1) 23 zero5 := Bk.tn R0 ((Tn.refl g _).set 3 _) (by omega)
    have Q1 : Below g w ((v2.setCell ⟨g, 4, none⟩ (.string (str []))).setCell ⟨g, 3, none⟩ (.int .i64 q)) := Tn.below Q0 ((Tn.refl g _).set 3 _) (Nat.le_refl _) (by rw [HG.out]; exact Nat.le_refl _)
    have R2 : Bk (((v2.setCell ⟨g, 4, none⟩ (.string (str []))).setCell ⟨g, 3, none⟩ (.int .i64 q)).setCell ⟨g, 3, none⟩ (.int .i64 0)) (g + 1) 23 zero5 := Bk.tn R1 ((Tn.refl g _).set 3 _) (by omega)
    have Q2 : Below g w (((v2.setCell ⟨g, 4, none⟩ (.string (str []))).setCell ⟨g, 3, none⟩ (.int .i64 q)).setCell ⟨g, 3, none⟩ (.int .i64 0)) := Tn.below Q1 ((Tn.refl g _).set 3 _) (Nat.le_refl _) (by rw [HG.out]; exact Nat.le_refl _)
    have R3 : Bk ((((v2.setCell ⟨g, 4, none⟩ (.string (str []))).setCell ⟨g, 3, none⟩ (.int .i64 q)).setCell ⟨g, 3, none⟩ (.int .i64 0)).setCell ⟨g, 4, none⟩ (.string ⟨#[51]⟩)) (g + 1) 23 zero5 := Bk.tn R2 ((Tn.refl g _).set 4 _) (by omega)
    have Q3 : Below g w ((((v2.setCell ⟨g, 4, none⟩ (.string (str []))).setCell ⟨g, 3, none⟩ (.int .i64 q)).setCell ⟨g, 3, none⟩ (.int .i64 0)).setCell ⟨g, 4, none⟩ (.string ⟨#[51]⟩)) := Tn.below Q2 ((Tn.refl g _).set 4 _) (Nat.le_refl _) (by rw [HG.out]; exact Nat.le_refl _)
    have BF : Bk ((((v2.setCell ⟨g, 4, none⟩ (.string (str []))).setCell ⟨g, 3, none⟩ (.int .i64 q)).setCell ⟨g, 3, none⟩ (.int .i64 0)).setCell ⟨g, 4, none⟩ (.string ⟨#[51]⟩)) g 23 (numC 3 ng (str l1) (0) (⟨#[51]⟩)) := (Bk.set (Bk.set (Bk.set (Bk.set BX 4 (.string (str []))) 3 (.int .i64 q)) 3 (.int .i64 0)) 4 (.string ⟨#[51]⟩))
    have c3 := BF.cell 3 (v := .int .i64 (0)) rfl
    have c4 := BF.cell 4 (v := .string (⟨#[51]⟩)) rfl
    clear BF
    have HR : Hid (Bk ((((v2.setCell ⟨g, 4, none⟩ (.string (str []))).setCell ⟨g, 3, none⟩ (.int .i64 q)).setCell ⟨g, 3, none⟩ (.int .i64 0)).setCell ⟨g, 4, none⟩ (.string ⟨#[51]⟩)) (g + 1) 23 zero5) := R3
    have HQ : Hid (Below g w ((((v2.setCell ⟨g, 4, none⟩ (.string (str []))).setCell ⟨g, 3, none⟩ (.int .i64 q)).setCell ⟨g, 3, none⟩ (.int .i64 0)).setCell ⟨g, 4, none⟩ (.string ⟨#[51]⟩))) := Q3
    clear R0 Q0 R1 Q1 R2 Q2 R3 Q3 BX BR BW
    go_wp2
    refine bodyPost_ret (results_cell_row rfl _ _ (g + 1) 23 #[.int .i64 3, .bool ng, .string (str l1), .int .i64 (0), .string (⟨#[51]⟩)] (0, 0) _ rfl (Bk.all5 HR.out _ _ _ _ _) Tryz.underlying23 rfl (by kernel_rfl)) rfl ?_
    refine ⟨3, 0, l1, [51], rfl, Or.inr (Or.inr ⟨rfl, HL1.out, rfl, plOk_next (plOk_nil false) (by decide) (by decide) (Or.inl (by decide)), by decide⟩), ?_⟩
    rw [HG.out]
    exact Tn.below HQ.out (Tn.all5 ..) (by omega) (by rw [HG.out]; exact Nat.le_refl _)
  · have te : (str l2).toList.isEmpty = false := emp_no (by rw [str_list]; exact h2)
    have H2 : Hid (l2 ≠ []) := h2
    clear h2
    have R0 : Bk (v2.setCell ⟨g, 4, none⟩ (.string (str l2))) (g + 1) 23 zero5 := Bk.tn BR ((Tn.refl g _).set 4 _) (by omega)
    have Q0 : Below g w (v2.setCell ⟨g, 4, none⟩ (.string (str l2))) := Tn.below BW ((Tn.refl g _).set 4 _) (Nat.le_refl _) (by rw [HG.out]; exact Nat.le_refl _)
    have R1 : Bk ((v2.setCell ⟨g, 4, none⟩ (.string (str l2))).setCell ⟨g, 3, none⟩ (.int .i64 q)) (g + 1) 23 zero5 := Bk.tn R0 ((Tn.refl g _).set 3 _) (by omega)
    have Q1 : Below g w ((v2.setCell ⟨g, 4, none⟩ (.string (str l2))).setCell ⟨g, 3, none⟩ (.int .i64 q)) := Tn.below Q0 ((Tn.refl g _).set 3 _) (Nat.le_refl _) (by rw [HG.out]; exact Nat.le_refl _)
    have R2 : Bk (((v2.setCell ⟨g, 4, none⟩ (.string (str l2))).setCell ⟨g, 3, none⟩ (.int .i64 q)).setCell ⟨g, 3, none⟩ (.int .i64 0)) (g + 1) 23 zero5 := Bk.tn R1 ((Tn.refl g _).set 3 _) (by omega)
    have Q2 : Below g w (((v2.setCell ⟨g, 4, none⟩ (.string (str l2))).setCell ⟨g, 3, none⟩ (.int .i64 q)).setCell ⟨g, 3, none⟩ (.int .i64 0)) := Tn.below Q1 ((Tn.refl g _).set 3 _) (Nat.le_refl _) (by rw [HG.out]; exact Nat.le_refl _)
    have BF : Bk (((v2.setCell ⟨g, 4, none⟩ (.string (str l2))).setCell ⟨g, 3, none⟩ (.int .i64 q)).setCell ⟨g, 3, none⟩ (.int .i64 0)) g 23 (numC 3 ng (str l1) (0) (str l2)) := (Bk.set (Bk.set (Bk.set BX 4 (.string (str l2))) 3 (.int .i64 q)) 3 (.int .i64 0))
    have c3 := BF.cell 3 (v := .int .i64 (0)) rfl
    have c4 := BF.cell 4 (v := .string (str l2)) rfl
    clear BF
    have HR : Hid (Bk (((v2.setCell ⟨g, 4, none⟩ (.string (str l2))).setCell ⟨g, 3, none⟩ (.int .i64 q)).setCell ⟨g, 3, none⟩ (.int .i64 0)) (g + 1) 23 zero5) := R2
    have HQ : Hid (Below g w (((v2.setCell ⟨g, 4, none⟩ (.string (str l2))).setCell ⟨g, 3, none⟩ (.int .i64 q)).setCell ⟨g, 3, none⟩ (.int .i64 0))) := Q2
    clear R0 Q0 R1 Q1 R2 Q2 BX BR BW
    go_wp2
    refine bodyPost_ret (results_cell_row rfl _ _ (g + 1) 23 #[.int .i64 3, .bool ng, .string (str l1), .int .i64 (0), .string (str l2)] (0, 0) _ rfl (Bk.all5 HR.out _ _ _ _ _) Tryz.underlying23 rfl (by kernel_rfl)) rfl ?_
    refine ⟨3, 0, l1, l2, rfl, Or.inr (Or.inr ⟨rfl, HL1.out, rfl, HL2.out, H2.out⟩), ?_⟩
    rw [HG.out]
    exact Tn.below HQ.out (Tn.all5 ..) (by omega) (by rw [HG.out]; exact Nat.le_refl _)
theorem tame_any (k : Int) (ng : Bool) (nu : ByteArray) (e : Int) (de : ByteArray) (hn : nu.size ≤ 9223372036854775807) (hd : de.size ≤ 9223372036854775807) (w : World) :
    Calls Tryz.prog 15 #[.agg (numC k ng nu e de)] w fun r w' => ∃ (k' e' : Int) (nu' de' : B), r = .returned (.agg (numC k' ng (str nu') e' (str de'))) ∧ TameIs k' nu' e' de' ∧ Below w.heap.size w w' := by
  have h : k % 3 = 0 ∨ k % 3 = 1 ∨ k % 3 = 2 := by omega
  rcases h with h | h | h
  · exact tame_1 k ng nu e de h hn hd w
  · exact tame_2 k ng nu e de h hn hd w
  · exact tame_3 k ng nu e de h hn hd w
end Go.Proofs.YtjeoiffloghonaaGreatDoor

/- AtofRoads. -/
namespace Go.Proofs.YtjeoiffloghonaaGreatDoor
open Go.ChangeShapes Go.WideShapes Go.ChangeAt Go.RowKit
open Na Ar Lx
set_option linter.unusedVariables false
theorem tame_ref {k e : Int} {nu de : B} (h : TameIs k nu e de) (hk : k ≠ 1) : refE k nu e de = 0 := by
  have key : ∀ {l : B} {hx : Bool}, PlOk hx l → keptB (if hx = true then smal9 else digs9) l = true := fun {l hx} q => by
    rcases q.2.2 with rfl | ql
    · cases hx <;> rfl
    · refine kept_of (by have := q.1; omega) ql (fun c hc => ?_)
      have := q.2.1 c hc
      cases hx
      · exact isD_digs this
      · exact this
  rcases h with ⟨q, _⟩ | ⟨rfl, h1, rfl, h2, h3⟩ | ⟨rfl, h1, rfl, h2, h3⟩
  · exact absurd q hk
  · have hr : rightB 2 nu e [] = true := by
      unfold rightB
      rw [if_neg (by decide), if_pos rfl, show keptB smal9 nu = true from key h1]
      unfold withB
      simp; omega
    unfold refE
    rw [hr, if_pos rfl, if_neg (fun q => absurd q.1 (by decide))]
  · have hr : rightB 3 nu 0 de = true := by
      unfold rightB
      rw [if_neg (by decide), if_neg (by decide), if_pos rfl, show keptB digs9 nu = true from key h1, show keptB digs9 de = true from key h2]
      rfl
    unfold refE
    rw [hr, if_pos rfl, if_neg (fun q => h3 q.2)]
theorem zero_ref {e : Int} (e0 : -1073741824 ≤ e) (e1 : e ≤ 1073741824) : refE 1 [] e [] = 0 := by
  have hr : rightB 1 [] e [] = true := by
    unfold rightB
    have hw : withB e = true := by unfold withB; simp; omega
    rw [if_pos rfl, hw]
    rfl
  unfold refE
  rw [hr, if_pos rfl, if_neg (fun q => absurd q.1 (by decide))]
theorem pad_ref {nu : B} {e : Int} (h : PlOk false nu) (hn : nu ≠ []) (e0 : -1073741824 ≤ e) (e1 : e ≤ 1073741824) {p : Nat} (hp : p ≤ 600) {d : UInt8} (hd : isD d = true) : refE 1 (nu ++ List.replicate p 48 ++ [d]) e [] = 0 := by
  refine ref_dec ?_ ?_ ?_ e0 e1
  · rw [List.length_append, List.length_append, List.length_replicate, List.length_singleton]
    have := h.1; omega
  · rcases h.2.2 with q | ⟨c, r, rfl, hc⟩
    · exact absurd q hn
    · exact ⟨c, r ++ List.replicate p 48 ++ [d], rfl, hc⟩
  · intro c hc
    rcases List.mem_append.mp hc with hc | hc
    · rcases List.mem_append.mp hc with hc | hc
      · exact h.2.1 c hc
      · rw [(List.mem_replicate.mp hc).2]; rfl
    · rw [List.mem_singleton.mp hc]; exact hd
theorem check_ok {k e : Int} {ng : Bool} {nu de : ByteArray} (h : refE k nu.data.toList e de.data.toList = 0) (hn : nu.size ≤ 65536) (hd : de.size ≤ 65536) (w : World) : Calls Tryz.prog 16 #[.agg (numC k ng nu e de)] w fun r w' => r = .returned (.int .i64 0) ∧ Below w.heap.size w w' := by
  have := check9_any k ng nu e de (by omega) (by omega) w
  rw [(refE_right h).1, if_pos rfl] at this
  exact this
set_option maxHeartbeats 3200000 in
set_option maxRecDepth 100000 in
theorem roads_walk {kd e zeros last : Int} {ng0 : Bool} {nu0 de0 : ByteArray} (ka : -9223372036854775808 ≤ kd) (kb : kd ≤ 9223372036854775807) (ea : -9223372036854775808 ≤ e) (eb : e ≤ 9223372036854775807) (hn : nu0.size ≤ 9223372036854775807) (hd : de0.size ≤ 9223372036854775807) (i0 : -9223372036854775808 ≤ zeros) (i1 : zeros ≤ 9223372036854775807) (j0 : -9223372036854775808 ≤ last) (j1 : last ≤ 9223372036854775807) {w : World} (hT : TenVar w) (hG : GrVar w) :
    Calls Tryz.prog 5 #[.agg (numC kd ng0 nu0 e de0), .int .i64 zeros, .int .i64 last] w fun r w' => r = .returned (.bool true) ∧ Below w.heap.size w w' := by
  obtain ⟨ng, hng⟩ : ∃ ng, ng = ng0 := ⟨_, rfl⟩
  subst hng
  have hTm := fun w => tame_any kd ng nu0 e de0 hn hd w
  have B0 := Bk.new w 23 (numC kd ng nu0 e de0)
  have hb0 : Below w.heap.size w (w.alloc (.cells (numC kd ng nu0 e de0) 23)) := (Below.refl _ w).alloc (Nat.le_refl _) _
  obtain ⟨w0, hw0⟩ : ∃ w0, w0 = w.alloc (.cells (numC kd ng nu0 e de0) 23) := ⟨_, rfl⟩
  rw [← hw0] at B0 hb0
  obtain ⟨g, hg⟩ : ∃ g, g = w.heap.size := ⟨_, rfl⟩
  rw [← hg] at B0
  have HG : Hid (w.heap.size = g) := hg.symm
  unfold numC at hTm hw0 ⊢
  go_enter Tryz.func5, Tryz.ntmps5
  go_wp2_with fail
  refine (hTm _).mono ?_
  rintro r w1 ⟨k, e1, nu, de, rfl, htm, hb⟩
  rw [← hw0] at hb
  rw [← hg]
  have BY := B0.later hb
  have BV := hb0.trans (hb.mono hb0.size)
  clear hTm hw0 hg B0 hb0 hb
  have y0 := BY.cell 0 (v := .int .i64 kd) rfl
  have y1 := BY.cell 1 (v := .bool ng) rfl
  have y2 := BY.cell 2 (v := .string nu0) rfl
  have y3 := BY.cell 3 (v := .int .i64 e) rfl
  have y4 := BY.cell 4 (v := .string de0) rfl
  have f0 := BY.frozen 0
  have f1 := BY.frozen 1
  have f2 := BY.frozen 2
  have f3 := BY.frozen 3
  have f4 := BY.frozen 4
  obtain ⟨W, hW⟩ : ∃ W, W = ((((w1.setCell ⟨g, 0, none⟩ (.int .i64 k)).setCell ⟨g, 1, none⟩ (.bool ng)).setCell ⟨g, 2, none⟩ (.string (str nu))).setCell ⟨g, 3, none⟩ (.int .i64 e1)).setCell ⟨g, 4, none⟩ (.string (str de)) := ⟨_, rfl⟩
  have BX : Bk W g 23 (numC k ng (str nu) e1 (str de)) := by
    rw [hW]
    exact Bk.set (Bk.set (Bk.set (Bk.set (Bk.set BY 0 _) 1 _) 2 _) 3 _) 4 _
  have BW : Below w.heap.size w W := by
    rw [hW]
    exact Tn.below BV ((((((Tn.refl g _).set 0 _).set 1 _).set 2 _).set 3 _).set 4 _) (by rw [HG.out]; exact Nat.le_refl _) (Nat.le_refl _)
  have sN : (str nu).size ≤ 40 := by
    rw [str_size]
    rcases htm with ⟨_, h, _⟩ | ⟨_, h, _⟩ | ⟨_, h, _⟩ <;> exact h.1
  have sD : (str de).size ≤ 40 := by
    rw [str_size]
    rcases htm with ⟨_, _, h, _⟩ | ⟨_, _, h, _⟩ | ⟨_, _, _, h, _⟩
    · rw [h]; decide
    · rw [h]; decide
    · exact h.1
  have c0 := BX.cell 0 (v := .int .i64 k) rfl
  have c1 := BX.cell 1 (v := .bool ng) rfl
  have c2 := BX.cell 2 (v := .string (str nu)) rfl
  have c3 := BX.cell 3 (v := .int .i64 e1) rfl
  have c4 := BX.cell 4 (v := .string (str de)) rfl
  have cf3 := BX.frozen 3
  go_upto_region 3 with fail
  rw [← hW]
  clear hW y0 y1 y2 y3 y4 f0 f1 f2 f3 f4 BY BV
  by_cases hk : k = 1
  · subst hk
    obtain ⟨hpl, hde⟩ : PlOk false nu ∧ de = [] := by
      rcases htm with ⟨_, h1, h2, _⟩ | ⟨q, _⟩ | ⟨q, _⟩
      · exact ⟨h1, h2⟩
      · exact absurd q (by decide)
      · exact absurd q (by decide)
    subst hde
    clear htm sD
    have sD : (str ([] : B)).size ≤ 40 := by decide
    obtain ⟨q, hq9⟩ : ∃ q, e.tmod 1073741824 = q := ⟨_, rfl⟩
    have q0 : -1073741824 < q := by rw [← hq9]; exact Int.lt_tmod_of_pos e (by omega)
    have q1 : q < 1073741824 := by rw [← hq9]; exact Int.tmod_lt_of_pos e (by omega)
    have HPL : Hid (PlOk false nu) := hpl
    clear hpl
    obtain ⟨W1, hW1⟩ : ∃ W1, W1 = (W.setCell ⟨g, 3, none⟩ (.int .i64 e)) := ⟨_, rfl⟩
    have BF : Bk W1 g 23 (numC 1 ng (str nu) e (str [])) := by rw [hW1]; exact Bk.set BX 3 _
    have BQ : Below w.heap.size w W1 := by rw [hW1]; exact Tn.below BW ((Tn.refl g _).set 3 _) (by rw [HG.out]; exact Nat.le_refl _) (Nat.le_refl _)
    have a3 := BF.cell 3 (v := .int .i64 e) rfl
    have af3 := BF.frozen 3
    go_upto_region 5 with fail
    rw [← hW1]
    clear hW1 c0 c1 c2 c3 c4 cf3 BX BW
    go_cut [28] (fun v wx => v = .bool (decide (e < -1073741824 ∨ 1073741824 < e)) ∧ wx = W1)
    case first =>
      by_cases r1 : e < -1073741824
      · have d1 : decide (e < -1073741824) = true := by simp; omega
        have HD : Hid (decide (e < -1073741824 ∨ 1073741824 < e) = true) := decide_eq_true (Or.inl r1)
        go_wp2
        go_meet
        exact ⟨by rw [HD.out], rfl⟩
      · have d1 : decide (e < -1073741824) = false := by simp; omega
        by_cases r2 : 1073741824 < e
        · have d2 : decide (e > 1073741824) = true := by simp; omega
          have d2' : decide (1073741824 < e) = true := by simp; omega
          have HD : Hid (decide (e < -1073741824 ∨ 1073741824 < e) = true) := decide_eq_true (Or.inr r2)
          go_wp2
          go_meet
          exact ⟨by rw [HD.out], rfl⟩
        · have d2 : decide (e > 1073741824) = false := by simp; omega
          have d2' : decide (1073741824 < e) = false := by simp; omega
          have HD : Hid (decide (e < -1073741824 ∨ 1073741824 < e) = false) := decide_eq_false (by omega)
          go_wp2
          go_meet
          exact ⟨by rw [HD.out], rfl⟩
    obtain ⟨rfl, rfl⟩ := hcut
    go_upto_if 28 with fail
    go_cut [9] (fun _ wx => ∃ ex, -1073741824 ≤ ex ∧ ex ≤ 1073741824 ∧ Bk wx g 23 (numC 1 ng (str nu) ex (str [])) ∧ Below w.heap.size w wx)
    case first =>
      by_cases hc : e < -1073741824 ∨ 1073741824 < e
      · have d := decide_eq_true hc
        have HF : Hid (∃ ex, -1073741824 ≤ ex ∧ ex ≤ 1073741824 ∧ Bk (wc.setCell ⟨g, 3, none⟩ (.int .i64 q)) g 23 (numC 1 ng (str nu) ex (str [])) ∧ Below w.heap.size w (wc.setCell ⟨g, 3, none⟩ (.int .i64 q))) := ⟨q, by omega, by omega, Bk.set BF 3 _, Tn.below BQ ((Tn.refl g _).set 3 _) (by rw [HG.out]; exact Nat.le_refl _) (Nat.le_refl _)⟩
        generalize decide (e < -1073741824 ∨ 1073741824 < e) = D at *
        subst d
        clear hc
        go_wp2
        go_meet
        exact HF.out
      · have d := decide_eq_false hc
        have HF : Hid (∃ ex, -1073741824 ≤ ex ∧ ex ≤ 1073741824 ∧ Bk wc g 23 (numC 1 ng (str nu) ex (str [])) ∧ Below w.heap.size w wc) := ⟨e, by omega, by omega, BF, BQ⟩
        generalize decide (e < -1073741824 ∨ 1073741824 < e) = D at *
        subst d
        clear hc
        go_wp2
        go_meet
        exact HF.out
    clear BF BQ a3 af3
    obtain ⟨ex, x0, x1, BX, BW⟩ := hcut
    have c0 := BX.cell 0 (v := .int .i64 1) rfl
    have c1 := BX.cell 1 (v := .bool ng) rfl
    have c2 := BX.cell 2 (v := .string (str nu)) rfl
    have c3 := BX.cell 3 (v := .int .i64 ex) rfl
    have c4 := BX.cell 4 (v := .string (str [])) rfl
    have cf2 := BX.frozen 2
    by_cases hnu : nu = []
    · subst hnu
      have te : (str ([] : B)).toList.isEmpty = true := emp_of (s := str []) rfl
      have HR : Hid (refE 1 (str ([] : B)).data.toList ex (str ([] : B)).data.toList = 0) := zero_ref (by omega) (by omega)
      clear HPL
      have hB := bits11_any 1 ng (str []) ex (str []) (by omega) (by omega) (hG.later BW) (hT.later BW)
      unfold numC at hB
      go_wp2_with fail
      clear c0 c1 c2 c3 c4 cf2
      refine hB.mono ?_
      rintro r V1 ⟨b, E, rfl, hq, ub, hb⟩
      have HQ : Hid (BitsIs 1 ng (str []).data.toList ex (str []).data.toList b E) := hq
      clear hq hB
      have BX := BX.later hb
      have BW := BW.trans (hb.mono BW.size)
      clear hb
      have x0 := BX.cell 0 (v := .int .i64 1) rfl
      have x1 := BX.cell 1 (v := .bool ng) rfl
      have x2 := BX.cell 2 (v := .string (str [])) rfl
      have x3 := BX.cell 3 (v := .int .i64 (ex)) rfl
      have x4 := BX.cell 4 (v := .string (str [])) rfl
      have hS := slow11_any 1 ng (str []) ex (str []) (by omega) (by omega) (hG.later BW)
      unfold numC at hS
      go_wp2_with fail
      refine hS.mono ?_
      rintro r V2 ⟨b', E', rfl, hq, ub', hb⟩
      obtain ⟨rfl, rfl⟩ := bits_uniq hq HQ.out
      have HC : Hid (E' = 0 ∨ E' = 70) := (BitsIs.codes HQ.out HR.out).1
      clear hq hS x0 x1 x2 x3 x4 HQ
      have BX := BX.later hb
      have BW := BW.trans (hb.mono BW.size)
      clear hb
      have hA := alive11_any (hG.later BW) (hT.later BW)
      go_wp2_with fail
      refine hA.mono ?_
      rintro r V3 ⟨rfl, hb⟩
      clear hA
      have BX := BX.later hb
      have BW := BW.trans (hb.mono BW.size)
      clear hb
      have x0 := BX.cell 0 (v := .int .i64 1) rfl
      have x1 := BX.cell 1 (v := .bool ng) rfl
      have x2 := BX.cell 2 (v := .string (str [])) rfl
      have x3 := BX.cell 3 (v := .int .i64 (ex)) rfl
      have x4 := BX.cell 4 (v := .string (str [])) rfl
      have hK := check_ok (ng := ng) HR.out (by omega) (by omega) V3
      unfold numC at hK
      go_wp2_with fail
      refine hK.mono ?_
      rintro r V4 ⟨rfl, hb⟩
      clear hK x0 x1 x2 x3 x4
      have BW := BW.trans (hb.mono BW.size)
      clear hb BX
      rcases HC.out with rfl | rfl
      · clear HC
        go_wp2
        go_ret
        exact ⟨rfl, BW⟩
      · clear HC
        go_wp2
        go_ret
        exact ⟨rfl, BW⟩
    · have te : (str nu).toList.isEmpty = false := emp_no (by rw [str_list]; exact hnu)
      have HNU : Hid (nu ≠ []) := hnu
      clear hnu
      obtain ⟨i_u8, hi_u8, hz0_u8, hz1_u8, hz2_u8⟩ := info_parts info9_u8
      have hI := fun w => into11b_any (n := zeros) (top := 600) (by omega) (by omega) w
      obtain ⟨p, hp, hp9⟩ : ∃ p : Nat, zeros % 600 = (p : Int) ∧ p < 600 := ⟨(zeros % 600).toNat, by omega, by omega⟩
      rw [hp] at hI
      have hI2 := fun w => into11b_any (n := last) (top := 10) (by omega) (by omega) w
      obtain ⟨dq, hdq, hd9⟩ : ∃ dq : Nat, last % 10 = (dq : Int) ∧ dq < 10 := ⟨(last % 10).toNat, by omega, by omega⟩
      rw [hdq] at hI2
      obtain ⟨d, hd, hdd⟩ : ∃ d : UInt8, (d.toNat : Int) = 48 + (dq : Int) ∧ isD d = true := by
        refine ⟨UInt8.ofNat (48 + dq), ?_, ?_⟩
        · rw [UInt8.toNat_ofNat']; omega
        · unfold isD; rw [UInt8.toNat_ofNat']; simp; omega
      have w8 : IntKind.u8.wrap (48 + (dq : Int)) = (d.toNat : Int) := by
        rw [hd]
        show (48 + (dq : Int)) % 256 = _
        omega
      have w9 : IntKind.i64.wrap (48 + (dq : Int)) = 48 + (dq : Int) := wrapI (by omega) (by omega)
      have w7 : IntKind.u8.wrap (IntKind.i64.wrap (48 + (dq : Int))) = (d.toNat : Int) := by rw [w9, w8]
      have HR : Hid (refE 1 (nu ++ List.replicate p 48 ++ [d]) ex [] = 0) := pad_ref HPL.out HNU.out (by omega) (by omega) (by omega) hdd
      have hnl : nu.length ≤ 40 := HPL.out.1
      clear hp hdq hdd hd
      go_wp2_with fail
      refine (hI _).mono ?_
      rintro r wA ⟨rfl, hwA⟩
      rw [hwA]
      clear hI hwA
      go_wp2_with (at_make; refine wpList_make_full _ rfl _ _ 33 rfl wc.heap.size 5 i_u8 (.int .u8 0) 1 Tryz.underlying33 hi_u8 hz0_u8 hz1_u8 .i64 .i64 _ _ p rfl rfl (by omega) (by omega) (by rw [hz2_u8]; omega) (by unfold maxLen; omega) (Nat.le_refl _) ?_)
      intro w6 hmade hgr
      have hown := own_zeros hmade
      have hb6 : Below wc.heap.size wc w6 := (Below.refl _ _).grown hgr (Nat.le_refl _) (fun k hk => by cases hk)
      obtain ⟨g2, hg2⟩ : ∃ g2, g2 = wc.heap.size := ⟨_, rfl⟩
      rw [← hg2] at hown ⊢
      have HG2 : Hid (wc.heap.size = g2) := hg2.symm
      have hbz := BO.of_own hown (by simp)
      have hzf : ZF (List.replicate p (0 : Int)) p 0 := ⟨by simp, fun i hi => by omega⟩
      generalize List.replicate p (0 : Int) = zs0 at *
      clear hmade hgr hg2 hown c0 c1 c2 c3 c4 cf2
      go_wp2_with fail
      go_loopw [9] (fun i wz => ∃ (k : Nat) (zs : List Int), i = .int .i64 (k : Int) ∧ k ≤ p ∧ ZF zs p k ∧ BO wz g2 zs ∧ In g2 (g2 + 1) w6 wz) (fun i _ => p - (RowKit.intOf i).toNat)
      case atStart => exact ⟨0, zs0, rfl, by omega, hzf, hbz, In.refl _ _ _⟩
      case round =>
        obtain ⟨k, zs, rfl, hk, hzk, hoz, hin2⟩ := hrel
        by_cases hlt2 : k < p
        · have hzl := hzk.1
          have hce := hoz.2.1 k (by omega)
          have hfz := hoz.2.2 k (by omega)
          have hset := hoz.set (j := k) (by omega) 48
          have hzn := hzk.set hlt2
          have tlt : decide ((k : Int) < (p : Int)) = true := by simp; omega
          clear hoz hbz hzl
          go_wp2
          go_roundw
          case rel => exact ⟨k + 1, _, by go_num, by omega, hzn, hset, hin2.set1 _ _⟩
          case measure => simp [RowKit.intOf]; omega
        · have hkM : k = p := by omega
          rw [hkM] at hzk
          rw [hzk.all] at hoz
          have hb7 := below_inn hb6 hin2 (by have := HG2.out; omega) (Nat.le_refl _)
          have BX := BX.later hb7
          have BW := BW.trans (hb7.mono BW.size)
          subst hkM
          have tlt : decide ((k : Int) < (k : Int)) = false := by simp
          clear hin2 hb6 hzk hzf hbz hb7 hlt2 hk
          have hbr : ∀ x ∈ List.replicate k (48 : Int), 48 ≤ x ∧ x ≤ 122 := fun x hx => by have := List.eq_of_mem_replicate hx; omega
          have eb : (⟨(bytesOf (List.replicate k (48 : Int))).toArray⟩ : ByteArray) = str (List.replicate k 48) := by
            unfold str bytesOf
            rw [List.map_replicate]
            rfl
          have cz : ∀ W : World, BO W g2 (List.replicate k 48) → (convert 33 9 (.slice (some ⟨g2, 0, none⟩) k k)).run Tryz.prog W = .ok (.string (str (List.replicate k 48))) W := fun W h => by
            have := h.conv (N := k) (cap := k) (by simp) hbr
            rw [eb] at this
            exact this
          have z0 := cz wr hoz
          have z1 := cz wr.drew hoz
          have al : BO (wr.alloc (.cells #[.int .u8 (d.toNat : Int)] 5)) g2 (List.replicate k 48) := hoz.later ((Below.refl _ _).alloc (Nat.le_refl _) _)
          have z2 := cz (wr.alloc (.cells #[.int .u8 (d.toNat : Int)] 5)) al
          have z3 := cz (wr.alloc (.cells #[.int .u8 (d.toNat : Int)] 5)).drew al
          have cd : ∀ W : World, Bk W wr.heap.size 5 #[.int .u8 (d.toNat : Int)] → (convert 33 9 (.slice (some ⟨wr.heap.size, 0, none⟩) 1 1)).run Tryz.prog W = .ok (.string (str [d])) W := fun W hB => by
            have := run_convert_bytes_back (P := Tryz.prog) W 33 9 5 ⟨wr.heap.size, 0, none⟩ 1 [d] Tryz.underlying33 Tryz.underlying5 Tryz.underlying9 (fun j hj => by
              have : j = 0 := by simpa using hj
              subst this
              exact hB.cell 0 rfl)
            exact this
          have bn := Bk.new wr 5 #[.int .u8 (d.toNat : Int)]
          have u0 := cd (wr.alloc (.cells #[.int .u8 (d.toNat : Int)] 5)) bn
          have u1 := cd (wr.alloc (.cells #[.int .u8 (d.toNat : Int)] 5)).drew bn
          have c2 := BX.cell 2 (v := .string (str nu)) rfl
          have cf2 := BX.frozen 2
          have ad1 : str nu ++ str (List.replicate k 48) = str (nu ++ List.replicate k 48) := str_app _ _
          have ad2 : str (nu ++ List.replicate k 48) ++ str [d] = str (nu ++ List.replicate k 48 ++ [d]) := str_app _ _
          have z8 : (str nu).size = nu.length := str_size _
          have z9 : (str (List.replicate k (48 : UInt8))).size = k := by rw [str_size, List.length_replicate]
          have z7 : (str (nu ++ List.replicate k 48)).size = nu.length + k := by rw [str_size, List.length_append, List.length_replicate]
          have z6 : (str [d]).size = 1 := rfl
          have z5 : (str (nu ++ List.replicate k 48 ++ [d])).size = nu.length + k + 1 := by rw [str_size, List.length_append, List.length_append, List.length_replicate, List.length_singleton]
          have SL : Hid ((str (nu ++ List.replicate k 48 ++ [d])).data.toList = nu ++ List.replicate k 48 ++ [d]) := str_list _
          have hgl : g < wr.heap.size := BX.lt
          generalize str (nu ++ List.replicate k 48 ++ [d]) = S3 at *
          generalize str (nu ++ List.replicate k 48) = S2 at *
          generalize str (List.replicate k (48 : UInt8)) = S1 at *
          generalize str nu = S0 at *
          generalize str [d] = D1 at *
          have hs9 : (nu.length + k > 9223372036854775807) = False := eq_false (by omega)
          have hs8 : (nu.length + k + 1 > 9223372036854775807) = False := eq_false (by omega)
          have hs7 : (9223372036854775807 < nu.length + k) = False := eq_false (by omega)
          have hs6 : (9223372036854775807 < nu.length + k + 1) = False := eq_false (by omega)
          clear cz cd bn al hoz
          obtain ⟨W9, hW9⟩ : ∃ W9, W9 = ((wr.setCell ⟨g, 2, none⟩ (.string S3)).alloc (.cells #[.int .u8 (d.toNat : Int)] 5)).drew := ⟨_, rfl⟩
          have BX9 : Bk W9 g 23 (numC 1 ng S3 ex (str [])) := by
            rw [hW9]
            exact Bk.drew ((Bk.set BX 2 (.string S3)).later ((Below.refl _ _).alloc (Nat.le_refl _) _))
          have BW9 : Below w.heap.size w W9 := by
            rw [hW9]
            refine below_drewN ((Tn.below BW ((Tn.refl g _).set 2 _) (by rw [HG.out]; exact Nat.le_refl _) (Nat.le_refl _)).alloc ?_ _) 1
            have := BW.size
            simpa using this
          go_upto_region 13 with fail
          go_cut [9] (fun _ wx => wx = W9)
          case first =>
            go_region_with ((go_at_call 13; refine (hI2 _).mono ?_; rintro r wX ⟨rfl, hwX⟩; rw [hwX]))
            all_goals (go_wp2_with fail)
            all_goals go_meet
            all_goals exact hW9.symm
          obtain rfl := hcut
          clear hW9 BX BW c2 cf2 z0 z1 z2 z3 u0 u1 ad1 ad2
          have BX := BX9
          have BW := BW9
          clear BX9 BW9
          have c0 := BX.cell 0 (v := .int .i64 1) rfl
          have c1 := BX.cell 1 (v := .bool ng) rfl
          have c2 := BX.cell 2 (v := .string S3) rfl
          have c3 := BX.cell 3 (v := .int .i64 ex) rfl
          have c4 := BX.cell 4 (v := .string (str [])) rfl
          have HR : Hid (refE 1 S3.data.toList ex (str ([] : B)).data.toList = 0) := by
            show _ = _
            rw [SL.out]
            exact HR.out
          have sS : S3.size ≤ 700 := by omega
          have hB := bits11_any 1 ng (S3) ex (str []) (by omega) (by omega) (hG.later BW) (hT.later BW)
          unfold numC at hB
          go_wp2_with fail
          clear c0 c1 c2 c3 c4
          refine hB.mono ?_
          rintro r V1 ⟨b, E, rfl, hq, ub, hb⟩
          have HQ : Hid (BitsIs 1 ng (S3).data.toList ex (str []).data.toList b E) := hq
          clear hq hB
          have BX := BX.later hb
          have BW := BW.trans (hb.mono BW.size)
          clear hb
          have x0 := BX.cell 0 (v := .int .i64 1) rfl
          have x1 := BX.cell 1 (v := .bool ng) rfl
          have x2 := BX.cell 2 (v := .string (S3)) rfl
          have x3 := BX.cell 3 (v := .int .i64 (ex)) rfl
          have x4 := BX.cell 4 (v := .string (str [])) rfl
          have hS := slow11_any 1 ng (S3) ex (str []) (by omega) (by omega) (hG.later BW)
          unfold numC at hS
          go_wp2_with fail
          refine hS.mono ?_
          rintro r V2 ⟨b', E', rfl, hq, ub', hb⟩
          obtain ⟨rfl, rfl⟩ := bits_uniq hq HQ.out
          have HC : Hid (E' = 0 ∨ E' = 70) := (BitsIs.codes HQ.out HR.out).1
          clear hq hS x0 x1 x2 x3 x4 HQ
          have BX := BX.later hb
          have BW := BW.trans (hb.mono BW.size)
          clear hb
          have hA := alive11_any (hG.later BW) (hT.later BW)
          go_wp2_with fail
          refine hA.mono ?_
          rintro r V3 ⟨rfl, hb⟩
          clear hA
          have BX := BX.later hb
          have BW := BW.trans (hb.mono BW.size)
          clear hb
          have x0 := BX.cell 0 (v := .int .i64 1) rfl
          have x1 := BX.cell 1 (v := .bool ng) rfl
          have x2 := BX.cell 2 (v := .string (S3)) rfl
          have x3 := BX.cell 3 (v := .int .i64 (ex)) rfl
          have x4 := BX.cell 4 (v := .string (str [])) rfl
          have hK := check_ok (ng := ng) HR.out (by omega) (by omega) V3
          unfold numC at hK
          go_wp2_with fail
          refine hK.mono ?_
          rintro r V4 ⟨rfl, hb⟩
          clear hK x0 x1 x2 x3 x4
          have BW := BW.trans (hb.mono BW.size)
          clear hb BX
          rcases HC.out with rfl | rfl
          · clear HC
            go_wp2
            go_ret
            exact ⟨rfl, BW⟩
          · clear HC
            go_wp2
            go_ret
            exact ⟨rfl, BW⟩
  · have t1 : (k == 1) = false := beq_no hk
    have HR : Hid (refE k (str nu).data.toList e1 (str de).data.toList = 0) := by
      show _ = _
      rw [str_list, str_list]
      exact tame_ref htm hk
    clear hk htm
    have hB := bits11_any k ng (str nu) e1 (str de) (by omega) (by omega) (hG.later BW) (hT.later BW)
    unfold numC at hB
    go_wp2_with fail
    clear c0 c1 c2 c3 c4 cf3
    refine hB.mono ?_
    rintro r V1 ⟨b, E, rfl, hq, ub, hb⟩
    have HQ : Hid (BitsIs k ng (str nu).data.toList e1 (str de).data.toList b E) := hq
    clear hq hB
    have BX := BX.later hb
    have BW := BW.trans (hb.mono BW.size)
    clear hb
    have x0 := BX.cell 0 (v := .int .i64 k) rfl
    have x1 := BX.cell 1 (v := .bool ng) rfl
    have x2 := BX.cell 2 (v := .string (str nu)) rfl
    have x3 := BX.cell 3 (v := .int .i64 (e1)) rfl
    have x4 := BX.cell 4 (v := .string (str de)) rfl
    have hS := slow11_any k ng (str nu) e1 (str de) (by omega) (by omega) (hG.later BW)
    unfold numC at hS
    go_wp2_with fail
    refine hS.mono ?_
    rintro r V2 ⟨b', E', rfl, hq, ub', hb⟩
    obtain ⟨rfl, rfl⟩ := bits_uniq hq HQ.out
    have HC : Hid (E' = 0 ∨ E' = 70) := (BitsIs.codes HQ.out HR.out).1
    clear hq hS x0 x1 x2 x3 x4 HQ
    have BX := BX.later hb
    have BW := BW.trans (hb.mono BW.size)
    clear hb
    have hA := alive11_any (hG.later BW) (hT.later BW)
    go_wp2_with fail
    refine hA.mono ?_
    rintro r V3 ⟨rfl, hb⟩
    clear hA
    have BX := BX.later hb
    have BW := BW.trans (hb.mono BW.size)
    clear hb
    have x0 := BX.cell 0 (v := .int .i64 k) rfl
    have x1 := BX.cell 1 (v := .bool ng) rfl
    have x2 := BX.cell 2 (v := .string (str nu)) rfl
    have x3 := BX.cell 3 (v := .int .i64 (e1)) rfl
    have x4 := BX.cell 4 (v := .string (str de)) rfl
    have hK := check_ok (ng := ng) HR.out (by omega) (by omega) V3
    unfold numC at hK
    go_wp2_with fail
    refine hK.mono ?_
    rintro r V4 ⟨rfl, hb⟩
    clear hK x0 x1 x2 x3 x4
    have BW := BW.trans (hb.mono BW.size)
    clear hb BX
    rcases HC.out with rfl | rfl
    · clear HC
      go_wp2
      go_ret
      exact ⟨rfl, BW⟩
    · clear HC
      go_wp2
      go_ret
      exact ⟨rfl, BW⟩
end Go.Proofs.YtjeoiffloghonaaGreatDoor

/- AtofRoads. -/
namespace Go.Proofs.YtjeoiffloghonaaGreatDoor.atofRoads
open Go.ChangeShapes Go.WideShapes Go.ChangeAt Go.RowKit
open Go.ChangeMaps (open_string shut_string)
open Na Ar
set_option linter.unusedVariables false

theorem own : ownKnob Tryz.prog.godebug = none := by kernel_rfl
theorem laidOut : laidOutB Tryz.prog = true := by kernel_rfl
set_option maxRecDepth 100000
theorem laid_mem {P : Program} {w : World} {L : List (String × DataW Unit)} {ps : List MemPlace} {n : String} {d : DataW Unit} (h : DataW.LaidVars P w L ps) (hm : (n, d) ∈ L) :
    ∃ g t cs fuel p, P.globalNamed n = some g ∧ (P.globals[g]?).map (·.type) = some t ∧ w.var? P n = some cs ∧ DataW.trod (fun _ => ()) P w 0 (fun _ => true) false fuel t cs.toList = some (d, p) := by
  induction L generalizing ps with
  | nil => cases hm
  | cons x r ih =>
    obtain ⟨m, e⟩ := x
    obtain ⟨g, t, cs, fuel, p, q, e1, e2, e3, e4, e5, _⟩ := h
    rcases List.mem_cons.1 hm with hx | hx
    · injection hx with h1 h2
      subst h1 h2
      exact ⟨g, t, cs, fuel, p, e1, e2, e3, e4⟩
    · exact ih e5 hx
theorem tenG : Tryz.prog.globalNamed "plumb/lemire.tens" = some 0 := by kernel_rfl
theorem tenT : (Tryz.prog.globals[0]?).map (·.type) = some 167 := by kernel_rfl
theorem cells_u64 : Tryz.prog.cellsOf 25 = 1 := by kernel_rfl
theorem tens_data : (Rows.laid_plumb_lemire_tens : DataW Unit) = .agg (tenL.map fun (n : Nat) => .lit (.int .u64 (n : Int))) := rfl
theorem tenVar_of {W : World} (h : laidMetH Tryz.prog Rows.atofRoadsRow.laid W) : TenVar W := by
  obtain ⟨ps, hl, _, _⟩ := (laidMetH_iff.1 h).1
  obtain ⟨g, t, cs, fuel, p, e1, e2, e3, e4⟩ := laid_mem hl (n := "plumb/lemire.tens") (d := Rows.laid_plumb_lemire_tens) (List.mem_filter.2 ⟨by first | exact List.Mem.head _ | exact List.Mem.tail _ (List.Mem.head _) | exact List.Mem.tail _ (List.Mem.tail _ (List.Mem.head _)) | exact List.Mem.tail _ (List.Mem.tail _ (List.Mem.tail _ (List.Mem.head _))) | exact List.Mem.tail _ (List.Mem.tail _ (List.Mem.tail _ (List.Mem.tail _ (List.Mem.head _)))) | exact List.Mem.tail _ (List.Mem.tail _ (List.Mem.tail _ (List.Mem.tail _ (List.Mem.tail _ (List.Mem.head _))))), rfl⟩)
  obtain rfl := Option.some.inj (tenG.symm.trans e1)
  obtain rfl := Option.some.inj (tenT.symm.trans e2)
  obtain ⟨xs, m, _, hd, hlen, hx, hi⟩ := DataW.trod_array Tryz.underlying167 e4
  rw [tens_data] at hd
  have hd1 := (Prod.mk.injEq .. ▸ hd : _ ∧ _).1
  injection hd1 with hd2
  intro k hk
  have hik := hi k hk
  rw [cells_u64, Nat.mul_one, List.getElem?_eq_getElem (by omega)] at hik
  obtain ⟨v, hc, hv, _⟩ := DataW.trod_int Tryz.underlying25 hik
  have hm : (xs.map (·.1))[k]? = some (.lit (.int .u64 (tenP k))) := by
    rw [← hd2, List.getElem?_map]
    have : tenL[k]? = some (tenL.getD k 0) := by rw [List.getD_eq_getElem?_getD, List.getElem?_eq_getElem (by show k < 23; exact hk)]; rfl
    rw [this]
    rfl
  rw [List.getElem?_map, List.getElem?_eq_getElem (by omega)] at hm
  have hm2 := Option.some.inj hm
  rw [hv] at hm2
  injection hm2 with hm3
  injection hm3 with _ hm4
  rw [World.var?_cell tenG e3 k, ← hm4]
  have hg : (cs.toList.drop k)[0]? = some (.int .u64 v) := by
    have : ((cs.toList.drop k).take 1)[0]? = some (.int .u64 v) := by rw [hc]; rfl
    rwa [List.getElem?_take_of_lt (by omega)] at this
  rw [List.getElem?_drop, Nat.add_zero] at hg
  rw [← Array.getElem?_toList]
  exact hg
theorem cells_bool : Tryz.prog.cellsOf 4 = 1 := by kernel_rfl
theorem gv : Tryz.prog.globalNamed "plumb/near.stayAtGreatest" = some 2 := by kernel_rfl
theorem gvt : (Tryz.prog.globals[2]?).map (·.type) = some 241 := by kernel_rfl
theorem cells_tab : Tryz.prog.cellsOf 241 = 10 := by kernel_rfl
theorem cells_tabs : Tryz.prog.cellsOf 240 = 2 := by kernel_rfl
theorem open_tabs {w : World} {base fuel : Nat} {spare : Nat → Bool} {held : Bool} {x y : Value} {s t : Bool} {p : List MemPlace} (hf : DataW.trod (H := Unit) (fun _ => ()) Tryz.prog w base spare held fuel 240 [x, y] = some (.agg [.lit (.bool s), .lit (.bool t)], p)) : x = .bool s ∧ y = .bool t := by
  obtain ⟨xs, m, _, hd, hl, hx, hi⟩ := DataW.trod_struct Tryz.underlying240 hf
  have i0 := hi 0 _ rfl
  have i1 := hi 1 _ rfl
  match xs, hx with
  | [x0, x1], _ =>
    simp [cells_bool] at i0 i1
    obtain ⟨b0, e0, f0⟩ := DataW.trod_bool Tryz.underlying4 i0
    obtain ⟨b1, e1, f1⟩ := DataW.trod_bool Tryz.underlying4 i1
    simp at e0 e1
    subst e0 e1 f0 f1
    simp at hd
    exact ⟨by rw [hd.1.1], by rw [hd.1.2]⟩
theorem grVar_of {W : World} (h : laidMetH Tryz.prog Rows.atofRoadsRow.laid W) : GrVar W := by
  obtain ⟨ps, hl, _, _⟩ := (laidMetH_iff.1 h).1
  obtain ⟨g, t, cs, fuel, p, e1, e2, e3, e4⟩ := laid_mem hl (n := "plumb/near.stayAtGreatest") (d := Rows.laid_plumb_near_stayAtGreatest) (List.mem_filter.2 ⟨by first | exact List.Mem.head _ | exact List.Mem.tail _ (List.Mem.head _) | exact List.Mem.tail _ (List.Mem.tail _ (List.Mem.head _)) | exact List.Mem.tail _ (List.Mem.tail _ (List.Mem.tail _ (List.Mem.head _))) | exact List.Mem.tail _ (List.Mem.tail _ (List.Mem.tail _ (List.Mem.tail _ (List.Mem.head _)))) | exact List.Mem.tail _ (List.Mem.tail _ (List.Mem.tail _ (List.Mem.tail _ (List.Mem.tail _ (List.Mem.head _))))), rfl⟩)
  obtain rfl := Option.some.inj (gv.symm.trans e1)
  obtain rfl := Option.some.inj (gvt.symm.trans e2)
  obtain ⟨xs, m, _, hd, hlen, hx, hi⟩ := DataW.trod_array Tryz.underlying241 e4
  rw [cells_tab] at hlen
  obtain ⟨c0, c1, c2, c3, c4, c5, c6, c7, c8, c9, rfl⟩ : ∃ c0 c1 c2 c3 c4 c5 c6 c7 c8 c9, cs = #[c0, c1, c2, c3, c4, c5, c6, c7, c8, c9] := by
    match cs, hlen with
    | ⟨[c0, c1, c2, c3, c4, c5, c6, c7, c8, c9]⟩, _ => exact ⟨c0, c1, c2, c3, c4, c5, c6, c7, c8, c9, rfl⟩
  have i0 := hi 0 (by omega)
  have i1 := hi 1 (by omega)
  have i2 := hi 2 (by omega)
  have i3 := hi 3 (by omega)
  have i4 := hi 4 (by omega)
  match xs, hx with
  | [(d0, p0), (d1, p1), (d2, p2), (d3, p3), (d4, p4)], _ =>
    simp only [Rows.laid_plumb_near_stayAtGreatest, List.map, Prod.mk.injEq, DataW.agg.injEq, List.cons.injEq] at hd
    obtain ⟨⟨rfl, rfl, rfl, rfl, rfl, _⟩, _⟩ := hd
    simp only [cells_tabs] at i0 i1 i2 i3 i4
    obtain ⟨rfl, rfl⟩ := open_tabs (i0 : _ = some _)
    obtain ⟨rfl, rfl⟩ := open_tabs (i1 : _ = some _)
    obtain ⟨rfl, rfl⟩ := open_tabs (i2 : _ = some _)
    obtain ⟨rfl, rfl⟩ := open_tabs (i3 : _ = some _)
    obtain ⟨rfl, rfl⟩ := open_tabs (i4 : _ = some _)
    have hc := World.var?_cell gv e3
    exact ⟨⟨hc 0, hc 1⟩, ⟨hc 2, hc 3⟩, ⟨hc 4, hc 5⟩, ⟨hc 6, hc 7⟩, hc 8, hc 9⟩
noncomputable def laidBase (os : Os) : World := World.holding Tryz.prog os ⟨#[], #[], []⟩
def plainLaid : List (String × DataW Unit) := Rows.atofRoadsRow.laid.filter fun x => x.2.handleName?.isNone
noncomputable def laidW (os : Os) : World := (laidBase os).layVars Tryz.prog plainLaid
theorem laidW_os (os : Os) : (laidW os).os = os := World.layVars_os _ _ _
theorem laidW_met (os : Os) (args : Array Value) : laidMetH Tryz.prog Rows.atofRoadsRow.laid ((laidW os).forCall (fun _ _ => 0) ⟨#[], args, []⟩).memory := by
  refine laidMetH_of_parts ?_ (by kernel_rfl)
  have e1 : (plainLaid.filter fun x => (plainLaid.map (·.1)).contains x.1) = plainLaid := List.filter_eq_self.2 fun x hx => List.contains_iff_mem.2 (List.mem_map.2 ⟨x, hx, rfl⟩)
  have e2 : (plainLaid.filter fun x => !(plainLaid.map (·.1)).contains x.1) = [] := List.filter_eq_nil_iff.2 fun x hx => by rw [List.contains_iff_mem.2 (List.mem_map.2 ⟨x, hx, rfl⟩)]; simp
  have h : laidMet Tryz.prog plainLaid (laidW os) := laidMet_layVars (w0 := laidBase os) (plainLaid.map (·.1)) [] (by rw [e1]; rfl) (by rw [e1]; kernel_rfl) (by rw [e1]; kernel_rfl) (by rw [e2]; exact LaidIn.none)
  exact h.of_heap (by simp [World.memory, World.forCall, Input.heap])
theorem reads (os : Os) {H : Type} (enc : TypeId × Value → H) : ∃ places, DataW.whole enc Tryz.prog ((laidW os).forCall (fun _ _ => 0) ⟨#[], #[.agg #[.int .i64 0, .bool false, .string ByteArray.empty, .int .i64 0, .string ByteArray.empty], .int .i64 0, .int .i64 0], []⟩).memory Tryz.f5.params.toList Rows.atofRoadsSpec.vars false (#[.agg #[.int .i64 0, .bool false, .string ByteArray.empty, .int .i64 0, .string ByteArray.empty], .int .i64 0, .int .i64 0] : Array Value).toList 8 = some ([.agg [.lit (.int .i64 0), .lit (.bool false), .lit (.string []), .lit (.int .i64 0), .lit (.string [])], .lit (.int .i64 0), .lit (.int .i64 0)], [], places) :=
  ⟨[], by kernel_rfl⟩
theorem lifted (os : Os) (started : os.Started) (H : Type) (enc : TypeId × Value → H) (F : Stop.Interp) :
    ReturnsInHanded {} Tryz.checked os 5 .any ((OpenSpec.ofChange Rows.atofRoadsSpec).preRow enc Tryz.prog Tryz.f5 Rows.atofRoadsRow.domain false Rows.atofRoadsRow.laid) (((OpenSpec.ofChange Rows.atofRoadsSpec).at F).post enc Tryz.prog Tryz.f5 false true false false) := by
  obtain ⟨places, hx⟩ := reads os enc
  refine returnsInHanded_of_row (C := Tryz.checked) (s := (OpenSpec.ofChange Rows.atofRoadsSpec)) own started (by kernel_rfl) Tryz.func5
    (witness_row_atRef (enc := enc) (C := Tryz.checked) false (laidW os) #[.agg #[.int .i64 0, .bool false, .string ByteArray.empty, .int .i64 0, .string ByteArray.empty], .int .i64 0, .int .i64 0] (laidW_os os) (by kernel_rfl) (by kernel_rfl) (by kernel_rfl)
      (OpenSpec.preRow_of_cond 8 hx (by kernel_rfl) (fun k hk => by cases hk) (by kernel_rfl) (laidW_met os _))) ?_
  intro W base args ds gs before hval0 hW _ hcond _ hL _ _
  have hval : ∀ (j : Nat) t v, Tryz.f5.params[j]? = some t → args[j]? = some v → Value.okWide Tryz.prog W .any base t v := hval0
  have hW' := hW
  obtain ⟨p, q, hA0, hV, rfl, hfz, hnd⟩ := hW
  have hA : DataW.TrodAll enc Tryz.prog W 0 (fun _ => true) true Tryz.f5.params.toList args.toList ds p := hA0
  rw [Tryz.params5] at hA hval
  obtain ⟨v0, vs0, d0, ds0, p0, q0, hargs, rfl, rfl, h0, r0⟩ := trodAll_cons hA
  obtain ⟨v1, vs1, d1, ds1, p1, q1, rfl, rfl, rfl, h1, r1⟩ := trodAll_cons r0
  obtain ⟨v2, vs2, d2, ds2, p2, q2, rfl, rfl, rfl, h2, r2⟩ := trodAll_cons r1
  obtain ⟨rfl, rfl, rfl⟩ := trodAll_nil r2
  obtain rfl : args = #[v0, v1, v2] := by cases args; simp_all
  obtain ⟨rfl, rfl⟩ := trodVars_none hV
  have k0 := h0
  have lt0 : ∀ x ∈ p0, x.block < W.heap.size := by obtain ⟨m, hm⟩ := k0; exact DataW.trod_lt m _ _ _ hm
  obtain ⟨kd0, ng0, nu0, e0, de0, rfl, ka0, kb0, ea0, eb0, ha0, hb0⟩ := open_numeral (hval 0 23 v0 rfl rfl) h0
  have k1 := h1
  have lt1 : ∀ x ∈ p1, x.block < W.heap.size := by obtain ⟨m, hm⟩ := k1; exact DataW.trod_lt m _ _ _ hm
  obtain ⟨x1, rfl, g1⟩ : ∃ x : Int, v1 = .int .i64 x ∧ (Lit.int .i64 x).wf = true := by
    obtain ⟨fuel, hf⟩ := h1
    obtain ⟨x, hc, _, hw⟩ := DataW.trod_int Tryz.underlying3 hf
    obtain ⟨y, rfl⟩ := okWide_int Tryz.underlying3 (hval 1 3 v1 rfl rfl)
    simp [Value.cells] at hc
    subst hc
    exact ⟨_, rfl, hw⟩
  simp only [Lit.wf, Bool.and_eq_true, decide_eq_true_eq] at g1
  have G1 : -9223372036854775808 ≤ x1 ∧ x1 ≤ 9223372036854775807 := by have h1 : IntKind.i64.min = -9223372036854775808 := rfl; have h2 : IntKind.i64.max = 9223372036854775807 := rfl; omega
  have k2 := h2
  have lt2 : ∀ x ∈ p2, x.block < W.heap.size := by obtain ⟨m, hm⟩ := k2; exact DataW.trod_lt m _ _ _ hm
  obtain ⟨x2, rfl, g2⟩ : ∃ x : Int, v2 = .int .i64 x ∧ (Lit.int .i64 x).wf = true := by
    obtain ⟨fuel, hf⟩ := h2
    obtain ⟨x, hc, _, hw⟩ := DataW.trod_int Tryz.underlying3 hf
    obtain ⟨y, rfl⟩ := okWide_int Tryz.underlying3 (hval 2 3 v2 rfl rfl)
    simp [Value.cells] at hc
    subst hc
    exact ⟨_, rfl, hw⟩
  simp only [Lit.wf, Bool.and_eq_true, decide_eq_true_eq] at g2
  have G2 : -9223372036854775808 ≤ x2 ∧ x2 ≤ 9223372036854775807 := by have h1 : IntKind.i64.min = -9223372036854775808 := rfl; have h2 : IntKind.i64.max = 9223372036854775807 := rfl; omega
  clear hA0 hval0
  simp only [List.append_nil] at hW'
  refine (roads_walk (ng0 := ng0) ka0 kb0 ea0 eb0 ha0 hb0 G1.1 G1.2 G2.1 G2.2 (tenVar_of hL) (grVar_of hL)).mono fun e W' ⟨he, bel⟩ => ?_
  subst he
  exact ⟨_, rfl, _, _, _, [], _, [], hW', trodAll_mk1 (shut_bool Tryz.underlying4 _), (trodAll_cons_mk (Below.trod laidOut (by kernel_rfl) (of_decide_eq_true (by kernel_rfl)) k0 bel lt0) (trodAll_cons_mk (Below.trod laidOut (by kernel_rfl) (of_decide_eq_true (by kernel_rfl)) k1 bel lt1) (trodAll_cons_mk (Below.trod laidOut (by kernel_rfl) (of_decide_eq_true (by kernel_rfl)) k2 bel lt2) trodAll_mk0))), rfl, bel.frame _, fun h => by cases h⟩
theorem over : Rows.atofRoadsRow.holds Tryz.pinned (OpenSpec.ofChange Rows.atofRoadsSpec) :=
  OpenClaim.holds_of_cond 5 Tryz.f5 rfl rfl rfl rfl rfl rfl rfl ⟨rfl, rfl, rfl, rfl, rfl⟩ rfl rfl rfl rfl rfl (by kernel_rfl) Tryz.func5 (by kernel_rfl)
    (of_decide_eq_true (by kernel_rfl)) (by unfold Func.isWrapper; first | (rw [if_pos (by decide +kernel)]; kernel_rfl) | (rw [if_neg (by decide +kernel)]; exact ⟨rfl, rfl⟩))
    (fun os started H enc _ F => by rw [OpenClaim.pre_eq_preRow]; exact lifted os started H enc F)
theorem plain (f : FuncId) (fn : Func) (hf : Tryz.pinned.checked.prog.funcNamed "plumb/plumblaw11.AtofRoads" = some f) (hfn : Tryz.pinned.checked.prog.funcs[f]? = some fn) :
    true = Tryz.pinned.checked.prog.looks [] ∧ ∀ (j : Nat) t, fn.params[j]? = some t → Tryz.pinned.checked.prog.wantsStandIn t = false := by
  obtain rfl : f = 5 := Option.some.inj ((show Tryz.prog.funcNamed "plumb/plumblaw11.AtofRoads" = some 5 by kernel_rfl).symm.trans hf) |>.symm
  obtain rfl : fn = Tryz.f5 := (Option.some.inj (Tryz.func5.symm.trans hfn)).symm
  refine ⟨by kernel_rfl, fun j t ht => ?_⟩
  rw [Tryz.params5] at ht
  have hall : ∀ t ∈ (Tryz.f5.params).toList, Tryz.prog.wantsStandIn t = false := by
    rw [Tryz.params5]
    intro t ht
    simp only [List.mem_cons, List.mem_nil_iff, or_false] at ht
    rcases ht with rfl | rfl | rfl <;> kernel_rfl
  exact hall t (by rw [Tryz.params5]; exact Array.mem_toList_iff.mpr (Array.mem_of_getElem? ht))
/-- the statement -/
theorem proved : Rows.AtofRoadsCardSaid :=
  Claim7.holds_tied_plain_at .later [] _ _ _ _ over (fun _ h => by cases h) (by kernel_rfl) (fun _ h => by cases h) atofRoads_row_tie rfl ⟨rfl, rfl⟩ (by kernel_rfl) rfl plain (by kernel_rfl)
#print axioms proved
end Go.Proofs.YtjeoiffloghonaaGreatDoor.atofRoads

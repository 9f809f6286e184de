/- package atof: number, decimal. -/
import Derived.Test.YtjeoiffloghonaaGreatDoorAtfEx
import Derived.Test.YtjeoiffloghonaaGreatDoorBaseE
import Derived.Test.YtjeoiffloghonaaGreatDoorLexCk
import Derived.Test.YtjeoiffloghonaaGreatDoorNearC
import Derived.Test.YtjeoiffloghonaaGreatDoorNearD
namespace Go.Proofs.YtjeoiffloghonaaGreatDoor
open Go.ChangeShapes Go.WideShapes Go.ChangeAt Go.RowKit
open Na Ar Lx
set_option linter.unusedVariables false
namespace Lx
/-- the number that digits say, in a base -/
def nv (b : Int) (l : B) : Int := numB (str l) b l.length
theorem nv_of (b : Int) (s : ByteArray) : numB s b s.size = nv b s.data.toList := by unfold nv; rw [str_of, ← Lib.size_eq]
theorem str_app (l m : B) : str l ++ str m = str (l ++ m) := by
  rw [← str_of (str l ++ str m)]
  congr 1
theorem nv_app (b : Int) (l m : B) : nv b (l ++ m) = nv b l * b ^ m.length + nv b m := by
  have h := app_num (str l) (str m) b
  rw [str_app, nv_of, nv_of, nv_of, str_list, str_list, str_list, str_size] at h
  exact h
theorem dgt_str (l : B) {i : Nat} (h : i < l.length) : dgt (str l) i = valN ((l[i]'h).toNat : Int) := by
  unfold dgt
  rw [byte_list, str_list, List.getD_eq_getElem?_getD, List.getElem?_eq_getElem h]
  rfl
theorem nv_one (b : Int) (c : UInt8) : nv b [c] = valN (c.toNat : Int) := by
  have : nv b [c] = 0 * b + dgt (str [c]) 0 := rfl
  rw [this, dgt_str [c] (by simp)]
  simp
/-- all are digits of the base -/
def okB (b : Int) (l : B) : Prop := ∀ c ∈ l, valN (c.toNat : Int) < b
theorem okB.dgt {b : Int} {l : B} (h : okB b l) : ∀ i, i < l.length → dgt (str l) i < b := fun i hi => by
  rw [dgt_str l hi]; exact h _ (List.getElem_mem hi)
theorem nv_nonneg {b : Int} (hb : 0 ≤ b) (l : B) : 0 ≤ nv b l := numB_nonneg hb _
theorem nv_lt {b : Int} {l : B} (hb : 2 ≤ b) (h : okB b l) : nv b l < b ^ l.length := numB_lt hb h.dgt
theorem nv_ge {b : Int} {c : UInt8} {r : B} (hb : 2 ≤ b) (h : c ≠ 48) : b ^ r.length ≤ nv b (c :: r) := by
  refine numB_ge hb ?_ r.length
  refine dgt_pos ?_
  rw [byte_list, str_list]
  simpa using h
theorem nv_dv {l : B} (h : ∀ c ∈ l, isD c = true) : nv 10 l = dv l := by
  induction l with
  | nil => rfl
  | cons c r ih =>
    have e1 := nv_app 10 [c] r
    have e2 := dv_append [c] r
    rw [List.singleton_append] at e1 e2
    rw [e1, e2, ih (fun d hd => h d (List.mem_cons_of_mem _ hd)), nv_one]
    obtain ⟨b0, b1⟩ := isD_bd (h c (List.mem_cons_self ..))
    have : valN (c.toNat : Int) = dv [c] := by
      unfold valN dv
      rw [if_pos (by omega)]
      simp
    rw [this]
theorem okB_ten {l : B} (h : ∀ c ∈ l, isD c = true) : okB 10 l := fun c hc => by
  obtain ⟨b0, b1⟩ := isD_bd (h c hc)
  unfold valN
  rw [if_pos (by omega)]; omega
theorem pow_16 (n : Nat) : (16 : Int) ^ n = 2 ^ (4 * n) := by rw [Int.pow_mul]; rfl
theorem nv_words {b : Int} {l : B} (hb : b = 10 ∨ b = 16) (h : okB b l) (hl : l.length ≤ 65536) : (words (nv b l)).length ≤ 4096 := by
  have h1 := nv_lt (by omega) h
  have h2 : b ^ l.length ≤ (16 : Int) ^ l.length := by
    rcases hb with rfl | rfl
    · generalize l.length = n
      induction n with
      | zero => simp
      | succ n ih =>
        rw [Int.pow_succ, Int.pow_succ]
        exact Int.mul_le_mul ih (by omega) (by omega) (Int.pow_nonneg (by omega))
    · exact Int.le_refl _
  rw [pow_16] at h2
  exact bits_words (nv_nonneg (by omega) l) (Int.lt_of_lt_of_le h1 h2) (by omega)
end Lx
theorem nm_words {T : Int} (h0 : 0 ≤ T) (h : (words T).length ≤ 4000000) : Nm (words T) T := ⟨Dg_words T, num_words h0, h⟩
set_option maxHeartbeats 1600000 in
theorem number11_any (s : ByteArray) {b : Int} (hb : b = 10 ∨ b = 16) (h0 : 0 < s.size) (hs : s.size ≤ 65536) (hd : okB b s.data.toList) (w : World) :
    Calls Tryz.prog 84 #[.string s, .int .i64 b] w fun r w' => ∃ a n c l, r = .returned (.slice a n c) ∧ RowC w' a n c l ∧ Nm l (nv b s.data.toList) ∧ l.length ≤ 4096 ∧ Below w.heap.size w w' := by
  have hw := nv_words hb hd (by rw [← Lib.size_eq]; exact hs)
  have hp := fun w => parse_good s b (by omega) (by omega) (by omega) h0 (fun i hi => by
    have := hd.dgt i (by rw [← Lib.size_eq]; exact hi)
    rw [str_of] at this; exact this) w
  rw [nv_of] at hp
  have nn := nv_nonneg (b := b) (by omega) s.data.toList
  generalize nv b s.data.toList = T at *
  clear hd
  go_enter Tryz.func84, Tryz.ntmps84
  go_wp2_with fail
  refine (hp _).mono ?_
  rintro e w' (⟨_, v, rfl, ho, hb'⟩ | ⟨hc, _⟩)
  · obtain ⟨a, c, rfl, hr⟩ := ho.readsC
    have HM : Hid (Nm (words T) T) := nm_words nn (by omega)
    generalize words T = l at *
    clear ho hp
    go_wp2
    go_ret
    exact ⟨_, _, _, l, rfl, hr, HM, hw, hb'⟩
  · omega
set_option maxHeartbeats 3200000 in
set_option maxRecDepth 100000 in
theorem decimal11_any (s : ByteArray) {e : Int} (h0 : 0 < s.size) (hs : s.size ≤ 65536) (hd : okB 10 s.data.toList) (hz : pTen (s.size - 1) ≤ nv 10 s.data.toList) (e0 : -2000000000 ≤ e) (e1 : e ≤ 2000000000) {w : World} (hG : GrVar w) :
    Calls Tryz.prog 86 #[.string s, .int .i64 e] w fun r w' => ∃ b E, r = .returned (.tuple #[.int .u64 b, .int .i64 E]) ∧ ExIs (nv 10 s.data.toList) e b E ∧ U b ∧ Below w.heap.size w w' := by
  have hN := fun w => number11_any s (b := 10) (Or.inl rfl) h0 hs hd w
  have hlt : nv 10 s.data.toList < pTen s.size := by
    have := nv_lt (b := 10) (by omega) hd
    rw [← Lib.size_eq] at this; exact this
  have hpos : 0 < nv 10 s.data.toList := by have := pTen_pos (s.size - 1); omega
  generalize nv 10 s.data.toList = T at *
  clear hd
  have hwr : IntKind.i64.wrap ((s.size : Int) + e) = (s.size : Int) + e := wrapI (by omega) (by omega)
  by_cases c1 : (s.size : Int) + e ≤ -324
  · have d1 : decide ((s.size : Int) + e ≤ -324) = true := by simp; omega
    have HQ : Hid (ExIs T e 0 0) := ex_tiny hpos hlt c1
    clear hN hz hlt
    go_enter Tryz.func86, Tryz.ntmps86
    go_wp2
    go_ret2
    exact ⟨_, _, rfl, HQ.out, U_zero, Below.refl _ _⟩
  · have d1 : decide ((s.size : Int) + e ≤ -324) = false := by simp; omega
    by_cases c2 : 309 < (s.size : Int) + e
    · have d2 : decide ((s.size : Int) + e > 309) = true := by simp; omega
      have d2' : decide (309 < (s.size : Int) + e) = true := by simp; omega
      have HQ : Hid (ExIs T e 0 70) := ex_huge hz (by omega)
      clear hN hz hlt
      go_enter Tryz.func86, Tryz.ntmps86
      go_wp2
      go_ret2
      exact ⟨_, _, rfl, HQ.out, U_zero, Below.refl _ _⟩
    · have d2 : decide ((s.size : Int) + e > 309) = false := by simp; omega
      have d2' : decide (309 < (s.size : Int) + e) = false := by simp; omega
      by_cases c3 : e < 0
      · have d3 : decide (e < 0) = true := by simp; omega
        obtain ⟨k, hk⟩ : ∃ k : Nat, -e = (k : Int) := ⟨(-e).toNat, by omega⟩
        have ek : e = -(k : Int) := by omega
        have hT := fun w => ten_any (k : Int) (by omega) (by omega) w
        have p1 : pwE 78913 (k : Int) = 0 := by unfold pwE; rw [if_neg (by omega), if_neg (by omega)]
        have p2 : pwL 10 78913 (k : Int) = words (10 ^ k) := by unfold pwL; rw [if_neg (by omega), if_neg (by omega), Int.toNat_natCast]
        rw [p1, p2] at hT
        have hL := ten_lt (n := k) (by omega)
        have HX : Hid (∀ b E, RoundIs (scA T 0) (scB (10 ^ k) 0) false false 0 b E → ExIs T e b E) := fun b E h => by
          rw [ek, ex_neg (by omega), ← scA_flat, ← scB_flat (pTen k)]; exact h
        have hDp : (0 : Int) < 10 ^ k := Int.pow_pos (by omega)
        generalize (10 : Int) ^ k = D at *
        clear hlt hz p1 p2 ek
        have hq : ∀ (w1 : World) (a b : Option Addr) (n c m d : Nat) (xs ys : List Int), RowC w1 a n c xs → RowC w1 b m d ys → Nm xs T → Nm ys D → xs.length ≤ 4096 → ys.length ≤ 4096 → GrVar w1 → Calls Tryz.prog 85 #[.bool false, .slice a n c, .slice b m d, .int .i64 0] w1 fun e w' => ∃ v E, e = .returned (.tuple #[.int .u64 v, .int .i64 E]) ∧ RoundIs (scA T 0) (scB D 0) false false 0 v E ∧ U v ∧ Below w1.heap.size w1 w' := fun w1 a b n c m d xs ys r1 r2 m1 m2 l1 l2 g => by
          have := quotient_any (mode := 0) (neg := false) r1 r2 m1.ws m2.ws (by have := r1.1.1; omega) (by have := r2.1.1; omega) (by omega) (by omega) (by rw [m2.num]; exact hDp) g
          rw [m1.num, m2.num] at this
          exact this
        go_enter Tryz.func86, Tryz.ntmps86
        go_wp2_with fail
        refine (hT _).mono ?_
        rintro r w1 ⟨v, rfl, ho, hb1⟩
        obtain ⟨a1, n1, c1', l1, rfl, r1, m1, hl1⟩ := ho.opens hL (by omega)
        have k1 : l1.length ≤ 4096 := by rw [hl1.out]; exact hL.len
        clear hT ho hl1
        go_wp2_with fail
        refine (hN _).mono ?_
        rintro r w2 ⟨a2, n2, c2', l2, rfl, r2, m2, k2, hb2⟩
        clear hN
        go_wp2_with fail
        refine (hq _ _ _ _ _ _ _ _ _ r2 (r1.later hb2) m2 m1 k2 k1 ((hG.later hb1).later hb2)).mono ?_
        rintro r w3 ⟨b, E, rfl, hr, ub, hb3⟩
        have HQ : Hid (ExIs T e b E) := HX.out _ _ hr
        have B := (hb1.trans (hb2.mono hb1.size)).trans (hb3.mono (hb1.trans (hb2.mono hb1.size)).size)
        clear hr HX hq
        go_wp2
        go_ret2
        exact ⟨_, _, rfl, HQ.out, ub, B⟩
      · have d3 : decide (e < 0) = false := by simp; omega
        obtain ⟨k, rfl⟩ : ∃ k : Nat, e = (k : Int) := ⟨e.toNat, by omega⟩
        have hF := fun w => five_any (k : Int) (by omega) (by omega) w
        have p1 : pwE 112899 (k : Int) = 0 := by unfold pwE; rw [if_neg (by omega), if_neg (by omega)]
        have p2 : pwL 5 112899 (k : Int) = words (5 ^ k) := by unfold pwL; rw [if_neg (by omega), if_neg (by omega), Int.toNat_natCast]
        rw [p1, p2] at hF
        have hL := five_lt (n := k) (by omega)
        have HX : Hid (∀ b E, RoundIs (scA (T * 5 ^ k) (k : Int)) (scB 1 (k : Int)) false false 0 b E → ExIs T (k : Int) b E) := fun b E h => ex_five h
        have hLt : Lt (T * 5 ^ k) 4096 := by
          refine ⟨Int.mul_nonneg (by omega) (Int.le_of_lt (Int.pow_pos (by omega))), ?_⟩
          have t2 := (ten_lt (n := s.size + k) (by omega)).2
          have q1 : T * 5 ^ k ≤ pTen s.size * pFive k := Int.mul_le_mul_of_nonneg_right (Int.le_of_lt hlt) (Int.le_of_lt (pFive_pos k))
          have q2 : pTen s.size * pFive k ≤ pTen (s.size + k) := by
            rw [pTen_add]
            refine Int.mul_le_mul_of_nonneg_left ?_ (Int.le_of_lt (pTen_pos _))
            rw [pTen_split]
            have a := pFive_pos k
            have b := pTwo_pos k
            have := Int.mul_le_mul_of_nonneg_left (show (1 : Int) ≤ pTwo k by omega) (Int.le_of_lt a)
            omega
          have q3 : pTen (s.size + k) = 10 ^ (s.size + k) := rfl
          rw [q3] at q2
          exact Int.lt_of_le_of_lt (Int.le_trans q1 q2) t2
        generalize (5 : Int) ^ k = D at *
        clear hlt hz p1 p2
        have hm : ∀ (w1 : World) (a b : Option Addr) (n c m d : Nat) (xs ys : List Int), RowC w1 a n c xs → RowC w1 b m d ys → Nm xs T → Nm ys D → Calls Tryz.prog 114 #[.slice a n c, .slice b m d] w1 fun e w' => ∃ a' n' c' l', e = .returned (.tuple #[.slice a' n' c', .int .i64 0]) ∧ RowC w' a' n' c' l' ∧ Nm l' (T * D) ∧ Below w1.heap.size w1 w' := fun w1 a b n c m d xs ys r1 r2 m1 m2 => by
          refine (mulQ r1 r2 m1 m2 hLt (by omega)).mono ?_
          rintro e w' ⟨a', n', c', l', q, r, m, _, hb⟩
          exact ⟨a', n', c', l', q, r, m, hb⟩
        have hsc : ∀ (w1 : World) (a : Option Addr) (n c : Nat) (xs : List Int), RowC w1 a n c xs → Nm xs (T * D) → GrVar w1 → Calls Tryz.prog 83 #[.bool false, .slice a n c, .int .i64 (k : Int), .bool false, .int .i64 0] w1 fun e w' => ∃ v E, e = .returned (.tuple #[.int .u64 v, .int .i64 E]) ∧ RoundIs (scA (T * D) (k : Int)) (scB 1 (k : Int)) false false 0 v E ∧ U v ∧ Below w1.heap.size w1 w' := fun w1 a n c xs r1 m1 g => by
          have := scaled_go (mode := 0) (neg := false) (more := false) (x := (k : Int)) r1 m1.ws (by have := r1.1.1; have := m1.len; omega) (by omega) (by omega) (by omega) (by omega) g
          rw [m1.num] at this
          exact this
        go_enter Tryz.func86, Tryz.ntmps86
        go_wp2_with fail
        refine (hF _).mono ?_
        rintro r w1 ⟨v, rfl, ho, hb1⟩
        obtain ⟨a1, n1, c1', l1, rfl, r1, m1, _⟩ := ho.opens hL (by omega)
        clear hF ho
        go_wp2_with fail
        refine (hN _).mono ?_
        rintro r w2 ⟨a2, n2, c2', l2, rfl, r2, m2, _, hb2⟩
        clear hN
        have B := hb1.trans (hb2.mono hb1.size)
        go_wp2_with fail
        refine (hm _ _ _ _ _ _ _ _ _ r2 (r1.later hb2) m2 m1).mono ?_
        rintro r w3 ⟨a3, n3, c3, l3, rfl, r3, m3, hb3⟩
        have B := B.trans (hb3.mono B.size)
        clear hm
        go_wp2_with fail
        refine (hsc _ _ _ _ _ r3 m3 (hG.later B)).mono ?_
        rintro r w4 ⟨b, E, rfl, hr, ub, hb4⟩
        have HQ : Hid (ExIs T (k : Int) b E) := HX.out _ _ hr
        have B := B.trans (hb4.mono B.size)
        clear hr HX hsc
        go_wp2
        go_ret2
        exact ⟨_, _, rfl, HQ.out, ub, B⟩
end Go.Proofs.YtjeoiffloghonaaGreatDoor

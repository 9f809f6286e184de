import Derived.Deep.RegionHeld3
import Derived.Deep.DeepCutAuto
import Derived.Below
import Derived.BigQuiet
import Derived.ChangeOld
import Derived.Deep.CutRange
import Derived.Deep.LoopGhost
import Derived.Deep.QuietTactic
import Derived.Deep.RegionWith
import Derived.Deep.WholeRow
import Derived.KernelRfl
import Derived.Laws.BitsAllLaws
import Derived.Laws.CopyRow
import Derived.Laws.EntriesVeiled
import Derived.Laws.Externs
import Derived.Laws.IdiomCopy
import Derived.Laws.IdiomRangeMap
import Derived.Laws.IdiomStrings
import Derived.Laws.RangeAny
import Derived.Laws.RangeString
import Derived.Laws.ResultCell
import Derived.Laws.Runes
import Derived.Laws.Strings3
import Derived.Lib.AsciiSet
import Derived.Lib.Bytealg
import Derived.Lib.IndexBytes
import Derived.Lib.OthersKept
import Derived.Lib.Strings
import Derived.Lib.TrimByte
import Derived.Lib.Walk
import Derived.OpenShut
import Derived.OwnWalk
import Derived.ProofKit
import Derived.Scope
import Derived.Shelf.Strconv.Clone
import Derived.Shelf.Strings.OnBuilder
import Derived.ShutString
import Derived.WalkKit
import Derived.WalkLawsBesides
import Derived.WalkMore
import Derived.WalkSpells
import Derived.Test.YtlaendbngekghaaGreatDoorPr7
import Derived.Test.YtlaendbngekghaaGreatDoorPr9
import Derived.Test.YtlaendbngekghaaGreatDoorPr11
import Derived.Test.YtlaendbngekghaaGreatDoorPr17
import Derived.Test.YtlaendbngekghaaGreatDoorPr20
import Derived.Test.YtlaendbngekghaaGreatDoorPr21
/- package atof: number, decimal. -/
namespace Go.Proofs.YtlaendbngekghaaGreatDoor
open Go.ChangeShapes Go.WideShapes Go.ChangeAt Go.RowKit
open Na Ar Lx
set_option linter.unusedVariables false
namespace Lx
/-- the number that digits say, in a base -/
def nv (b : Int) (l : B) : Int := numB (str l) b l.length
theorem nv_of (b : Int) (s : ByteArray) : numB s b s.size = nv b s.data.toList := by unfold nv; rw [str_of, ← Lib.size_eq]
theorem str_app (l m : B) : str l ++ str m = str (l ++ m) := by
  rw [← str_of (str l ++ str m)]
  congr 1
theorem nv_app (b : Int) (l m : B) : nv b (l ++ m) = nv b l * b ^ m.length + nv b m := by
  have h := app_num (str l) (str m) b
  rw [str_app, nv_of, nv_of, nv_of, str_list, str_list, str_list, str_size] at h
  exact h
theorem dgt_str (l : B) {i : Nat} (h : i < l.length) : dgt (str l) i = valN ((l[i]'h).toNat : Int) := by
  unfold dgt
  rw [byte_list, str_list, List.getD_eq_getElem?_getD, List.getElem?_eq_getElem h]
  rfl
theorem nv_one (b : Int) (c : UInt8) : nv b [c] = valN (c.toNat : Int) := by
  have : nv b [c] = 0 * b + dgt (str [c]) 0 := rfl
  rw [this, dgt_str [c] (by simp)]
  simp
/-- all are digits of the base -/
def okB (b : Int) (l : B) : Prop := ∀ c ∈ l, valN (c.toNat : Int) < b
theorem okB.dgt {b : Int} {l : B} (h : okB b l) : ∀ i, i < l.length → dgt (str l) i < b := fun i hi => by
  rw [dgt_str l hi]; exact h _ (List.getElem_mem hi)
theorem nv_nonneg {b : Int} (hb : 0 ≤ b) (l : B) : 0 ≤ nv b l := numB_nonneg hb _
theorem nv_lt {b : Int} {l : B} (hb : 2 ≤ b) (h : okB b l) : nv b l < b ^ l.length := numB_lt hb h.dgt
theorem nv_ge {b : Int} {c : UInt8} {r : B} (hb : 2 ≤ b) (h : c ≠ 48) : b ^ r.length ≤ nv b (c :: r) := by
  refine numB_ge hb ?_ r.length
  refine dgt_pos ?_
  rw [byte_list, str_list]
  simpa using h
theorem nv_dv {l : B} (h : ∀ c ∈ l, isD c = true) : nv 10 l = dv l := by
  induction l with
  | nil => rfl
  | cons c r ih =>
    have e1 := nv_app 10 [c] r
    have e2 := dv_append [c] r
    rw [List.singleton_append] at e1 e2
    rw [e1, e2, ih (fun d hd => h d (List.mem_cons_of_mem _ hd)), nv_one]
    obtain ⟨b0, b1⟩ := isD_bd (h c (List.mem_cons_self ..))
    have : valN (c.toNat : Int) = dv [c] := by
      unfold valN dv
      rw [if_pos (by omega)]
      simp
    rw [this]
theorem okB_ten {l : B} (h : ∀ c ∈ l, isD c = true) : okB 10 l := fun c hc => by
  obtain ⟨b0, b1⟩ := isD_bd (h c hc)
  unfold valN
  rw [if_pos (by omega)]; omega
theorem pow_16 (n : Nat) : (16 : Int) ^ n = 2 ^ (4 * n) := by rw [Int.pow_mul]; rfl
theorem nv_words {b : Int} {l : B} (hb : b = 10 ∨ b = 16) (h : okB b l) (hl : l.length ≤ 65536) : (words (nv b l)).length ≤ 4096 := by
  have h1 := nv_lt (by omega) h
  have h2 : b ^ l.length ≤ (16 : Int) ^ l.length := by
    rcases hb with rfl | rfl
    · generalize l.length = n
      induction n with
      | zero => simp
      | succ n ih =>
        rw [Int.pow_succ, Int.pow_succ]
        exact Int.mul_le_mul ih (by omega) (by omega) (Int.pow_nonneg (by omega))
    · exact Int.le_refl _
  rw [pow_16] at h2
  exact bits_words (nv_nonneg (by omega) l) (Int.lt_of_lt_of_le h1 h2) (by omega)
end Lx
theorem nm_words {T : Int} (h0 : 0 ≤ T) (h : (words T).length ≤ 4000000) : Nm (words T) T := ⟨Dg_words T, num_words h0, h⟩
set_option maxHeartbeats 1600000 in
theorem number11_any (s : ByteArray) {b : Int} (hb : b = 10 ∨ b = 16) (h0 : 0 < s.size) (hs : s.size ≤ 65536) (hd : okB b s.data.toList) (w : World) :
    Calls Tryz.prog 58 #[.string s, .int .i64 b] w fun r w' => ∃ a n c l, r = .returned (.slice a n c) ∧ RowC w' a n c l ∧ Nm l (nv b s.data.toList) ∧ l.length ≤ 4096 ∧ Below w.heap.size w w' := by
  have hw := nv_words hb hd (by rw [← Lib.size_eq]; exact hs)
  have hp := fun w => parse_good s b (by omega) (by omega) (by omega) h0 (fun i hi => by
    have := hd.dgt i (by rw [← Lib.size_eq]; exact hi)
    rw [str_of] at this; exact this) w
  rw [nv_of] at hp
  have nn := nv_nonneg (b := b) (by omega) s.data.toList
  generalize nv b s.data.toList = T at *
  clear hd
  go_enter Tryz.func58, Tryz.ntmps58
  go_wp2_with fail
  refine (hp _).mono ?_
  rintro e w' (⟨_, v, rfl, ho, hb'⟩ | ⟨hc, _⟩)
  · obtain ⟨a, c, rfl, hr⟩ := ho.readsC
    have HM : Hid (Nm (words T) T) := nm_words nn (by omega)
    generalize words T = l at *
    clear ho hp
    go_wp2
    go_ret
    exact ⟨_, _, _, l, rfl, hr, HM, hw, hb'⟩
  · omega
set_option maxHeartbeats 3200000 in
set_option maxRecDepth 100000 in
theorem decimal11_any (s : ByteArray) {e : Int} (h0 : 0 < s.size) (hs : s.size ≤ 65536) (hd : okB 10 s.data.toList) (hz : pTen (s.size - 1) ≤ nv 10 s.data.toList) (e0 : -2000000000 ≤ e) (e1 : e ≤ 2000000000) {w : World} (hG : GrVar w) :
    Calls Tryz.prog 60 #[.string s, .int .i64 e] w fun r w' => ∃ b E, r = .returned (.tuple #[.int .u64 b, .int .i64 E]) ∧ ExIs (nv 10 s.data.toList) e b E ∧ U b ∧ Below w.heap.size w w' := by
  have hN := fun w => number11_any s (b := 10) (Or.inl rfl) h0 hs hd w
  have hlt : nv 10 s.data.toList < pTen s.size := by
    have := nv_lt (b := 10) (by omega) hd
    rw [← Lib.size_eq] at this; exact this
  have hpos : 0 < nv 10 s.data.toList := by have := pTen_pos (s.size - 1); omega
  generalize nv 10 s.data.toList = T at *
  clear hd
  have hwr : IntKind.i64.wrap ((s.size : Int) + e) = (s.size : Int) + e := wrapI (by omega) (by omega)
  by_cases c1 : (s.size : Int) + e ≤ -324
  · have d1 : decide ((s.size : Int) + e ≤ -324) = true := by simp; omega
    have HQ : Hid (ExIs T e 0 0) := ex_tiny hpos hlt c1
    clear hN hz hlt
    go_enter Tryz.func60, Tryz.ntmps60
    go_wp2
    go_ret2
    exact ⟨_, _, rfl, HQ.out, U_zero, Below.refl _ _⟩
  · have d1 : decide ((s.size : Int) + e ≤ -324) = false := by simp; omega
    by_cases c2 : 309 < (s.size : Int) + e
    · have d2 : decide ((s.size : Int) + e > 309) = true := by simp; omega
      have d2' : decide (309 < (s.size : Int) + e) = true := by simp; omega
      have HQ : Hid (ExIs T e 0 70) := ex_huge hz (by omega)
      clear hN hz hlt
      go_enter Tryz.func60, Tryz.ntmps60
      go_wp2
      go_ret2
      exact ⟨_, _, rfl, HQ.out, U_zero, Below.refl _ _⟩
    · have d2 : decide ((s.size : Int) + e > 309) = false := by simp; omega
      have d2' : decide (309 < (s.size : Int) + e) = false := by simp; omega
      by_cases c3 : e < 0
      · have d3 : decide (e < 0) = true := by simp; omega
        obtain ⟨k, hk⟩ : ∃ k : Nat, -e = (k : Int) := ⟨(-e).toNat, by omega⟩
        have ek : e = -(k : Int) := by omega
        have hT := fun w => ten_any (k : Int) (by omega) (by omega) w
        have p1 : pwE 78913 (k : Int) = 0 := by unfold pwE; rw [if_neg (by omega), if_neg (by omega)]
        have p2 : pwL 10 78913 (k : Int) = words (10 ^ k) := by unfold pwL; rw [if_neg (by omega), if_neg (by omega), Int.toNat_natCast]
        rw [p1, p2] at hT
        have hL := ten_lt (n := k) (by omega)
        have HX : Hid (∀ b E, RoundIs (scA T 0) (scB (10 ^ k) 0) false false 0 b E → ExIs T e b E) := fun b E h => by
          rw [ek, ex_neg (by omega), ← scA_flat, ← scB_flat (pTen k)]; exact h
        have hDp : (0 : Int) < 10 ^ k := Int.pow_pos (by omega)
        generalize (10 : Int) ^ k = D at *
        clear hlt hz p1 p2 ek
        have hq : ∀ (w1 : World) (a b : Option Addr) (n c m d : Nat) (xs ys : List Int), RowC w1 a n c xs → RowC w1 b m d ys → Nm xs T → Nm ys D → xs.length ≤ 4096 → ys.length ≤ 4096 → GrVar w1 → Calls Tryz.prog 59 #[.bool false, .slice a n c, .slice b m d, .int .i64 0] w1 fun e w' => ∃ v E, e = .returned (.tuple #[.int .u64 v, .int .i64 E]) ∧ RoundIs (scA T 0) (scB D 0) false false 0 v E ∧ U v ∧ Below w1.heap.size w1 w' := fun w1 a b n c m d xs ys r1 r2 m1 m2 l1 l2 g => by
          have := quotient_any (mode := 0) (neg := false) r1 r2 m1.ws m2.ws (by have := r1.1.1; omega) (by have := r2.1.1; omega) (by omega) (by omega) (by rw [m2.num]; exact hDp) g
          rw [m1.num, m2.num] at this
          exact this
        go_enter Tryz.func60, Tryz.ntmps60
        go_wp2_with fail
        refine (hT _).mono ?_
        rintro r w1 ⟨v, rfl, ho, hb1⟩
        obtain ⟨a1, n1, c1', l1, rfl, r1, m1, hl1⟩ := ho.opens hL (by omega)
        have k1 : l1.length ≤ 4096 := by rw [hl1.out]; exact hL.len
        clear hT ho hl1
        go_wp2_with fail
        refine (hN _).mono ?_
        rintro r w2 ⟨a2, n2, c2', l2, rfl, r2, m2, k2, hb2⟩
        clear hN
        go_wp2_with fail
        refine (hq _ _ _ _ _ _ _ _ _ r2 (r1.later hb2) m2 m1 k2 k1 ((hG.later hb1).later hb2)).mono ?_
        rintro r w3 ⟨b, E, rfl, hr, ub, hb3⟩
        have HQ : Hid (ExIs T e b E) := HX.out _ _ hr
        have B := (hb1.trans (hb2.mono hb1.size)).trans (hb3.mono (hb1.trans (hb2.mono hb1.size)).size)
        clear hr HX hq
        go_wp2
        go_ret2
        exact ⟨_, _, rfl, HQ.out, ub, B⟩
      · have d3 : decide (e < 0) = false := by simp; omega
        obtain ⟨k, rfl⟩ : ∃ k : Nat, e = (k : Int) := ⟨e.toNat, by omega⟩
        have hF := fun w => five_any (k : Int) (by omega) (by omega) w
        have p1 : pwE 112899 (k : Int) = 0 := by unfold pwE; rw [if_neg (by omega), if_neg (by omega)]
        have p2 : pwL 5 112899 (k : Int) = words (5 ^ k) := by unfold pwL; rw [if_neg (by omega), if_neg (by omega), Int.toNat_natCast]
        rw [p1, p2] at hF
        have hL := five_lt (n := k) (by omega)
        have HX : Hid (∀ b E, RoundIs (scA (T * 5 ^ k) (k : Int)) (scB 1 (k : Int)) false false 0 b E → ExIs T (k : Int) b E) := fun b E h => ex_five h
        have hLt : Lt (T * 5 ^ k) 4096 := by
          refine ⟨Int.mul_nonneg (by omega) (Int.le_of_lt (Int.pow_pos (by omega))), ?_⟩
          have t2 := (ten_lt (n := s.size + k) (by omega)).2
          have q1 : T * 5 ^ k ≤ pTen s.size * pFive k := Int.mul_le_mul_of_nonneg_right (Int.le_of_lt hlt) (Int.le_of_lt (pFive_pos k))
          have q2 : pTen s.size * pFive k ≤ pTen (s.size + k) := by
            rw [pTen_add]
            refine Int.mul_le_mul_of_nonneg_left ?_ (Int.le_of_lt (pTen_pos _))
            rw [pTen_split]
            have a := pFive_pos k
            have b := pTwo_pos k
            have := Int.mul_le_mul_of_nonneg_left (show (1 : Int) ≤ pTwo k by omega) (Int.le_of_lt a)
            omega
          have q3 : pTen (s.size + k) = 10 ^ (s.size + k) := rfl
          rw [q3] at q2
          exact Int.lt_of_le_of_lt (Int.le_trans q1 q2) t2
        generalize (5 : Int) ^ k = D at *
        clear hlt hz p1 p2
        have hm : ∀ (w1 : World) (a b : Option Addr) (n c m d : Nat) (xs ys : List Int), RowC w1 a n c xs → RowC w1 b m d ys → Nm xs T → Nm ys D → Calls Tryz.prog 45 #[.slice a n c, .slice b m d] w1 fun e w' => ∃ a' n' c' l', e = .returned (.tuple #[.slice a' n' c', .int .i64 0]) ∧ RowC w' a' n' c' l' ∧ Nm l' (T * D) ∧ Below w1.heap.size w1 w' := fun w1 a b n c m d xs ys r1 r2 m1 m2 => by
          refine (mulQ r1 r2 m1 m2 hLt (by omega)).mono ?_
          rintro e w' ⟨a', n', c', l', q, r, m, _, hb⟩
          exact ⟨a', n', c', l', q, r, m, hb⟩
        have hsc : ∀ (w1 : World) (a : Option Addr) (n c : Nat) (xs : List Int), RowC w1 a n c xs → Nm xs (T * D) → GrVar w1 → Calls Tryz.prog 57 #[.bool false, .slice a n c, .int .i64 (k : Int), .bool false, .int .i64 0] w1 fun e w' => ∃ v E, e = .returned (.tuple #[.int .u64 v, .int .i64 E]) ∧ RoundIs (scA (T * D) (k : Int)) (scB 1 (k : Int)) false false 0 v E ∧ U v ∧ Below w1.heap.size w1 w' := fun w1 a n c xs r1 m1 g => by
          have := scaled_go (mode := 0) (neg := false) (more := false) (x := (k : Int)) r1 m1.ws (by have := r1.1.1; have := m1.len; omega) (by omega) (by omega) (by omega) (by omega) g
          rw [m1.num] at this
          exact this
        go_enter Tryz.func60, Tryz.ntmps60
        go_wp2_with fail
        refine (hF _).mono ?_
        rintro r w1 ⟨v, rfl, ho, hb1⟩
        obtain ⟨a1, n1, c1', l1, rfl, r1, m1, _⟩ := ho.opens hL (by omega)
        clear hF ho
        go_wp2_with fail
        refine (hN _).mono ?_
        rintro r w2 ⟨a2, n2, c2', l2, rfl, r2, m2, _, hb2⟩
        clear hN
        have B := hb1.trans (hb2.mono hb1.size)
        go_wp2_with fail
        refine (hm _ _ _ _ _ _ _ _ _ r2 (r1.later hb2) m2 m1).mono ?_
        rintro r w3 ⟨a3, n3, c3, l3, rfl, r3, m3, hb3⟩
        have B := B.trans (hb3.mono B.size)
        clear hm
        go_wp2_with fail
        refine (hsc _ _ _ _ _ r3 m3 (hG.later B)).mono ?_
        rintro r w4 ⟨b, E, rfl, hr, ub, hb4⟩
        have HQ : Hid (ExIs T (k : Int) b E) := HX.out _ _ hr
        have B := B.trans (hb4.mono B.size)
        clear hr HX hsc
        go_wp2
        go_ret2
        exact ⟨_, _, rfl, HQ.out, ub, B⟩
end Go.Proofs.YtlaendbngekghaaGreatDoor

/- package atof: the slow road; the two quick ones. -/
namespace Go.Proofs.YtlaendbngekghaaGreatDoor
open Go.ChangeShapes Go.WideShapes Go.ChangeAt Go.RowKit
open Na Ar Lx
set_option linter.unusedVariables false
/-- what a numeral without its sign is rounded to -/
def ValIs (k : Int) (num : B) (e : Int) (den : B) (b E : Int) : Prop :=
  if k = 1 then ExIs (nv 10 num) e b E else if k = 2 then RoundIs (scA (nv 16 num) e) (scB 1 e) false false 0 b E
  else RoundIs (scA (nv 10 num) 0) (scB (nv 10 den) 0) false false 0 b E
theorem number_at (s : ByteArray) {b : Int} (hb : b = 10 ∨ b = 16) (h0 : 0 < s.size) (hs : s.size ≤ 65536) (hd : okB b s.data.toList) {w0 w1 : World} (h : Below w0.heap.size w0 w1) :
    Calls Tryz.prog 58 #[.string s, .int .i64 b] w1 fun r w' => ∃ a n c l, r = .returned (.slice a n c) ∧ RowC w' a n c l ∧ Nm l (nv b s.data.toList) ∧ l.length ≤ 4096 ∧ Below w0.heap.size w0 w' ∧ Below w1.heap.size w1 w' := by
  refine (number11_any s hb h0 hs hd w1).mono ?_
  rintro r w' ⟨a, n, c, l, rfl, q1, q2, q3, q4⟩
  exact ⟨a, n, c, l, rfl, q1, q2, q3, h.trans (q4.mono h.size), q4⟩
set_option maxHeartbeats 3200000 in
set_option maxRecDepth 100000 in
theorem slow2_any {g : Nat} {ng : Bool} {num den : ByteArray} {e : Int} {w : World} (hb : Bk w g 30 (numC 2 ng num e den)) (h0 : 0 < num.size) (hs : num.size ≤ 65536) (hd : okB 16 num.data.toList) (e0 : -2000000000 ≤ e) (e1 : e ≤ 2000000000) (hG : GrVar w) :
    Calls Tryz.prog 56 #[.pointer (some ⟨g, 0, none⟩)] w fun r w' => ∃ b E, r = .returned (.tuple #[.int .u64 b, .int .i64 E]) ∧ RoundIs (scA (nv 16 num.data.toList) e) (scB 1 e) false false 0 b E ∧ U b ∧ Below w.heap.size w w' := by
  have hcl : ∀ w1, Below w.heap.size w w1 → w1.cell? ⟨g, 0, none⟩ = some (.int .i64 2) ∧ w1.cell? ⟨g, 2, none⟩ = some (.string num) ∧ w1.cell? ⟨g, 3, none⟩ = some (.int .i64 e) := fun w1 h => ⟨(hb.later h).cell 0 rfl, (hb.later h).cell 2 rfl, (hb.later h).cell 3 rfl⟩
  obtain ⟨x0, x2, x3⟩ := hcl w (Below.refl _ _)
  have hN := fun (w1 : World) (h : Below w.heap.size w w1) => number_at num (b := 16) (Or.inr rfl) h0 hs hd h
  generalize nv 16 num.data.toList = T at *
  have hsc : ∀ (w1 : World) (a : Option Addr) (n c : Nat) (xs : List Int), Below w.heap.size w w1 → RowC w1 a n c xs → Nm xs T → Calls Tryz.prog 57 #[.bool false, .slice a n c, .int .i64 e, .bool false, .int .i64 0] w1 fun r w' => ∃ v E, r = .returned (.tuple #[.int .u64 v, .int .i64 E]) ∧ RoundIs (scA T e) (scB 1 e) false false 0 v E ∧ U v ∧ Below w1.heap.size w1 w' := fun w1 a n c xs h r1 m1 => by
    have := scaled_go (mode := 0) (neg := false) (more := false) (x := e) r1 m1.ws (by have := r1.1.1; have := m1.len; omega) (by omega) (by omega) (by omega) (by omega) (hG.later h)
    rw [m1.num] at this
    exact this
  clear hd hb
  go_enter Tryz.func56, Tryz.ntmps56
  go_wp2_with fail
  go_region_held3 (fun w' => w'.cell? ⟨g, 2, none⟩ = some (.string num) ∧ w'.cell? ⟨g, 3, none⟩ = some (.int .i64 e)) (go_keep) (first | (go_at_call 58; refine (hN _ (by first | exact Below.refl _ _ | exact below_drewN (Below.refl _ _) _)).mono ?_; rintro r wA ⟨a, n, c, l, rfl, hr, hm, hl, hBA, hbA⟩; obtain ⟨y0, y2, y3⟩ := hcl wA hBA; have hS := hsc wA a n c l hBA hr hm) | (go_at_call 57; refine hS.mono ?_; rintro r wB ⟨b, E, rfl, hR, ub, hbB⟩; have hBB := hBA.trans (hbB.mono hBA.size); have HR : Hid (RoundIs (scA T e) (scB 1 e) false false 0 b E) := hR; clear hR))
  go_wp2
  go_ret2
  exact ⟨_, _, rfl, HR.out, ub, hBB⟩
set_option maxHeartbeats 3200000 in
set_option maxRecDepth 100000 in
theorem slow3_any {g : Nat} {ng : Bool} {num den : ByteArray} {e : Int} {w : World} (hb : Bk w g 30 (numC 3 ng num e den)) (h0 : 0 < num.size) (hs : num.size ≤ 65536) (hd : okB 10 num.data.toList) (k0 : 0 < den.size) (ks : den.size ≤ 65536) (kd : okB 10 den.data.toList) (kp : 0 < nv 10 den.data.toList) (hG : GrVar w) :
    Calls Tryz.prog 56 #[.pointer (some ⟨g, 0, none⟩)] w fun r w' => ∃ b E, r = .returned (.tuple #[.int .u64 b, .int .i64 E]) ∧ RoundIs (scA (nv 10 num.data.toList) 0) (scB (nv 10 den.data.toList) 0) false false 0 b E ∧ U b ∧ Below w.heap.size w w' := by
  have hcl : ∀ w1, Below w.heap.size w w1 → w1.cell? ⟨g, 0, none⟩ = some (.int .i64 3) ∧ w1.cell? ⟨g, 2, none⟩ = some (.string num) ∧ w1.cell? ⟨g, 4, none⟩ = some (.string den) := fun w1 h => ⟨(hb.later h).cell 0 rfl, (hb.later h).cell 2 rfl, (hb.later h).cell 4 rfl⟩
  obtain ⟨x0, x2, x3⟩ := hcl w (Below.refl _ _)
  have hN := fun (w1 : World) (h : Below w.heap.size w w1) => number_at num (b := 10) (Or.inl rfl) h0 hs hd h
  have hM := fun (w1 : World) (h : Below w.heap.size w w1) => number_at den (b := 10) (Or.inl rfl) k0 ks kd h
  generalize nv 10 num.data.toList = T at *
  generalize nv 10 den.data.toList = D at *
  have hq : ∀ (w1 : World) (a b : Option Addr) (n c m d : Nat) (xs ys : List Int), Below w.heap.size w w1 → RowC w1 a n c xs → RowC w1 b m d ys → Nm xs T → Nm ys D → xs.length ≤ 4096 → ys.length ≤ 4096 → Calls Tryz.prog 59 #[.bool false, .slice a n c, .slice b m d, .int .i64 0] w1 fun e w' => ∃ v E, e = .returned (.tuple #[.int .u64 v, .int .i64 E]) ∧ RoundIs (scA T 0) (scB D 0) false false 0 v E ∧ U v ∧ Below w1.heap.size w1 w' := fun w1 a b n c m d xs ys h r1 r2 m1 m2 l1 l2 => by
    have := quotient_any (mode := 0) (neg := false) r1 r2 m1.ws m2.ws (by have := r1.1.1; omega) (by have := r2.1.1; omega) (by omega) (by omega) (by rw [m2.num]; exact kp) (hG.later h)
    rw [m1.num, m2.num] at this
    exact this
  clear hd hb kd
  go_enter Tryz.func56, Tryz.ntmps56
  go_wp2_with fail
  go_region_held3 (fun w' => w'.cell? ⟨g, 2, none⟩ = some (.string num) ∧ w'.cell? ⟨g, 4, none⟩ = some (.string den)) (go_keep) (first | (go_at_call_of 58 num; refine (hN _ (by first | exact Below.refl _ _ | exact below_drewN (Below.refl _ _) _)).mono ?_; rintro r wA ⟨a, n, c, l, rfl, hr, hm, hl, hBA, hbA⟩; obtain ⟨y0, y2, y3⟩ := hcl wA hBA) | (go_at_call 58; refine (hM _ (by first | exact hBA | exact below_drewN hBA _)).mono ?_; rintro r wB ⟨a2, n2, c2, l2, rfl, hr2, hm2, hl2, hBB, hbB⟩; have hr1 := hr.later (by first | exact hbB | exact (below_drewN (Below.refl _ wA) _).trans (hbB.mono (Nat.le_refl _))); obtain ⟨y0, y2, y3⟩ := hcl wB hBB; have hS := hq wB a a2 n c n2 c2 l l2 hBB hr1 hr2 hm hm2 hl hl2) | (go_at_call 59; refine hS.mono ?_; rintro r wC ⟨b, E, rfl, hR, ub, hbC⟩; have hBC := hBB.trans (hbC.mono hBB.size); have HR : Hid (RoundIs (scA T 0) (scB D 0) false false 0 b E) := hR; clear hR))
  go_wp2
  go_ret2
  exact ⟨_, _, rfl, HR.out, ub, hBC⟩
set_option maxHeartbeats 3200000 in
set_option maxRecDepth 100000 in
theorem slow1_any {g : Nat} {ng : Bool} {num den : ByteArray} {e : Int} {w : World} (hb : Bk w g 30 (numC 1 ng num e den)) (h0 : 0 < num.size) (hs : num.size ≤ 65536) (hd : okB 10 num.data.toList) (hz : pTen (num.size - 1) ≤ nv 10 num.data.toList) (e0 : -2000000000 ≤ e) (e1 : e ≤ 2000000000) (hG : GrVar w) :
    Calls Tryz.prog 56 #[.pointer (some ⟨g, 0, none⟩)] w fun r w' => ∃ b E, r = .returned (.tuple #[.int .u64 b, .int .i64 E]) ∧ ExIs (nv 10 num.data.toList) e b E ∧ U b ∧ Below w.heap.size w w' := by
  have x0 := hb.cell 0 (v := .int .i64 1) rfl
  have x2 := hb.cell 2 (v := .string num) rfl
  have x3 := hb.cell 3 (v := .int .i64 e) rfl
  have hD := decimal11_any num h0 hs hd hz e0 e1 hG
  generalize nv 10 num.data.toList = T at *
  clear hd hb hz
  go_enter Tryz.func56, Tryz.ntmps56
  go_wp2_with fail
  refine hD.mono ?_
  rintro r w1 ⟨b, E, rfl, hR, ub, hb1⟩
  have HR : Hid (ExIs T e b E) := hR
  clear hR hD
  go_wp2
  go_ret2
  exact ⟨_, _, rfl, HR.out, ub, hb1⟩
/-! ### the quick roads -/
def Road1 (m e : Int) (mr : Bool) (b E : Int) : Prop := E = 100 ∨ (mr = false ∧ ExIs m e b E)
def Road2 (m e : Int) (mr : Bool) (b E : Int) : Prop := E = 100 ∨ (ExIs m e b E ∧ (mr = true → ExIs (m + 1) e b E))
set_option maxHeartbeats 3200000 in
set_option maxRecDepth 100000 in
theorem road1_any {gm ge gr : Nat} {m e : Int} {mr : Bool} {w : World} (c1 : w.cell? ⟨gm, 0, none⟩ = some (.int .u64 m)) (c2 : w.cell? ⟨ge, 0, none⟩ = some (.int .i64 e)) (c3 : w.cell? ⟨gr, 0, none⟩ = some (.bool mr)) (hm : U m) (i0 : -9223372036854775808 ≤ e) (i1 : e ≤ 9223372036854775807) (hT : TenVar w) :
    Calls Tryz.prog 64 #[.pointer (some ⟨gm, 0, none⟩), .pointer (some ⟨ge, 0, none⟩), .pointer (some ⟨gr, 0, none⟩)] w fun r w' => ∃ b E, r = .returned (.tuple #[.int .u64 b, .int .i64 E]) ∧ Road1 m e mr b E ∧ U b ∧ Below w.heap.size w w' := by
  have hS := lemSmall_any hm i0 i1 hT
  have hk : gr < w.heap.size := cell_lt7 c3
  go_enter Tryz.func64, Tryz.ntmps64
  go_wp2_with fail
  refine hS.mono ?_
  rintro r w1 ⟨b, rfl, h1, h2, ub, hb1⟩
  have c4 : w1.cell? ⟨gr, 0, none⟩ = some (.bool mr) := by rw [hb1.cell (p := ⟨gr, 0, none⟩) hk]; exact c3
  clear hS
  cases hk2 : smallOk m e
  · clear h1 h2
    go_wp2
    all_goals go_ret2
    exact ⟨_, _, rfl, Or.inl rfl, U_zero, hb1⟩
  · have HQ : Hid (ExIs m e b 0) := small_ex (h1 hk2)
    clear h1 h2
    cases mr
    · go_wp2
      go_ret2
      exact ⟨_, _, rfl, Or.inr ⟨rfl, HQ.out⟩, ub, hb1⟩
    · go_wp2
      go_ret2
      exact ⟨_, _, rfl, Or.inl rfl, U_zero, hb1⟩
set_option maxHeartbeats 3200000 in
set_option maxRecDepth 100000 in
theorem road2_any {gm ge gr : Nat} {m e : Int} {mr : Bool} {w : World} (c1 : w.cell? ⟨gm, 0, none⟩ = some (.int .u64 m)) (c2 : w.cell? ⟨ge, 0, none⟩ = some (.int .i64 e)) (c3 : w.cell? ⟨gr, 0, none⟩ = some (.bool mr)) (hm0 : 0 ≤ m) (hm1 : m ≤ 9999999999999999999) (i0 : -9223372036854775808 ≤ e) (i1 : e ≤ 9223372036854775807) :
    Calls Tryz.prog 65 #[.pointer (some ⟨gm, 0, none⟩), .pointer (some ⟨ge, 0, none⟩), .pointer (some ⟨gr, 0, none⟩)] w fun r w' => ∃ b E, r = .returned (.tuple #[.int .u64 b, .int .i64 E]) ∧ Road2 m e mr b E ∧ U b ∧ Below w.heap.size w w' := by
  have l1 := cell_lt7 c1
  have l2 := cell_lt7 c2
  have l3 := cell_lt7 c3
  have um : U m := by unfold U; omega
  have um1 : U (m + 1) := by unfold U; omega
  have hF := fun w => lemFast_any um i0 i1 w
  have hF1 := fun w => lemFast_any um1 i0 i1 w
  have hwr : IntKind.u64.wrap (m + 1) = m + 1 := by rw [wrapU]; omega
  have S1 : Hid (∀ b E, FastIs m e b E → E ≠ 100 → ExIs m e b E) := fun b E h q => sure_ex um h q
  have S2 : Hid (∀ b E, FastIs (m + 1) e b E → E ≠ 100 → ExIs (m + 1) e b E) := fun b E h q => sure_ex um1 h q
  go_enter Tryz.func65, Tryz.ntmps65
  go_wp2_with fail
  refine (hF _).mono ?_
  rintro r w1 ⟨b, E, rfl, hf, ub, hb1⟩
  have HF : Hid (FastIs m e b E) := hf
  have d1 : w1.cell? ⟨gm, 0, none⟩ = some (.int .u64 m) := by rw [hb1.cell (p := ⟨gm, 0, none⟩) l1]; exact c1
  have d2 : w1.cell? ⟨ge, 0, none⟩ = some (.int .i64 e) := by rw [hb1.cell (p := ⟨ge, 0, none⟩) l2]; exact c2
  have d3 : w1.cell? ⟨gr, 0, none⟩ = some (.bool mr) := by rw [hb1.cell (p := ⟨gr, 0, none⟩) l3]; exact c3
  clear hF hf c1 c2 c3
  cases mr
  · go_wp2
    go_ret2
    refine ⟨_, _, rfl, ?_, ub, hb1⟩
    by_cases hE : E = 100
    · exact Or.inl hE
    · exact Or.inr ⟨S1.out _ _ HF.out hE, fun h => by cases h⟩
  · go_wp2_with fail
    refine (hF1 _).mono ?_
    rintro r w2 ⟨b2, E2, rfl, hf, ub2, hb2⟩
    have HF2 : Hid (FastIs (m + 1) e b2 E2) := hf
    have B := hb1.trans (hb2.mono hb1.size)
    clear hf hF1
    by_cases hb : b = b2
    · by_cases hE : E = E2
      · have t1 : (b != b2) = false := bne_of hb
        have t2 : (E != E2) = false := bne_of hE
        have HE : Hid (b = b2 ∧ E = E2) := ⟨hb, hE⟩
        clear hb hE
        go_wp2
        go_ret2
        refine ⟨_, _, rfl, ?_, ub, B⟩
        obtain ⟨q1, q2⟩ := HE.out
        by_cases h9 : E = 100
        · exact Or.inl h9
        · refine Or.inr ⟨S1.out _ _ HF.out h9, fun _ => ?_⟩
          rw [q1, q2]
          exact S2.out _ _ HF2.out (by omega)
      · have t1 : (b != b2) = false := bne_of hb
        have t2 : (E != E2) = true := bne_yes hE
        clear hb hE
        go_wp2
        go_ret2
        exact ⟨_, _, rfl, Or.inl rfl, U_zero, B⟩
    · have t1 : (b != b2) = true := bne_yes hb
      clear hb
      go_wp2
      go_ret2
      exact ⟨_, _, rfl, Or.inl rfl, U_zero, B⟩
end Go.Proofs.YtlaendbngekghaaGreatDoor

/- package atof: shortened: the numbers. -/
namespace Go.Proofs.YtlaendbngekghaaGreatDoor
open Go.RowKit
open Na Ar Lx
set_option linter.unusedVariables false
namespace Lx
/-- is there nothing but zeros? -/
def zeros (l : B) : Bool := (trimL [48] (trimR [48] l)).isEmpty
def perD (k : Int) : Int := if k = 2 then 4 else 1
/-- the digits of the shortened numeral, its exponent -/
def shN (k : Int) (l : B) : B := if k = 3 ∨ l.length ≤ 768 then l else if zeros (l.drop 768) = true then l.take 768 else l.take 768 ++ [49]
def shE (k : Int) (l : B) (e : Int) : Int := if k = 3 ∨ l.length ≤ 768 then e else if zeros (l.drop 768) = true then e + ((l.length - 768 : Nat) : Int) * perD k else e + ((l.length - 769 : Nat) : Int) * perD k
theorem zeros_iff (l : B) : zeros l = true ↔ ∀ b ∈ l, b = 48 := by
  unfold zeros
  rw [trimmed_empty, List.all_eq_true]
  constructor
  · intro h b hb
    have := h b hb
    simpa using this
  · intro h b hb
    rw [h b hb]; rfl
theorem nv_zeros {b : Int} {l : B} (h : ∀ c ∈ l, c = 48) : nv b l = 0 := by
  refine numB_zeros fun j hj => ?_
  rw [byte_list, str_list, List.getD_eq_getElem?_getD, List.getElem?_eq_getElem hj]
  exact h _ (List.getElem_mem hj)
theorem nv_cons (b : Int) (c : UInt8) (r : B) : nv b (c :: r) = valN (c.toNat : Int) * b ^ r.length + nv b r := by
  have := nv_app b [c] r
  rw [List.singleton_append, nv_one] at this
  exact this
theorem val_pos {c : UInt8} (h : c ≠ 48) : 1 ≤ valN (c.toNat : Int) := by
  have := dgt_pos (s := str [c]) (i := 0) (by rw [byte_list, str_list]; simpa using h)
  rw [dgt_str [c] (by simp)] at this
  simpa using this
theorem nv_pos {b : Int} {l : B} (hb : 2 ≤ b) (h : ¬ ∀ c ∈ l, c = 48) : 0 < nv b l := by
  induction l with
  | nil => exact absurd (fun c hc => by cases hc) h
  | cons c r ih =>
    rw [nv_cons]
    have p : 0 < b ^ r.length := Int.pow_pos (by omega)
    have n := nv_nonneg (b := b) (by omega) r
    by_cases hc : c = 48
    · have := ih (fun q => h (fun d hd => by
        rcases List.mem_cons.mp hd with rfl | hd
        · exact hc
        · exact q d hd))
      have v := (valN_bd (c.toNat : Int)).1
      have := Int.mul_nonneg v (Int.le_of_lt p)
      omega
    · have v := val_pos hc
      have := Int.mul_pos (show 0 < valN (c.toNat : Int) by omega) p
      omega
theorem okB.take {b : Int} {l : B} (h : okB b l) (n : Nat) : okB b (l.take n) := fun c hc => h c (List.mem_of_mem_take hc)
theorem okB.drop {b : Int} {l : B} (h : okB b l) (n : Nat) : okB b (l.drop n) := fun c hc => h c (List.mem_of_mem_drop hc)
theorem hex_pow (n : Nat) : (16 : Int) ^ n = e2 ((4 * n : Nat) : Int) := by
  rw [pow_16]; unfold e2; rw [Int.toNat_natCast]
/-- first is no zero -/
def lead (l : B) : Prop := ∃ c r, l = c :: r ∧ c ≠ 48
theorem lead.ge {b : Int} {l : B} (hb : 2 ≤ b) (h : lead l) : b ^ (l.length - 1) ≤ nv b l := by
  obtain ⟨c, r, rfl, hc⟩ := h
  exact nv_ge hb hc
theorem lead.take {l : B} (h : lead l) {n : Nat} (hn : 0 < n) : lead (l.take n) := by
  obtain ⟨c, r, rfl, hc⟩ := h
  obtain ⟨m, rfl⟩ : ∃ m, n = m + 1 := ⟨n - 1, by omega⟩
  exact ⟨c, r.take m, rfl, hc⟩
theorem lead.pos {l : B} (h : lead l) : 0 < l.length := by obtain ⟨c, r, rfl, _⟩ := h; simp
end Lx
/-- the shortened numeral is rounded likewise: decimals -/
theorem short_dec {l : B} {e b E : Int} (hd : okB 10 l) (hl : lead l) : ExIs (nv 10 (shN 1 l)) (shE 1 l e) b E ↔ ExIs (nv 10 l) e b E := by
  unfold shN shE
  by_cases hlen : l.length ≤ 768
  · rw [if_pos (Or.inr hlen), if_pos (Or.inr hlen)]
  · have hc : ¬ ((1 : Int) = 3 ∨ l.length ≤ 768) := by omega
    rw [if_neg hc, if_neg hc]
    have hsplit := nv_app 10 (l.take 768) (l.drop 768)
    rw [List.take_append_drop, List.length_drop] at hsplit
    have p1 : perD 1 = 1 := rfl
    have hH : pTen 767 ≤ nv 10 (l.take 768) := by
      have := (hl.take (n := 768) (by omega)).ge (b := 10) (by omega)
      rw [List.length_take, Nat.min_eq_left (by omega)] at this
      exact this
    have hr := nv_lt (b := 10) (by omega) (hd.drop 768)
    rw [List.length_drop] at hr
    by_cases hz : zeros (l.drop 768) = true
    · rw [if_pos hz, if_pos hz, hsplit, nv_zeros ((zeros_iff _).mp hz), Int.add_zero, p1, Int.mul_one]
      exact (ex_shift (l.length - 768)).symm
    · rw [if_neg hz, if_neg hz, hsplit, p1, Int.mul_one, nv_app]
      have hp := nv_pos (b := 10) (by omega) (mt (zeros_iff _).mpr hz)
      generalize nv 10 (l.take 768) = H at *
      generalize nv 10 (l.drop 768) = r at *
      obtain ⟨t, ht, i1, i2⟩ : ∃ t, l.length = 769 + t ∧ l.length - 768 = t + 1 ∧ l.length - 769 = t := ⟨l.length - 769, by omega, by omega, rfl⟩
      rw [i1] at hr ⊢
      rw [i2]
      have n1 : nv 10 [49] = 1 := by rw [nv_one]; rfl
      have e1 : (10 : Int) ^ [(49 : UInt8)].length = 10 := rfl
      rw [n1, e1]
      exact ex_short hH hp hr
/-- hexadecimals -/
theorem short_hex {l : B} {e b E : Int} (hd : okB 16 l) (hl : lead l) : RoundIs (scA (nv 16 (shN 2 l)) (shE 2 l e)) (scB 1 (shE 2 l e)) false false 0 b E ↔ RoundIs (scA (nv 16 l) e) (scB 1 e) false false 0 b E := by
  unfold shN shE
  by_cases hlen : l.length ≤ 768
  · rw [if_pos (Or.inr hlen), if_pos (Or.inr hlen)]
  · have hc : ¬ ((2 : Int) = 3 ∨ l.length ≤ 768) := by omega
    rw [if_neg hc, if_neg hc]
    have hsplit := nv_app 16 (l.take 768) (l.drop 768)
    rw [List.take_append_drop, List.length_drop, hex_pow] at hsplit
    have p1 : perD 2 = 4 := rfl
    have hH : e2 64 ≤ nv 16 (l.take 768) := by
      have := (hl.take (n := 768) (by omega)).ge (b := 16) (by omega)
      rw [List.length_take, Nat.min_eq_left (by omega), hex_pow] at this
      refine Int.le_trans ?_ this
      have q := e2_add (j := 64) (k := 3004) (by omega) (by omega)
      have q1 : ((4 * (768 - 1) : Nat) : Int) = 64 + 3004 := by omega
      rw [q1, q]
      have a := e2_pos 64
      have c := e2_pos 3004
      have := Int.mul_le_mul_of_nonneg_left (show (1 : Int) ≤ e2 3004 by omega) (Int.le_of_lt a)
      omega
    have hr := nv_lt (b := 16) (by omega) (hd.drop 768)
    rw [List.length_drop, hex_pow] at hr
    by_cases hz : zeros (l.drop 768) = true
    · rw [if_pos hz, if_pos hz, hsplit, nv_zeros ((zeros_iff _).mp hz), Int.add_zero, p1]
      have := (hex_shift (W := nv 16 (l.take 768)) (x := e) (b := b) (E := E) (4 * (l.length - 768))).symm
      rw [show ((4 * (l.length - 768) : Nat) : Int) = ((l.length - 768 : Nat) : Int) * 4 by omega] at this ⊢
      exact this
    · rw [if_neg hz, if_neg hz, hsplit, p1, nv_app]
      have hp := nv_pos (b := 16) (by omega) (mt (zeros_iff _).mpr hz)
      generalize nv 16 (l.take 768) = H at *
      generalize nv 16 (l.drop 768) = r at *
      obtain ⟨t, ht, i1, i2⟩ : ∃ t, l.length = 769 + t ∧ l.length - 768 = t + 1 ∧ l.length - 769 = t := ⟨l.length - 769, by omega, by omega, rfl⟩
      rw [i1] at hr ⊢
      rw [i2]
      have n1 : nv 16 [49] = 1 := by rw [nv_one]; rfl
      have e1 : (16 : Int) ^ [(49 : UInt8)].length = 16 := rfl
      rw [n1, e1, Int.mul_comm (t : Int) 4]
      exact hex_short hH hp hr
/-! ### what the quick roads tell of the numeral -/
theorem trimR_split (l : B) : ∃ z : Nat, l = trimR [48] l ++ List.replicate z 48 := by
  refine ⟨(l.reverse.takeWhile (fun b => ([48] : B).contains b)).length, ?_⟩
  unfold trimR
  have h := List.takeWhile_append_dropWhile (p := fun b => ([48] : B).contains b) (l := l.reverse)
  have hr : l.reverse.takeWhile (fun b => ([48] : B).contains b) = List.replicate (l.reverse.takeWhile (fun b => ([48] : B).contains b)).length 48 := by
    apply List.eq_replicate_of_mem
    intro b hb
    have := List.all_takeWhile (p := fun b => ([48] : B).contains b) (l := l.reverse)
    rw [List.all_eq_true] at this
    have := this b hb
    simpa using this
  have h2 := congrArg List.reverse h
  rw [List.reverse_append, List.reverse_reverse] at h2
  rw [hr, List.reverse_replicate] at h2
  exact h2.symm
theorem quick_num {l : B} (hd : ∀ c ∈ l, isD c = true) : ∃ t : Nat, (cutN (trimR [48] l) + t = l.length) ∧ cutV (trimR [48] l) * pTen t ≤ nv 10 l ∧ nv 10 l ≤ (cutV (trimR [48] l) + 1) * pTen t ∧ (cutMr (trimR [48] l) = false → nv 10 l = cutV (trimR [48] l) * pTen t) ∧ 0 ≤ cutV (trimR [48] l) ∧ cutV (trimR [48] l) ≤ 9999999999999999999 := by
  obtain ⟨z, hz⟩ := trimR_split l
  have hd' : ∀ c ∈ trimR [48] l, isD c = true := fun c hc => hd c (by rw [hz]; exact List.mem_append_left _ hc)
  have hlen : l.length = (trimR [48] l).length + z := by
    have := congrArg List.length hz
    rw [List.length_append, List.length_replicate] at this; exact this
  have hnv : nv 10 l = dv (trimR [48] l) * pTen z := by
    have h1 := congrArg (nv 10) hz
    rw [nv_app, List.length_replicate, nv_zeros (l := List.replicate z 48) (fun c hc => (List.mem_replicate.mp hc).2), Int.add_zero, nv_dv hd'] at h1
    exact h1
  generalize trimR [48] l = m at *
  obtain ⟨r, h1, h2, h3, h4, h5, h6, h7, _⟩ := cut_num (allD_iff.mpr hd')
  refine ⟨m.length - cutN m + z, by omega, ?_, ?_, ?_, h6, h7⟩
  all_goals rw [hnv, h1, pTen_add]
  · have e : (10 : Int) ^ (m.length - cutN m) = pTen (m.length - cutN m) := rfl
    rw [e] at h3 ⊢
    rw [← Int.mul_assoc]
    exact Int.mul_le_mul_of_nonneg_right (by omega) (Int.le_of_lt (pTen_pos z))
  · have e : (10 : Int) ^ (m.length - cutN m) = pTen (m.length - cutN m) := rfl
    rw [e] at h3 ⊢
    rw [← Int.mul_assoc]
    refine Int.mul_le_mul_of_nonneg_right ?_ (Int.le_of_lt (pTen_pos z))
    rw [Int.add_mul]; omega
  · intro hm
    have : r = 0 := by
      apply Decidable.byContradiction
      intro hc
      rw [h4.mpr hc] at hm
      cases hm
    rw [this, Int.add_zero, Int.mul_assoc]
    rfl
theorem quick_ex {l : B} {e b E : Int} (hd : ∀ c ∈ l, isD c = true) (h1 : ExIs (cutV (trimR [48] l)) (e + l.length - cutN (trimR [48] l)) b E) (h2 : cutMr (trimR [48] l) = true → ExIs (cutV (trimR [48] l) + 1) (e + l.length - cutN (trimR [48] l)) b E) : ExIs (nv 10 l) e b E := by
  obtain ⟨t, q1, q2, q3, q4, q5, q6⟩ := quick_num hd
  have i : e + (l.length : Int) - (cutN (trimR [48] l) : Int) = e + t := by omega
  rw [i] at h1 h2
  cases hm : cutMr (trimR [48] l)
  · rw [q4 hm]
    exact (ex_shift t).mpr h1
  · exact ex_between (Int.mul_nonneg q5 (Int.le_of_lt (pTen_pos t))) q2 q3 ((ex_shift t).mpr h1) ((ex_shift t).mpr (h2 hm))
end Go.Proofs.YtlaendbngekghaaGreatDoor

/- package atof: slowRoad, first, shortened, strings.TrimRight. -/
namespace Go.Proofs.YtlaendbngekghaaGreatDoor
open Go.ChangeShapes Go.WideShapes Go.ChangeAt Go.RowKit
open Na Ar Lx
set_option linter.unusedVariables false
/-- a slice of one road, the slow one, over a numeral that lies at g -/
def Slow1 (w : World) (a : Addr) (g : Nat) : Prop := w.cell? a = some (.func (.func 56) #[] #[.pointer (some ⟨g, 0, none⟩)])
set_option maxHeartbeats 1600000 in
set_option maxRecDepth 100000 in
theorem slowRoad_any (k : Int) (ng : Bool) (num : ByteArray) (e : Int) (den : ByteArray) (w : World) :
    Calls Tryz.prog 23 #[.agg (numC k ng num e den)] w fun r w' => ∃ g h, r = .returned (.slice (some ⟨h, 0, none⟩) 1 1) ∧ Slow1 w' ⟨h, 0, none⟩ g ∧ Bk w' g 30 (numC k ng num e den) ∧ Below w.heap.size w w' := by
  have hb0 : Below w.heap.size w (w.alloc (.cells (numC k ng num e den) 30)) := (Below.refl _ w).alloc (Nat.le_refl _) _
  have B0 := Bk.new w 30 (numC k ng num e den)
  obtain ⟨w0, hw0⟩ : ∃ w0, w0 = w.alloc (.cells (numC k ng num e den) 30) := ⟨_, rfl⟩
  rw [← hw0] at hb0 B0
  obtain ⟨g, hg⟩ : ∃ g, g = w.heap.size := ⟨_, rfl⟩
  rw [← hg] at B0
  go_enter Tryz.func23, Tryz.ntmps23
  go_wp2
  rw [← hw0, ← hg]
  have hs : w0.heap.size = g + 1 := by rw [hw0, hg]; simp
  go_ret
  refine ⟨g, g + 1, rfl, ?_, B0.later ((Below.refl _ _).alloc (Nat.le_refl _) _), ?_⟩
  · unfold Slow1
    rw [← hs]
    exact (Bk.new w0 _ _).cell 0 rfl
  · rw [← hg] at hb0
    exact hb0.alloc (by omega) _
set_option maxHeartbeats 1600000 in
set_option maxRecDepth 100000 in
/-- one road, which is sure -/
theorem first1_any {h g : Nat} {w : World} (hc : Slow1 w ⟨h, 0, none⟩ g) {Q : Int → Int → Prop} (hs : Calls Tryz.prog 56 #[.pointer (some ⟨g, 0, none⟩)] w fun r w' => ∃ b E, r = .returned (.tuple #[.int .u64 b, .int .i64 E]) ∧ Q b E ∧ U b ∧ Below w.heap.size w w') :
    Calls Tryz.prog 54 #[.slice (some ⟨h, 0, none⟩) 1 1] w fun r w' => ∃ b E, r = .returned (.tuple #[.int .u64 b, .int .i64 E]) ∧ Q b E ∧ U b ∧ Below w.heap.size w w' := by
  unfold Slow1 at hc
  go_enter Tryz.func54, Tryz.ntmps54
  go_wp2_with fail
  refine wp_loop_rounds 2 ?_
  rw [rounds_succ]
  go_wp2_with (go_at_call 56; refine hs.mono ?_; rintro r w1 ⟨b, E, rfl, hq, ub, hb⟩; have HQ : Hid (Q b E) := hq; clear hq)
  · go_ret2
    exact ⟨_, _, rfl, HQ.out, ub, hb⟩
  · rw [rounds_succ]
    go_wp2
    go_ret2
    exact ⟨_, _, rfl, HQ.out, ub, hb⟩
/-- three roads, the last of which is sure -/
structure Roads3 (w : World) (h g gm ge gr : Nat) : Prop where
  one : w.cell? ⟨h, 0, none⟩ = some (.func (.func 64) #[] #[.pointer (some ⟨gm, 0, none⟩), .pointer (some ⟨ge, 0, none⟩), .pointer (some ⟨gr, 0, none⟩)])
  two : w.cell? ⟨h, 1, none⟩ = some (.func (.func 65) #[] #[.pointer (some ⟨gm, 0, none⟩), .pointer (some ⟨ge, 0, none⟩), .pointer (some ⟨gr, 0, none⟩)])
  three : w.cell? ⟨h, 2, none⟩ = some (.func (.func 56) #[] #[.pointer (some ⟨g, 0, none⟩)])
theorem Roads3.later {w w' : World} {h g gm ge gr : Nat} (r : Roads3 w h g gm ge gr) (hb : Below w.heap.size w w') : Roads3 w' h g gm ge gr := by
  have hl : h < w.heap.size := cell_lt7 r.one
  refine ⟨?_, ?_, ?_⟩
  · rw [hb.cell (p := ⟨h, 0, none⟩) hl]; exact r.one
  · rw [hb.cell (p := ⟨h, 1, none⟩) hl]; exact r.two
  · rw [hb.cell (p := ⟨h, 2, none⟩) hl]; exact r.three
set_option maxHeartbeats 3200000 in
set_option maxRecDepth 100000 in
theorem first3_any {h g gm ge gr c : Nat} {w : World} (hr : Roads3 w h g gm ge gr) {Q1 Q2 Q : Int → Int → Prop}
    (h1 : ∀ w1, Below w.heap.size w w1 → Calls Tryz.prog 64 #[.pointer (some ⟨gm, 0, none⟩), .pointer (some ⟨ge, 0, none⟩), .pointer (some ⟨gr, 0, none⟩)] w1 fun r w' => ∃ b E, r = .returned (.tuple #[.int .u64 b, .int .i64 E]) ∧ Q1 b E ∧ U b ∧ Below w1.heap.size w1 w')
    (h2 : ∀ w1, Below w.heap.size w w1 → Calls Tryz.prog 65 #[.pointer (some ⟨gm, 0, none⟩), .pointer (some ⟨ge, 0, none⟩), .pointer (some ⟨gr, 0, none⟩)] w1 fun r w' => ∃ b E, r = .returned (.tuple #[.int .u64 b, .int .i64 E]) ∧ Q2 b E ∧ U b ∧ Below w1.heap.size w1 w')
    (h3 : ∀ w1, Below w.heap.size w w1 → Calls Tryz.prog 56 #[.pointer (some ⟨g, 0, none⟩)] w1 fun r w' => ∃ b E, r = .returned (.tuple #[.int .u64 b, .int .i64 E]) ∧ Q b E ∧ U b ∧ Below w1.heap.size w1 w')
    (k1 : ∀ b E, Q1 b E → E ≠ 100 → Q b E) (k2 : ∀ b E, Q2 b E → E ≠ 100 → Q b E) :
    Calls Tryz.prog 54 #[.slice (some ⟨h, 0, none⟩) 3 c] w fun r w' => ∃ b E, r = .returned (.tuple #[.int .u64 b, .int .i64 E]) ∧ Q b E ∧ U b ∧ Below w.heap.size w w' := by
  have hcl : ∀ w1, Below w.heap.size w w1 → Roads3 w1 h g gm ge gr := fun w1 q => hr.later q
  obtain ⟨x0, x1, x2⟩ := hr
  have p1 := h1 w (Below.refl _ _)
  have K1 : Hid _ := k1
  have K2 : Hid _ := k2
  clear k1 k2
  go_enter Tryz.func54, Tryz.ntmps54
  go_wp2_with fail
  refine wp_loop_rounds 4 ?_
  rw [rounds_succ]
  go_wp2_with fail
  refine p1.mono ?_
  rintro r w1 ⟨b, E, rfl, hq, ub, hb⟩
  clear p1 h1
  by_cases hE : E = 100
  · subst hE
    clear hq
    obtain ⟨y0, y1, y2⟩ := hcl w1 hb
    have p2 := h2 w1 hb
    clear h2 x0 x1 x2
    go_wp2_with fail
    rw [rounds_succ]
    go_wp2_with fail
    refine p2.mono ?_
    rintro r w2 ⟨b2, E2, rfl, hq, ub2, hb2⟩
    clear p2
    have B := hb.trans (hb2.mono hb.size)
    by_cases hE : E2 = 100
    · subst hE
      clear hq
      obtain ⟨z0, z1, z2⟩ := hcl w2 B
      have p3 := h3 w2 B
      clear h3 y0 y1 y2 hb hb2
      go_wp2_with fail
      rw [rounds_succ]
      go_wp2_with fail
      refine p3.mono ?_
      rintro r w3 ⟨b3, E3, rfl, hq, ub3, hb3⟩
      have HQ : Hid (Q b3 E3) := hq
      have B := B.trans (hb3.mono B.size)
      clear hq p3 hcl
      go_wp2_with fail
      · go_ret2
        exact ⟨_, _, rfl, HQ.out, ub3, B⟩
      · rw [rounds_succ]
        go_wp2
        go_ret2
        exact ⟨_, _, rfl, HQ.out, ub3, B⟩
    · have HQ : Hid (Q b2 E2) := K2.out _ _ hq hE
      have t : (E2 != 100) = true := bne_yes hE
      clear hq hE h3 hcl
      go_wp2_with fail
      go_ret2
      exact ⟨_, _, rfl, HQ.out, ub2, B⟩
  · have HQ : Hid (Q b E) := K1.out _ _ hq hE
    have t : (E != 100) = true := bne_yes hE
    clear hq hE h2 h3 hcl
    go_wp2_with fail
    go_ret2
    exact ⟨_, _, rfl, HQ.out, ub, hb⟩
/-! ### strings.TrimRight at zeros -/
set_option maxHeartbeats 1600000 in
set_option maxRecDepth 100000 in
theorem trimRight_zero (s : ByteArray) (hs : s.size ≤ 9223372036854775807) (h0 : 0 < s.size) (w : World) :
    Calls Tryz.prog 62 #[.string s, .string ⟨#[48]⟩] w fun e w' => e = .returned (.string (str (trimR [48] s.data.toList))) ∧ w' = w := by
  have hemps : s.toList.isEmpty = false := by
    rw [Lib.toList_data]
    cases h : s.data.toList with
    | nil => have := Lib.size_eq s; rw [h, List.length_nil] at this; omega
    | cons _ _ => rfl
  have hemp : (ByteArray.mk #[48]).toList.isEmpty = false := by rw [Lib.toList_data]; rfl
  have hx : ∀ h, (ByteArray.mk #[48])[0]'h = 48 := fun _ => rfl
  go_enter Tryz.func62, Tryz.ntmps62
  go_wp2_with (go_at_call 106; refine (trimRightByte_any _ hs 48 _).mono ?_; rintro e w' ⟨rfl, rfl⟩)
  go_ret
  exact ⟨rfl, rfl⟩
theorem perDigit_any (k : Int) (w : World) : Calls Tryz.prog 105 #[.int .i64 k] w fun r w' => r = .returned (.int .i64 (perD k)) ∧ w' = w := by
  by_cases hk : k = 2
  · have HP : Hid (perD k = 4) := by show perD k = 4; unfold perD; rw [if_pos hk]
    have t : (k == 2) = true := beq_of hk
    clear hk
    go_enter Tryz.func105, Tryz.ntmps105
    go_wp2
    go_ret
    exact ⟨by rw [HP.out]; rfl, rfl⟩
  · have HP : Hid (perD k = 1) := by show perD k = 1; unfold perD; rw [if_neg hk]
    have t : (k == 2) = false := beq_no hk
    clear hk
    go_enter Tryz.func105, Tryz.ntmps105
    go_wp2
    go_ret
    exact ⟨by rw [HP.out]; rfl, rfl⟩
end Go.Proofs.YtlaendbngekghaaGreatDoor


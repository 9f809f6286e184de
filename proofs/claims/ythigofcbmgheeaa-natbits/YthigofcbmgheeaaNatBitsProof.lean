/-
  THE SHELL OF A PROOF OF 'Rows.NatBitsSaid' ('plumb/plumblaw02.NatBits'), WRITTEN BY PROGRAM (proof-skeleton.mjs, third state) off the guide's own print for that function. Not trusted: Lean checks it.
  YOURS IS THE HOLE MARKED 'HOLE' (it bears 'sorry'). ALL ELSE IS THE GUIDE's OWN WAY (howto/template/XProofs.lean; Derived/Test/ChunkProofs.lean for 'Below') at this function's number and types: leave it.
-/
import Derived.Test.YthigofcbmgheeaaRows
import Derived.WalkKit
import Derived.ProofKit
import Derived.OpenShut
import Derived.ShutString
import Derived.WalkLawsBesides
import Derived.WalkSpells
import Derived.Deep.RegionWith
import Derived.Deep.DeepCutAuto
import Derived.Deep.DeepFit
import Derived.Test.YthigofcbmgheeaaLawBits
import Derived.ChangeOld
import Derived.Below
namespace Go.Proofs.Ythigofcbmgheeaa.natBits
open Go.ChangeShapes Go.WideShapes Go.ChangeAt Go.RowKit
open Go.ChangeMaps (open_string shut_string)
set_option linter.unusedVariables false

theorem own : ownKnob Try.prog.godebug = none := by kernel_rfl
theorem laidOut : laidOutB Try.prog = true := by kernel_rfl

/-- WHAT THE WALK IS TOLD OF A SLICE OF INTEGERS THAT CAME IN: it is nil; or it leads to a row of 'cap' cells, the numbers 'zs' (the first 'len' are its elements, the rest its spare room), each fitting its kind. -/
def IsRow (k : IntKind) (w : World) (a : Option Addr) (len cap : Nat) (zs : List Int) : Prop :=
  (a = none ∧ len = 0 ∧ cap = 0 ∧ zs = []) ∨
  ∃ x, a = some x ∧ len ≤ cap ∧ cap ≤ maxLen ∧ zs.length = cap ∧ (∀ i, i < zs.length → w.cell? (x.add i) = some (.int k (zs.getD i 0))) ∧ ∀ n ∈ zs, (Lit.int k n).wf = true

open Na Ar
/-! ### STEP 1: THE WALK: the Go text returns true, AND WRITES NOTHING THAT WAS THERE: 'Below w.heap.size w w'' (Derived/Below.lean: '.refl', '.alloc', '.drew', '.setCell' at a new block, '.trans'). Open each 'IsRow' by 'rcases' AHEAD of 'go_enter'; part every test ahead of the walk. -/
set_option maxHeartbeats 4000000 in
set_option maxRecDepth 100000 in
theorem walk (a0 : Option Addr) (len0 cap0 : Nat) (z0 : List Int) (w : World) (w0 : IsRow .u64 w a0 len0 cap0 z0) :
    Calls Try.prog 6 #[.slice a0 len0 cap0] w fun e w' => e = .returned (.bool true) ∧ Below w.heap.size w w' := by
  have q0 := row_of w0
  obtain ⟨hr0, hx0, hm0⟩ := q0
  clear w0
  generalize z0.take len0 = x0 at *
  have B_0 := Below.refl w.heap.size w
  go_enter Try.func6, Try.ntmps6
  go_wp2_with fail
  refine (cutQ hr0 hx0 hm0).mono ?_
  rintro e w1' ⟨ca1, cn1, cc1, X1, rfl, cr1, cm1, ct1, cl1, _, hb1⟩
  clear hr0
  have B_1 := B_0.trans (hb1.mono B_0.size)
  clear B_0 hb1
  clear hx0 hm0
  by_cases hn6 : 6 < cn1
  · have hcc : 6 ≤ cc1 := by have := cr1.2.1; omega
    have r6 := cr1.cut (m := 6) (by omega)
    have w6 : Ws (X1.take 6) := cm1.ws.take 6
    generalize X1.take 6 = Y at *
    clear cr1 cm1 ct1
    obtain ⟨A, hA⟩ : ∃ A, A = num Y := ⟨_, rfl⟩
    have nA : Nm Y A := ⟨w6, hA.symm, by rw [r6.1.1]; omega⟩
    have lA : Lt A 6 := nA.lt (by rw [r6.1.1]; omega)
    have hAT : A < 2 ^ (454) := by have h1 := (nA.lt (k := 6) (by rw [r6.1.1]; omega)).2; rw [wpow2] at h1; have := p2mono (show 64 * 6 ≤ 454 by omega); omega
    have HAT : Hid (A < 2 ^ (454)) := hAT
    have A0 := lA.1
    clear hA hAT
    go_wp2_with fail
    refine (alive_any _).mono ?_
    rintro e w2 ⟨rfl, hb2⟩
    have r6_2 := r6.later hb2
    have B_2 := B_1.trans (hb2.mono B_1.size)
    clear r6 B_1 hb2
    have n0 : Nm [] (A % 2 ^ 0) := by simpa [Int.emod_one] using Nm.nil
    have e0 : Hid (([] : List Int) = words (A % 2 ^ 0)) := by show _ = _; simp [Int.emod_one]; exact dig_zero _
    go_wp2
    go_loopw [3, 4, 5, 6, 7, 8, 9, 10] (fun s f l i _ _ _ _ wr => ∃ (k : Nat) (F L : Int) (a' : Option Addr) (n' c' : Nat) (l' : List Int), i = .int .i64 k ∧ k ≤ 454 ∧ f = .int .i64 F ∧ l = .int .i64 L ∧ s = .slice a' n' c' ∧ RowC wr a' n' c' l' ∧ Nm l' (A % 2 ^ k) ∧ Hid (l' = words (A % 2 ^ k)) ∧ BitJ A k F L ∧ Below w2.heap.size w2 wr) (fun _ _ _ i _ _ _ _ _ => 454 - (intOf i).toNat)
    case atStart => exact ⟨0, -1, -1, none, 0, 0, [], rfl, by omega, rfl, rfl, rfl, rowC_nil _, n0, e0, bitJ_start A, Below.refl _ _⟩
    case round =>
      obtain ⟨k, F, L, a', n', c', l', rfl, hk, rfl, rfl, rfl, rs, ms, es, hJ, hnx⟩ := hrel
      clear n0 e0
      have rx := r6_2.later hnx
      have hJb := hJ.2.2
      have fb0 : -1 ≤ F := hJb.1
      have fb1 : F < k := hJb.2.1
      have lb0 : -1 ≤ L := hJb.2.2.1
      have lb1 : L < k := hJb.2.2.2
      clear hJb
      by_cases hlt : k < 454
      · have hms := mod_step A k
        by_cases hb : A / 2 ^ k % 2 = 0
        · have hJ' := bitJ_zero hJ hb
          rw [hb, Int.mul_zero, Int.add_zero] at hms
          have hq := bitQ rx nA k (by omega) hb
          rw [← hms] at ms es
          clear hJ hb hms
          go_wp2_with fail
          refine hq.mono ?_
          rintro e w41 ⟨rfl, hb41⟩
          have rs1 := rs.later hb41
          have hn1 := hnx.trans (hb41.mono hnx.size)
          clear rs rx hnx hq hb41
          go_wp2
          go_roundw
          case rel => exact ⟨k + 1, F, L, a', n', c', l', by go_num, by omega, rfl, rfl, rfl, rs1, ms, es, hJ', hn1⟩
          case measure => simp [intOf]; omega
        · have hb1 : A / 2 ^ k % 2 = 1 := by omega
          have hJ' := bitJ_one hJ hb1
          have hms' : A % 2 ^ k + 1 * 2 ^ k = A % 2 ^ (k + 1) := by rw [hms, hb1]; omega
          have hq := bitQ rx nA k (by omega) hb1
          have pk := p2pos k
          have lp : Lt (1 * 2 ^ k) 10 := (lt_one.pow2 (t := k)).mono (by omega)
          have r0 := Int.emod_nonneg A (show (2 : Int) ^ k ≠ 0 by omega)
          have hle : A % 2 ^ (k + 1) ≤ A := by have h1 := Int.mul_ediv_add_emod A (2 ^ (k + 1)); have h2 := Int.mul_nonneg (Int.le_of_lt (p2pos (k + 1))) (Int.ediv_nonneg A0 (Int.le_of_lt (p2pos (k + 1)))); omega
          have lS : Lt (A % 2 ^ k + 1 * 2 ^ k) 6 := lA.le (by omega) (by omega)
          have HMS : Hid (A % 2 ^ k + 1 * 2 ^ k = A % 2 ^ (k + 1)) := hms'
          clear hJ hb hms hms' hle r0 pk hb1
          go_wp2_with fail
          refine hq.mono ?_
          rintro e w41 ⟨rfl, hb41⟩
          have rs1 := rs.later hb41
          have hn1 := hnx.trans (hb41.mono hnx.size)
          clear rs rx hnx hq hb41
          go_wp2_with fail
          have al := alloc_below (w := w41) (.cells #[.int .u64 1] 36)
          have lr := rowC_one w41 1 36
          have rs2 := rs1.later al
          have hn2 := hn1.trans (al.mono hn1.size)
          clear rs1 hn1 al
          refine (shlQ lr (Nm.one (by omega)) k (by omega) lp (by omega)).mono ?_
          rintro e w42 ⟨a42, n42, c42, l42, rfl, r42, m42, e42, hb42⟩
          have rs3 := rs2.later hb42
          have hn3 := hn2.trans (hb42.mono hn2.size)
          clear rs2 hn2 hb42 lr
          go_wp2_with fail
          refine (lawAddQ rs3 r42 ms m42 lS (by omega)).mono ?_
          rintro e w43 ⟨a43, n43, c43, l43, rfl, r43, m43, e43, hb43⟩
          have hn4 := hn3.trans (hb43.mono hn3.size)
          rw [HMS.out] at m43 e43
          clear rs3 r42 ms m42 e42 es hn3 hb43 lS lp
          by_cases hF : F < 0
          · rw [if_pos hF] at hJ'
            go_wp2
            go_roundw
            case rel => exact ⟨k + 1, k, k, a43, n43, c43, l43, by go_num, by omega, rfl, rfl, rfl, r43, m43, e43, hJ', hn4⟩
            case measure => simp [intOf]; omega
          · rw [if_neg hF] at hJ'
            go_wp2
            go_roundw
            case rel => exact ⟨k + 1, F, k, a43, n43, c43, l43, by go_num, by omega, rfl, rfl, rfl, r43, m43, e43, hJ', hn4⟩
            case measure => simp [intOf]; omega
      · have hkT : k = 454 := by omega
        have hAk : A < 2 ^ k := by rw [hkT]; exact HAT.out
        obtain ⟨q1, q2⟩ := bitJ_end hJ A0 hAk
        have hmo : A % 2 ^ k = A := Int.emod_eq_of_lt A0 hAk
        rw [hmo] at ms es
        have Bz := B_2.trans (hnx.mono B_2.size)
        have Q1 : Hid (bitsN A = L + 1) := q1
        obtain ⟨Z, hZ, hZ2⟩ : ∃ Z, zerosN A = Z ∧ ((0 < F ∧ Z = F) ∨ (¬ 0 < F ∧ Z = 0)) := by
          rw [q2]
          by_cases g : 0 < F
          · exact ⟨F, by rw [if_pos g], Or.inl ⟨g, rfl⟩⟩
          · exact ⟨0, by rw [if_neg g], Or.inr ⟨g, rfl⟩⟩
        have HZ : Hid (zerosN A = Z) := hZ
        clear hJ hAk hmo hkT hZ q1 q2 hnx
        go_wp2_with fail
        refine (normQ rx nA lA (by omega)).mono ?_
        rintro e w51 ⟨a51, n51, c51, l51, rfl, r51, m51, e51, hb51⟩
        have rs5 := rs.later hb51
        have rx5 := rx.later hb51
        have B5 := Bz.trans (hb51.mono Bz.size)
        clear rs rx Bz hb51
        go_wp2_with fail
        refine (sameQ rs5 r51 ms m51 es e51 rfl).mono ?_
        rintro e w52 ⟨rfl, hb52⟩
        have rx6 := rx5.later hb52
        have B6 := B5.trans (hb52.mono B5.size)
        clear rs5 r51 ms m51 es e51 rx5 B5 hb52
        go_wp2_with fail
        refine (bitsQ rx6 nA Q1.out).mono ?_
        rintro e w53 ⟨rfl, hb53⟩
        have rx7 := rx6.later hb53
        have B7 := B6.trans (hb53.mono B6.size)
        clear rx6 B6 hb53
        have tl : (L + 1 == L + 1) = true := by simp
        go_wp2_with fail
        refine (zerosQ rx7 nA HZ.out).mono ?_
        rintro e w54 ⟨rfl, hb54⟩
        have rx8 := rx7.later hb54
        have B8 := B7.trans (hb54.mono B7.size)
        clear rx7 B7 hb54
        rcases hZ2 with ⟨g, rfl⟩ | ⟨g, rfl⟩
        all_goals
          go_wp2_with fail
          refine (bitNegQ rx8 nA).mono ?_
          rintro e w55 ⟨rfl, hb55⟩
          have B9 := B8.trans (hb55.mono B8.size)
          clear rx8 B8 hb55
          go_wp2
          go_ret
          exact ⟨rfl, B9⟩
  · have w6 : Ws X1 := cm1.ws
    clear cm1 ct1
    obtain ⟨A, hA⟩ : ∃ A, A = num X1 := ⟨_, rfl⟩
    have nA : Nm X1 A := ⟨w6, hA.symm, by rw [cr1.1.1]; omega⟩
    have lA : Lt A 6 := nA.lt (by rw [cr1.1.1]; omega)
    have hAT : A < 2 ^ (64 * cn1 + 70) := by have h1 := (nA.lt (k := cn1) (by rw [cr1.1.1]; omega)).2; rw [wpow2] at h1; have := p2mono (show 64 * cn1 ≤ 64 * cn1 + 70 by omega); omega
    have HAT : Hid (A < 2 ^ (64 * cn1 + 70)) := hAT
    have A0 := lA.1
    clear hA hAT
    go_wp2_with fail
    refine (alive_any _).mono ?_
    rintro e w2 ⟨rfl, hb2⟩
    have cr1_2 := cr1.later hb2
    have B_2 := B_1.trans (hb2.mono B_1.size)
    clear cr1 B_1 hb2
    have n0 : Nm [] (A % 2 ^ 0) := by simpa [Int.emod_one] using Nm.nil
    have e0 : Hid (([] : List Int) = words (A % 2 ^ 0)) := by show _ = _; simp [Int.emod_one]; exact dig_zero _
    go_wp2
    go_loopw [3, 4, 5, 6, 7, 8, 9, 10] (fun s f l i _ _ _ _ wr => ∃ (k : Nat) (F L : Int) (a' : Option Addr) (n' c' : Nat) (l' : List Int), i = .int .i64 k ∧ k ≤ 64 * cn1 + 70 ∧ f = .int .i64 F ∧ l = .int .i64 L ∧ s = .slice a' n' c' ∧ RowC wr a' n' c' l' ∧ Nm l' (A % 2 ^ k) ∧ Hid (l' = words (A % 2 ^ k)) ∧ BitJ A k F L ∧ Below w2.heap.size w2 wr) (fun _ _ _ i _ _ _ _ _ => 64 * cn1 + 70 - (intOf i).toNat)
    case atStart => exact ⟨0, -1, -1, none, 0, 0, [], rfl, by omega, rfl, rfl, rfl, rowC_nil _, n0, e0, bitJ_start A, Below.refl _ _⟩
    case round =>
      obtain ⟨k, F, L, a', n', c', l', rfl, hk, rfl, rfl, rfl, rs, ms, es, hJ, hnx⟩ := hrel
      clear n0 e0
      have rx := cr1_2.later hnx
      have hJb := hJ.2.2
      have fb0 : -1 ≤ F := hJb.1
      have fb1 : F < k := hJb.2.1
      have lb0 : -1 ≤ L := hJb.2.2.1
      have lb1 : L < k := hJb.2.2.2
      clear hJb
      by_cases hlt : k < 64 * cn1 + 70
      · have hms := mod_step A k
        by_cases hb : A / 2 ^ k % 2 = 0
        · have hJ' := bitJ_zero hJ hb
          rw [hb, Int.mul_zero, Int.add_zero] at hms
          have hq := bitQ rx nA k (by omega) hb
          rw [← hms] at ms es
          clear hJ hb hms
          go_wp2_with fail
          refine hq.mono ?_
          rintro e w41 ⟨rfl, hb41⟩
          have rs1 := rs.later hb41
          have hn1 := hnx.trans (hb41.mono hnx.size)
          clear rs rx hnx hq hb41
          go_wp2
          go_roundw
          case rel => exact ⟨k + 1, F, L, a', n', c', l', by go_num, by omega, rfl, rfl, rfl, rs1, ms, es, hJ', hn1⟩
          case measure => simp [intOf]; omega
        · have hb1 : A / 2 ^ k % 2 = 1 := by omega
          have hJ' := bitJ_one hJ hb1
          have hms' : A % 2 ^ k + 1 * 2 ^ k = A % 2 ^ (k + 1) := by rw [hms, hb1]; omega
          have hq := bitQ rx nA k (by omega) hb1
          have pk := p2pos k
          have lp : Lt (1 * 2 ^ k) 10 := (lt_one.pow2 (t := k)).mono (by omega)
          have r0 := Int.emod_nonneg A (show (2 : Int) ^ k ≠ 0 by omega)
          have hle : A % 2 ^ (k + 1) ≤ A := by have h1 := Int.mul_ediv_add_emod A (2 ^ (k + 1)); have h2 := Int.mul_nonneg (Int.le_of_lt (p2pos (k + 1))) (Int.ediv_nonneg A0 (Int.le_of_lt (p2pos (k + 1)))); omega
          have lS : Lt (A % 2 ^ k + 1 * 2 ^ k) 6 := lA.le (by omega) (by omega)
          have HMS : Hid (A % 2 ^ k + 1 * 2 ^ k = A % 2 ^ (k + 1)) := hms'
          clear hJ hb hms hms' hle r0 pk hb1
          go_wp2_with fail
          refine hq.mono ?_
          rintro e w41 ⟨rfl, hb41⟩
          have rs1 := rs.later hb41
          have hn1 := hnx.trans (hb41.mono hnx.size)
          clear rs rx hnx hq hb41
          go_wp2_with fail
          have al := alloc_below (w := w41) (.cells #[.int .u64 1] 36)
          have lr := rowC_one w41 1 36
          have rs2 := rs1.later al
          have hn2 := hn1.trans (al.mono hn1.size)
          clear rs1 hn1 al
          refine (shlQ lr (Nm.one (by omega)) k (by omega) lp (by omega)).mono ?_
          rintro e w42 ⟨a42, n42, c42, l42, rfl, r42, m42, e42, hb42⟩
          have rs3 := rs2.later hb42
          have hn3 := hn2.trans (hb42.mono hn2.size)
          clear rs2 hn2 hb42 lr
          go_wp2_with fail
          refine (lawAddQ rs3 r42 ms m42 lS (by omega)).mono ?_
          rintro e w43 ⟨a43, n43, c43, l43, rfl, r43, m43, e43, hb43⟩
          have hn4 := hn3.trans (hb43.mono hn3.size)
          rw [HMS.out] at m43 e43
          clear rs3 r42 ms m42 e42 es hn3 hb43 lS lp
          by_cases hF : F < 0
          · rw [if_pos hF] at hJ'
            go_wp2
            go_roundw
            case rel => exact ⟨k + 1, k, k, a43, n43, c43, l43, by go_num, by omega, rfl, rfl, rfl, r43, m43, e43, hJ', hn4⟩
            case measure => simp [intOf]; omega
          · rw [if_neg hF] at hJ'
            go_wp2
            go_roundw
            case rel => exact ⟨k + 1, F, k, a43, n43, c43, l43, by go_num, by omega, rfl, rfl, rfl, r43, m43, e43, hJ', hn4⟩
            case measure => simp [intOf]; omega
      · have hkT : k = 64 * cn1 + 70 := by omega
        have hAk : A < 2 ^ k := by rw [hkT]; exact HAT.out
        obtain ⟨q1, q2⟩ := bitJ_end hJ A0 hAk
        have hmo : A % 2 ^ k = A := Int.emod_eq_of_lt A0 hAk
        rw [hmo] at ms es
        have Bz := B_2.trans (hnx.mono B_2.size)
        have Q1 : Hid (bitsN A = L + 1) := q1
        obtain ⟨Z, hZ, hZ2⟩ : ∃ Z, zerosN A = Z ∧ ((0 < F ∧ Z = F) ∨ (¬ 0 < F ∧ Z = 0)) := by
          rw [q2]
          by_cases g : 0 < F
          · exact ⟨F, by rw [if_pos g], Or.inl ⟨g, rfl⟩⟩
          · exact ⟨0, by rw [if_neg g], Or.inr ⟨g, rfl⟩⟩
        have HZ : Hid (zerosN A = Z) := hZ
        clear hJ hAk hmo hkT hZ q1 q2 hnx
        go_wp2_with fail
        refine (normQ rx nA lA (by omega)).mono ?_
        rintro e w51 ⟨a51, n51, c51, l51, rfl, r51, m51, e51, hb51⟩
        have rs5 := rs.later hb51
        have rx5 := rx.later hb51
        have B5 := Bz.trans (hb51.mono Bz.size)
        clear rs rx Bz hb51
        go_wp2_with fail
        refine (sameQ rs5 r51 ms m51 es e51 rfl).mono ?_
        rintro e w52 ⟨rfl, hb52⟩
        have rx6 := rx5.later hb52
        have B6 := B5.trans (hb52.mono B5.size)
        clear rs5 r51 ms m51 es e51 rx5 B5 hb52
        go_wp2_with fail
        refine (bitsQ rx6 nA Q1.out).mono ?_
        rintro e w53 ⟨rfl, hb53⟩
        have rx7 := rx6.later hb53
        have B7 := B6.trans (hb53.mono B6.size)
        clear rx6 B6 hb53
        have tl : (L + 1 == L + 1) = true := by simp
        go_wp2_with fail
        refine (zerosQ rx7 nA HZ.out).mono ?_
        rintro e w54 ⟨rfl, hb54⟩
        have rx8 := rx7.later hb54
        have B8 := B7.trans (hb54.mono B7.size)
        clear rx7 B7 hb54
        rcases hZ2 with ⟨g, rfl⟩ | ⟨g, rfl⟩
        all_goals
          go_wp2_with fail
          refine (bitNegQ rx8 nA).mono ?_
          rintro e w55 ⟨rfl, hb55⟩
          have B9 := B8.trans (hb55.mono B8.size)
          clear rx8 B8 hb55
          go_wp2
          go_ret
          exact ⟨rfl, B9⟩

/-! ### THE ROW's STEP: WRITTEN OUT: LEAVE IT -/
set_option maxRecDepth 100000 in
theorem lifted (os : Os) (started : os.Started) (H : Type) (enc : TypeId × Value → H) :
    ReturnsInHanded {} Try.checked os 6 .any (Rows.natBitsSpec.pre6 enc Try.prog Try.f6 Rows.natBitsRow.domain false) (Rows.natBitsSpec.post enc Try.prog Try.f6 false true false false) := by
  refine returnsInHanded_of_change (C := Try.checked) own started (by kernel_rfl) Try.func6
    (ChangeSpec.witness6 (enc := enc) (C := Try.checked) false ⟨#[], #[.slice none 0 0], []⟩ 8 (by kernel_rfl) (by kernel_rfl) (by kernel_rfl) (by kernel_rfl)) ?_
  intro W base args ds gs before hval0 hW hcnd _
  have hval : ∀ (j : Nat) t v, Try.f6.params[j]? = some t → args[j]? = some v → Value.okWide Try.prog W .any base t v := hval0
  have hW' := hW
  obtain ⟨p, q, hA0, hV, rfl, hfz, hnd⟩ := hW
  have hA : DataW.TrodAll enc Try.prog W 0 (fun _ => true) true Try.f6.params.toList args.toList ds p := hA0
  rw [Try.params6] at hA hval
  obtain ⟨v0, vs0, d0, ds0, p0, q0, hargs, rfl, rfl, h0, r0⟩ := trodAll_cons hA
  obtain ⟨rfl, rfl, rfl⟩ := trodAll_nil r0
  obtain rfl : args = #[v0] := by cases args; simp_all
  obtain ⟨rfl, rfl⟩ := trodVars_none hV
  obtain ⟨a0, len0, cap0, rfl⟩ := okWide_slice Try.underlying22 (hval 0 22 v0 rfl rfl)
  have k0 := h0
  have lt0 : ∀ x ∈ p0, x.block < W.heap.size := by obtain ⟨m, hm⟩ := k0; exact DataW.trod_lt m _ _ _ hm
  obtain ⟨z0, w0⟩ : ∃ zs, IsRow .u64 W a0 len0 cap0 zs := by
    obtain ⟨fuel, hf⟩ := h0
    rcases open_ints Try.underlying22 Try.underlying36 (by kernel_rfl) hf with ⟨hcs, _⟩ | ⟨x, l, c, zs, hcs, _, hl, hm, hz, _, hcell, hwz⟩
    · simp [Value.cells] at hcs
      obtain ⟨rfl, rfl, rfl⟩ := hcs
      exact ⟨[], .inl ⟨rfl, rfl, rfl, rfl⟩⟩
    · simp [Value.cells] at hcs
      obtain ⟨rfl, rfl, rfl⟩ := hcs
      exact ⟨zs, .inr ⟨_, rfl, hl, hm, by simpa using hz, hcell, hwz⟩⟩
  clear hA0 hval0
  refine (walk a0 len0 cap0 z0 W w0).mono fun e W' ⟨he, bel⟩ => ?_
  subst he
  exact ⟨_, rfl, _, _, _, [], _, [], hW', trodAll_mk1 (shut_bool Try.underlying4 _), (trodAll_cons_mk (Below.trod laidOut (by kernel_rfl) (of_decide_eq_true (by kernel_rfl)) k0 bel lt0) trodAll_mk0), rfl, bel.frame _, fun h => by cases h⟩

theorem over : Rows.natBitsRow.holds Try.pinned (OpenSpec.ofChange Rows.natBitsSpec) :=
  OpenClaim.holds_of_wide 6 Try.f6 rfl rfl rfl rfl rfl rfl rfl ⟨rfl, rfl, rfl, rfl, rfl⟩ rfl rfl rfl rfl rfl (by kernel_rfl) Try.func6 (by kernel_rfl)
    (of_decide_eq_true (by kernel_rfl)) (by unfold Func.isWrapper; first | (rw [if_pos (by decide +kernel)]; kernel_rfl) | (rw [if_neg (by decide +kernel)]; exact ⟨rfl, rfl⟩))
    (fun os started H enc _ => lifted os started H enc)

/-- ████ THE STATEMENT ████ -/
theorem proved : Rows.NatBitsSaid := over
#print axioms proved
end Go.Proofs.Ythigofcbmgheeaa.natBits

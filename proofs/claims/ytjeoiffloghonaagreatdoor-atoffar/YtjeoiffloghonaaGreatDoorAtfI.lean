/- plumblaw11: atof.Parse of a numeral, alive. -/
import Derived.Test.YtjeoiffloghonaaGreatDoorAtfH
import Derived.Test.YtjeoiffloghonaaGreatDoorLexParse
namespace Go.Proofs.YtjeoiffloghonaaGreatDoor
open Go.ChangeShapes Go.WideShapes Go.ChangeAt Go.RowKit
open Na Ar Lx
set_option linter.unusedVariables false
theorem parse_said11 {S : B} {p : Pc} (hl : S.length ≤ 60000) (hp : scanP S 0 = p) (hk : p.kind ≠ 0) (hst : p.stop = S.length) (w : World) :
    Calls Tryz.prog 41 #[.string (str S)] w fun r w' => r = .returned (.tuple #[.agg (nmA (Lx.numOf p)), .nilIface]) ∧ Below w.heap.size w w' := by
  refine (parse9_any (str S) (by rw [str_size]; unfold maxLen; omega) w).mono ?_
  rintro r w' ⟨⟨g, at_, c, rfl, _, _, _, hn⟩ | ⟨_, _, rfl⟩, hb⟩
  · exfalso
    rw [str_list, hp] at hn
    rcases hn with ⟨q, _⟩ | ⟨_, q, _⟩
    · exact hk q
    · rw [str_size] at q; omega
  · rw [str_list, hp]
    exact ⟨rfl, hb⟩
set_option maxHeartbeats 1600000 in
set_option maxRecDepth 100000 in
/-- a numeral that is read, and has a pattern -/
theorem parse11_ok {s : ByteArray} {k e : Int} {ng : Bool} {nu de : ByteArray} {V : Int} (hP : ∀ w, Calls Tryz.prog 41 #[.string s] w fun r w' => r = .returned (.tuple #[.agg (numC k ng nu e de), .nilIface]) ∧ Below w.heap.size w w')
    (h1 : nu.size ≤ 65536) (h2 : de.size ≤ 65536) (hV : ∀ b E, BitsIs k ng nu.data.toList e de.data.toList b E → b = V ∧ E = 0) {w : World} (hG : GrVar w) (hT : TenVar w) :
    Calls Tryz.prog 19 #[.string s] w fun r w' => r = .returned (.tuple #[.int .u64 V, .nilIface]) ∧ Below w.heap.size w w' := by
  have hB : ∀ w1, Below w.heap.size w w1 → Calls Tryz.prog 11 #[.agg (numC k ng nu e de)] w1 fun r w' => r = .returned (.tuple #[.int .u64 V, .int .i64 0]) ∧ Below w1.heap.size w1 w' := fun w1 h => by
    refine (bits11_any k ng nu e de (by omega) (by omega) (hG.later h) (hT.later h)).mono ?_
    rintro r w' ⟨b, E, rfl, q, _, hb⟩
    obtain ⟨rfl, rfl⟩ := hV b E q
    exact ⟨rfl, hb⟩
  clear hV h1 h2
  unfold numC at hP hB
  go_enter Tryz.func19, Tryz.ntmps19
  go_wp2_with fail
  refine (hP _).mono ?_
  rintro r w1 ⟨rfl, hb1⟩
  have B : Below w.heap.size w (w1.alloc (.cells #[.int .i64 k, .bool ng, .string nu, .int .i64 e, .string de] 23)) := hb1.alloc hb1.size _
  have hB' := hB _ B
  clear hP hB
  go_wp2_with fail
  refine hB'.mono ?_
  rintro r w2 ⟨rfl, hb2⟩
  have B := B.trans (hb2.mono B.size)
  clear hB'
  go_wp2
  go_ret2
  exact ⟨rfl, B⟩
namespace Ar
set_option maxRecDepth 100000 in
theorem tenth11 : RoundIs (1 * pTwo 1074) (pTen 1) false false 0 4591870180066957722 0 :=
  ⟨4591870180066957721, ⟨by decide, by decide, by decide +kernel, Or.inr (by decide +kernel)⟩, Or.inr ⟨⟨by decide +kernel, by decide +kernel⟩, Or.inr ⟨by decide, by decide, rfl⟩⟩⟩
end Ar
theorem tenth_bits {b E : Int} (h : BitsIs 1 false [49] (-1) [] b E) : b = 4591870180066957722 ∧ E = 0 := by
  have hr : refE 1 [49] (-1) [] = 0 := by decide
  refine bits_uniq h (Or.inr (Or.inr ⟨hr, by decide, 4591870180066957722, 0, ?_, Or.inr ⟨rfl, rfl, rfl⟩⟩))
  unfold ValIs
  rw [if_pos rfl]
  have n1 : nv 10 [49] = 1 := by rw [nv_one]; rfl
  rw [n1]
  exact (ex_neg (k := 1) (by omega)).mpr tenth11
theorem parse_tenth {w : World} (hG : GrVar w) (hT : TenVar w) : Calls Tryz.prog 19 #[.string ⟨#[48, 46, 49]⟩] w fun r w' => r = .returned (.tuple #[.int .u64 4591870180066957722, .nilIface]) ∧ Below w.heap.size w w' := by
  have e : Lx.numOf ⟨1, false, [48], [49], [], [], 3⟩ = ⟨1, false, [49], -1, []⟩ := by rfl
  refine parse11_ok (k := 1) (e := -1) (ng := false) (nu := str [49]) (de := str []) (fun w => ?_) (by decide) (by decide) (fun b E q => tenth_bits q) hG hT
  have := parse_said11 (S := [48, 46, 49]) (p := ⟨1, false, [48], [49], [], [], 3⟩) (by decide) (by rfl) (by decide) rfl w
  rw [e] at this
  exact this
set_option maxHeartbeats 1600000 in
set_option maxRecDepth 100000 in
theorem alive11_any {w : World} (hG : GrVar w) (hT : TenVar w) : Calls Tryz.prog 14 #[] w fun r w' => r = .returned (.bool true) ∧ Below w.heap.size w w' := by
  have hP := parse_tenth hG hT
  go_enter Tryz.func14, Tryz.ntmps14
  go_wp2_with fail
  refine hP.mono ?_
  rintro r w1 ⟨rfl, hb⟩
  clear hP
  go_wp2
  go_ret
  exact ⟨rfl, hb⟩
end Go.Proofs.YtjeoiffloghonaaGreatDoor

/-
  THE SHELL OF A PROOF OF 'Rows.OctetPutsSaid' ('plumb/plumblaw16.OctetPuts'), WRITTEN BY PROGRAM (proof-skeleton.mjs, third state) off the guide's own print for that function. Not trusted: Lean checks it.
  YOURS IS THE HOLE MARKED 'HOLE' (it bears 'sorry'). ALL ELSE IS THE GUIDE's OWN WAY (howto/template/XProofs.lean; Derived/Test/ChunkProofs.lean for 'Below') at this function's number and types: leave it.
-/
import Derived.Test.YtchlflmdannhaaaRows
import Derived.WalkKit
import Derived.ProofKit
import Derived.OpenShut
import Derived.ShutString
import Derived.JoinedCond
import Derived.WalkLawsBesides
import Derived.WalkSpells
import Derived.Deep.RegionWith
import Derived.Deep.DeepCutAuto
import Derived.Deep.DeepFit
import Derived.Test.YtchlflmdannhaaaOctC
import Derived.ChangeOld
import Derived.Below
namespace Go.Proofs.Ytchlflmdannhaaa.octetPuts
open Go.ChangeShapes Go.WideShapes Go.ChangeAt Go.RowKit
open Go.ChangeMaps (open_string shut_string)
open Ar
set_option linter.unusedVariables false

theorem own : ownKnob Try.prog.godebug = none := by kernel_rfl
theorem laidOut : laidOutB Try.prog = true := by kernel_rfl

/-- WHAT THE WALK IS TOLD OF A SLICE OF INTEGERS THAT CAME IN: it is nil; or it leads to a row of 'cap' cells, the numbers 'zs' (the first 'len' are its elements, the rest its spare room), each fitting its kind. -/
def IsRow (k : IntKind) (w : World) (a : Option Addr) (len cap : Nat) (zs : List Int) : Prop :=
  (a = none ∧ len = 0 ∧ cap = 0 ∧ zs = []) ∨
  ∃ x, a = some x ∧ len ≤ cap ∧ cap ≤ maxLen ∧ zs.length = cap ∧ (∀ i, i < zs.length → w.cell? (x.add i) = some (.int k (zs.getD i 0))) ∧ ∀ n ∈ zs, (Lit.int k n).wf = true

open Ep Oc
theorem bulk_part {H : Type} {d : DataW H} {l : List (DataW H)} (h : d ∈ l) : Rows.uptoBulk d ≤ Rows.uptoBulkAll l := by
  induction l with
  | nil => cases h
  | cons x r ih =>
    simp only [Rows.uptoBulkAll]
    cases List.mem_cons.1 h with
    | inl e => subst e; omega
    | inr e => have := ih e; omega
theorem bulk_one {H : Type} (d : DataW H) : 1 ≤ Rows.uptoBulk d := by
  cases d with
  | lit l => cases l <;> simp [Rows.uptoBulk]
  | nil => simp [Rows.uptoBulk]
  | ptr d => simp [Rows.uptoBulk]
  | slice elems spare => simp [Rows.uptoBulk]
  | agg parts => simp [Rows.uptoBulk]
  | iface t d => simp [Rows.uptoBulk]
  | map entries => simp [Rows.uptoBulk]
  | held h => simp [Rows.uptoBulk]
theorem bulk_length {H : Type} (l : List (DataW H)) : l.length ≤ Rows.uptoBulkAll l := by
  induction l with
  | nil => simp [Rows.uptoBulkAll]
  | cons x r ih => have := bulk_one x; simp only [Rows.uptoBulkAll, List.length_cons]; omega
theorem bulk_slice {H : Type} {el sp l : List (DataW H)} (hk : Rows.uptoSmall H l = true) (h : DataW.slice el sp ∈ l) : el.length ≤ 1048576 := by
  have b : Rows.uptoBulkAll l ≤ 1048576 := of_decide_eq_true hk
  have p := bulk_part h
  have q := bulk_length el
  simp only [Rows.uptoBulk] at p
  omega
theorem bulk_string {H : Type} {bs : List UInt8} {l : List (DataW H)} (hk : Rows.uptoSmall H l = true) (h : DataW.lit (.string bs) ∈ l) : bs.length ≤ 1048576 := by
  have b : Rows.uptoBulkAll l ≤ 1048576 := of_decide_eq_true hk
  have p := bulk_part h
  simp only [Rows.uptoBulk] at p
  omega

/-! ### STEP 1: THE WALK: the Go text returns true, AND WRITES NOTHING THAT WAS THERE: 'Below w.heap.size w w'' (Derived/Below.lean: '.refl', '.alloc', '.drew', '.setCell' at a new block, '.trans'). Open each 'IsRow' by 'rcases' AHEAD of 'go_enter'; part every test ahead of the walk. -/
set_option maxHeartbeats 3200000 in
set_option maxRecDepth 100000 in
theorem walk (a0 : Option Addr) (len0 cap0 : Nat) (z0 : List Int) (a1 : Int) (a2 : Bool) (w : World) (w0 : IsRow .u8 w a0 len0 cap0 z0) (w1 : (Lit.int .u64 a1).wf = true) (s0 : len0 ≤ 1048576) :
    Calls Try.prog 3 #[.slice a0 len0 cap0, .int .u64 a1, .bool a2] w fun e w' => e = .returned (.bool true) ∧ Below w.heap.size w w' := by
  have g1 : 0 ≤ a1 ∧ a1 < 18446744073709551616 := by
    simp only [Lit.wf, Bool.and_eq_true, decide_eq_true_eq] at w1
    have h1 : IntKind.u64.min = 0 := rfl
    have h2 : IntKind.u64.max = 18446744073709551615 := rfl
    omega
  obtain ⟨V, rfl⟩ : ∃ V : Nat, a1 = (V : Int) := ⟨a1.toNat, by omega⟩
  have hV : V < 18446744073709551616 := by omega
  have hb := rb_of w0
  clear w0 w1 g1
  generalize by8 (z0.take len0) = l at *
  have HL : Hid (l.length = len0) := hb.len
  have hcc := hb.2
  have HM : Hid ((V : Int) % 4294967296 = ((V % 4294967296 : Nat) : Int)) := by show _ = _; omega
  have hm1 : V % 4294967296 < 256 ^ 4 := by show _ < 4294967296; omega
  have hm2 : V < 256 ^ 8 := hV
  have HO : Hid (ord 4 (V % 4294967296) a2 = ord 4 (V % 4294967296) a2) := (rfl : ord 4 (V % 4294967296) a2 = _)
  go_enter Try.func3, Try.ntmps3
  go_wp2_with fail
  refine (lent16_any hb (by omega)).mono ?_
  rintro e q1 ⟨v1, rfl, hO1, hb1⟩
  obtain ⟨la, lc, rfl, hl1⟩ := hO1.row
  have hlen : (lentL l).length = len0 + 2 := by rw [lentL_len, HL.out]
  rw [hlen] at hl1 hO1 ⊢
  have hcut := hl1.take (k := len0) (c' := lc) (by omega) (by have := hl1.2; omega) hl1.2.2
  rw [lentL_take l HL.out] at hcut
  have hlc := hl1.2
  have hq1 := hb.later hb1
  clear hlen hb HO
  go_wp2_with fail
  rw [HM.out]
  refine (put32_any hcut (by omega) hm1).mono ?_
  rintro e q2 ⟨v2, rfl, hO2, hb2⟩
  have hB2 := hb1.trans (hb2.mono hb1.size)
  have hl2 := hl1.later hb2
  have hcut2 := hcut.later hb2
  have hq2 := hq1.later hb2
  clear hl1 hcut hq1 hO1
  obtain ⟨xa, xc, rfl, hx2⟩ := hO2.row
  generalize (l ++ ord 4 (V % 4294967296) a2).length = xn at *
  clear hO2
  go_wp2_with fail
  refine (put64_any hcut2 (by omega) hm2).mono ?_
  rintro e q3 ⟨v3, rfl, hO3, hb3⟩
  have hB3 := hB2.trans (hb3.mono hB2.size)
  have hl3 := hl2.later hb3
  have hq3 := hq2.later hb3
  have hx3 := hx2.later hb3
  clear hl2 hcut2 hq2 hx2
  obtain ⟨ya, yc, rfl, hy3⟩ := hO3.row
  generalize (l ++ ord 8 V a2).length = yn at *
  clear hO3
  go_wp2_with fail
  rw [HM.out]
  refine (rput16_any (K := 4) hq3 (by omega) (by omega) (by omega)).mono ?_
  rintro e q4 ⟨v4, rfl, hO4, hb4⟩
  have hB4 := hB3.trans (hb4.mono hB3.size)
  have hl4 := hl3.later hb4
  have hq4 := hq3.later hb4
  have hx4 := hx3.later hb4
  have hy4 := hy3.later hb4
  clear hl3 hq3 hx3 hy3
  obtain ⟨za, zc, rfl, hz4⟩ := hO4.row
  generalize (l ++ ord 4 (V % 4294967296) a2).length = zn at *
  clear hO4
  go_wp2_with fail
  refine (same16_yes hx4 hz4).mono ?_
  rintro e q5 ⟨rfl, k5, rfl⟩
  have hb5 := below_drewN (Below.refl q4.heap.size q4) k5
  have hB5 := hB4.trans (hb5.mono hB4.size)
  have hl5 := hl4.later hb5
  have hq5 := hq4.later hb5
  have hy5 := hy4.later hb5
  clear hl4 hq4 hx4 hy4 hz4
  generalize q4.drewN k5 = w5 at *
  go_wp2_with fail
  refine (rput16_any (K := 8) hq5 (by omega) (by omega) (by omega)).mono ?_
  rintro e q6 ⟨v6, rfl, hO6, hb6⟩
  have hB6 := hB5.trans (hb6.mono hB5.size)
  have hl6 := hl5.later hb6
  have hq6 := hq5.later hb6
  have hy6 := hy5.later hb6
  clear hl5 hq5 hy5
  obtain ⟨ta, tc, rfl, ht6⟩ := hO6.row
  generalize (l ++ ord 8 V a2).length = tn at *
  clear hO6
  go_wp2_with fail
  refine (same16_yes hy6 ht6).mono ?_
  rintro e q7 ⟨rfl, k7, rfl⟩
  have hb7 := below_drewN (Below.refl q6.heap.size q6) k7
  have hB7 := hB6.trans (hb7.mono hB6.size)
  have hl7 := hl6.later hb7
  have hq7 := hq6.later hb7
  clear hl6 hq6 hy6 ht6
  generalize q6.drewN k7 = w7 at *
  go_wp2_with fail
  refine (kept16_any hl7 hq7 (by omega)).mono ?_
  rintro e q8 ⟨rfl, k8, rfl⟩
  have hb8 := below_drewN hB7 k8
  clear hl7 hq7
  go_wp2
  go_ret
  exact ⟨rfl, hb8⟩

/-! ### THE ROW's STEP: WRITTEN OUT: LEAVE IT -/
set_option maxRecDepth 100000 in
theorem lifted (os : Os) (started : os.Started) (H : Type) (enc : TypeId × Value → H) (F : Stop.Interp) :
    ReturnsInHanded {} Try.checked os 3 .any ((Rows.OpenSpec.upto Rows.octetPutsSpec).pre6 enc Try.prog Try.f3 Rows.octetPutsUptoRow.domain false) (((Rows.OpenSpec.upto Rows.octetPutsSpec).at F).post enc Try.prog Try.f3 false true false false) := by
  refine returnsInHanded_of_cond (C := Try.checked) (s := Rows.OpenSpec.upto Rows.octetPutsSpec) (k := Rows.uptoSmall) rfl own started (by kernel_rfl) Try.func3
    (OpenSpec.witness (enc := enc) (C := Try.checked) (s := Rows.OpenSpec.upto Rows.octetPutsSpec) (k := Rows.uptoSmall) rfl false ⟨#[], #[.slice none 0 0, .int .u64 0, .bool false], []⟩ 8 (by kernel_rfl) (by kernel_rfl) (by kernel_rfl)
      (x := ([.nil, .lit (.int .u64 0), .lit (.bool false)], [], [])) (by kernel_rfl) rfl (by kernel_rfl)) ?_
  intro W base args ds gs before hval0 hW hcnd hk _
  have hval : ∀ (j : Nat) t v, Try.f3.params[j]? = some t → args[j]? = some v → Value.okWide Try.prog W .any base t v := hval0
  have hW' := hW
  obtain ⟨p, q, hA0, hV, rfl, hfz, hnd⟩ := hW
  have hA : DataW.TrodAll enc Try.prog W 0 (fun _ => true) true Try.f3.params.toList args.toList ds p := hA0
  rw [Try.params3] at hA hval
  obtain ⟨v0, vs0, d0, ds0, p0, q0, hargs, rfl, rfl, h0, r0⟩ := trodAll_cons hA
  obtain ⟨v1, vs1, d1, ds1, p1, q1, rfl, rfl, rfl, h1, r1⟩ := trodAll_cons r0
  obtain ⟨v2, vs2, d2, ds2, p2, q2, rfl, rfl, rfl, h2, r2⟩ := trodAll_cons r1
  obtain ⟨rfl, rfl, rfl⟩ := trodAll_nil r2
  obtain rfl : args = #[v0, v1, v2] := by cases args; simp_all
  obtain ⟨rfl, rfl⟩ := trodVars_none hV
  obtain ⟨a0, len0, cap0, rfl⟩ := okWide_slice Try.underlying22 (hval 0 22 v0 rfl rfl)
  have k0 := h0
  have lt0 : ∀ x ∈ p0, x.block < W.heap.size := by obtain ⟨m, hm⟩ := k0; exact DataW.trod_lt m _ _ _ hm
  obtain ⟨z0, w0, s0⟩ : ∃ zs, IsRow .u8 W a0 len0 cap0 zs ∧ len0 ≤ 1048576 := by
    obtain ⟨fuel, hf⟩ := h0
    rcases open_ints Try.underlying22 Try.underlying5 (by kernel_rfl) hf with ⟨hcs, _⟩ | ⟨x, l, c, zs, hcs, _, hl, hm, hz, hdd, hcell, hwz⟩
    · simp [Value.cells] at hcs
      obtain ⟨rfl, rfl, rfl⟩ := hcs
      exact ⟨[], .inl ⟨rfl, rfl, rfl, rfl⟩, by omega⟩
    · simp [Value.cells] at hcs
      obtain ⟨rfl, rfl, rfl⟩ := hcs
      simp only [Prod.mk.injEq] at hdd
      have hbk := bulk_slice hk (List.mem_append_left _ (by rw [hdd.1]; first | exact List.Mem.head _ | exact List.Mem.tail _ (List.Mem.head _) | exact List.Mem.tail _ (List.Mem.tail _ (List.Mem.head _))))
      have hzl := hz
      simp only [if_true] at hzl
      refine ⟨zs, .inr ⟨_, rfl, hl, hm, by simpa using hz, hcell, hwz⟩, ?_⟩
      simp [lits] at hbk
      omega
  obtain ⟨a1, rfl, rfl, rfl, w1⟩ := open_int Try.underlying23 (hval 1 23 v1 rfl rfl) h1
  obtain ⟨a2, rfl, rfl, rfl⟩ := open_bool Try.underlying4 (hval 2 4 v2 rfl rfl) h2
  clear hA0 hval0
  refine (walk a0 len0 cap0 z0 a1 a2 W w0 w1 s0).mono fun e W' ⟨he, bel⟩ => ?_
  subst he
  exact ⟨_, rfl, _, _, _, [], _, [], hW', trodAll_mk1 (shut_bool Try.underlying4 _), (trodAll_cons_mk (Below.trod laidOut (by kernel_rfl) (of_decide_eq_true (by kernel_rfl)) k0 bel lt0) (trodAll_cons_mk (shut_int Try.underlying23 w1) (trodAll_cons_mk (shut_bool Try.underlying4 _) trodAll_mk0))), rfl, bel.frame _, fun h => by cases h⟩

theorem over : Rows.octetPutsUptoRow.holds Try.pinned (Rows.OpenSpec.upto Rows.octetPutsSpec) :=
  OpenClaim.holds_of_cond 3 Try.f3 rfl rfl rfl rfl rfl rfl rfl ⟨rfl, rfl, rfl, rfl, rfl⟩ rfl rfl rfl rfl rfl (by kernel_rfl) Try.func3 (by kernel_rfl)
    (of_decide_eq_true (by kernel_rfl)) (by unfold Func.isWrapper; first | (rw [if_pos (by decide +kernel)]; kernel_rfl) | (rw [if_neg (by decide +kernel)]; exact ⟨rfl, rfl⟩))
    (fun os started H enc _ F => lifted os started H enc F)

/-- ████ THE STATEMENT ████ -/
theorem proved : Rows.OctetPutsUptoSaid := over
#print axioms proved
end Go.Proofs.Ytchlflmdannhaaa.octetPuts

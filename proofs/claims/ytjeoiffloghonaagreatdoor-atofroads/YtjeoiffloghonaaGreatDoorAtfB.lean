/- package atof: the slow road; the two quick ones. -/
import Derived.Test.YtjeoiffloghonaaGreatDoorAtfA
import Derived.Deep.RegionHeld3
namespace Go.Proofs.YtjeoiffloghonaaGreatDoor
open Go.ChangeShapes Go.WideShapes Go.ChangeAt Go.RowKit
open Na Ar Lx
set_option linter.unusedVariables false
/-- what a numeral without its sign is rounded to -/
def ValIs (k : Int) (num : B) (e : Int) (den : B) (b E : Int) : Prop :=
  if k = 1 then ExIs (nv 10 num) e b E else if k = 2 then RoundIs (scA (nv 16 num) e) (scB 1 e) false false 0 b E
  else RoundIs (scA (nv 10 num) 0) (scB (nv 10 den) 0) false false 0 b E
theorem number_at (s : ByteArray) {b : Int} (hb : b = 10 ∨ b = 16) (h0 : 0 < s.size) (hs : s.size ≤ 65536) (hd : okB b s.data.toList) {w0 w1 : World} (h : Below w0.heap.size w0 w1) :
    Calls Tryz.prog 84 #[.string s, .int .i64 b] w1 fun r w' => ∃ a n c l, r = .returned (.slice a n c) ∧ RowC w' a n c l ∧ Nm l (nv b s.data.toList) ∧ l.length ≤ 4096 ∧ Below w0.heap.size w0 w' ∧ Below w1.heap.size w1 w' := by
  refine (number11_any s hb h0 hs hd w1).mono ?_
  rintro r w' ⟨a, n, c, l, rfl, q1, q2, q3, q4⟩
  exact ⟨a, n, c, l, rfl, q1, q2, q3, h.trans (q4.mono h.size), q4⟩
set_option maxHeartbeats 3200000 in
set_option maxRecDepth 100000 in
theorem slow2_any {g : Nat} {ng : Bool} {num den : ByteArray} {e : Int} {w : World} (hb : Bk w g 23 (numC 2 ng num e den)) (h0 : 0 < num.size) (hs : num.size ≤ 65536) (hd : okB 16 num.data.toList) (e0 : -2000000000 ≤ e) (e1 : e ≤ 2000000000) (hG : GrVar w) :
    Calls Tryz.prog 82 #[.pointer (some ⟨g, 0, none⟩)] w fun r w' => ∃ b E, r = .returned (.tuple #[.int .u64 b, .int .i64 E]) ∧ RoundIs (scA (nv 16 num.data.toList) e) (scB 1 e) false false 0 b E ∧ U b ∧ Below w.heap.size w w' := by
  have hcl : ∀ w1, Below w.heap.size w w1 → w1.cell? ⟨g, 0, none⟩ = some (.int .i64 2) ∧ w1.cell? ⟨g, 2, none⟩ = some (.string num) ∧ w1.cell? ⟨g, 3, none⟩ = some (.int .i64 e) := fun w1 h => ⟨(hb.later h).cell 0 rfl, (hb.later h).cell 2 rfl, (hb.later h).cell 3 rfl⟩
  obtain ⟨x0, x2, x3⟩ := hcl w (Below.refl _ _)
  have hN := fun (w1 : World) (h : Below w.heap.size w w1) => number_at num (b := 16) (Or.inr rfl) h0 hs hd h
  generalize nv 16 num.data.toList = T at *
  have hsc : ∀ (w1 : World) (a : Option Addr) (n c : Nat) (xs : List Int), Below w.heap.size w w1 → RowC w1 a n c xs → Nm xs T → Calls Tryz.prog 83 #[.bool false, .slice a n c, .int .i64 e, .bool false, .int .i64 0] w1 fun r w' => ∃ v E, r = .returned (.tuple #[.int .u64 v, .int .i64 E]) ∧ RoundIs (scA T e) (scB 1 e) false false 0 v E ∧ U v ∧ Below w1.heap.size w1 w' := fun w1 a n c xs h r1 m1 => by
    have := scaled_go (mode := 0) (neg := false) (more := false) (x := e) r1 m1.ws (by have := r1.1.1; have := m1.len; omega) (by omega) (by omega) (by omega) (by omega) (hG.later h)
    rw [m1.num] at this
    exact this
  clear hd hb
  go_enter Tryz.func82, Tryz.ntmps82
  go_wp2_with fail
  go_region_held3 (fun w' => w'.cell? ⟨g, 2, none⟩ = some (.string num) ∧ w'.cell? ⟨g, 3, none⟩ = some (.int .i64 e)) (go_keep) (first | (go_at_call 84; refine (hN _ (by first | exact Below.refl _ _ | exact below_drewN (Below.refl _ _) _)).mono ?_; rintro r wA ⟨a, n, c, l, rfl, hr, hm, hl, hBA, hbA⟩; obtain ⟨y0, y2, y3⟩ := hcl wA hBA; have hS := hsc wA a n c l hBA hr hm) | (go_at_call 83; refine hS.mono ?_; rintro r wB ⟨b, E, rfl, hR, ub, hbB⟩; have hBB := hBA.trans (hbB.mono hBA.size); have HR : Hid (RoundIs (scA T e) (scB 1 e) false false 0 b E) := hR; clear hR))
  go_wp2
  go_ret2
  exact ⟨_, _, rfl, HR.out, ub, hBB⟩
set_option maxHeartbeats 3200000 in
set_option maxRecDepth 100000 in
theorem slow3_any {g : Nat} {ng : Bool} {num den : ByteArray} {e : Int} {w : World} (hb : Bk w g 23 (numC 3 ng num e den)) (h0 : 0 < num.size) (hs : num.size ≤ 65536) (hd : okB 10 num.data.toList) (k0 : 0 < den.size) (ks : den.size ≤ 65536) (kd : okB 10 den.data.toList) (kp : 0 < nv 10 den.data.toList) (hG : GrVar w) :
    Calls Tryz.prog 82 #[.pointer (some ⟨g, 0, none⟩)] w fun r w' => ∃ b E, r = .returned (.tuple #[.int .u64 b, .int .i64 E]) ∧ RoundIs (scA (nv 10 num.data.toList) 0) (scB (nv 10 den.data.toList) 0) false false 0 b E ∧ U b ∧ Below w.heap.size w w' := by
  have hcl : ∀ w1, Below w.heap.size w w1 → w1.cell? ⟨g, 0, none⟩ = some (.int .i64 3) ∧ w1.cell? ⟨g, 2, none⟩ = some (.string num) ∧ w1.cell? ⟨g, 4, none⟩ = some (.string den) := fun w1 h => ⟨(hb.later h).cell 0 rfl, (hb.later h).cell 2 rfl, (hb.later h).cell 4 rfl⟩
  obtain ⟨x0, x2, x3⟩ := hcl w (Below.refl _ _)
  have hN := fun (w1 : World) (h : Below w.heap.size w w1) => number_at num (b := 10) (Or.inl rfl) h0 hs hd h
  have hM := fun (w1 : World) (h : Below w.heap.size w w1) => number_at den (b := 10) (Or.inl rfl) k0 ks kd h
  generalize nv 10 num.data.toList = T at *
  generalize nv 10 den.data.toList = D at *
  have hq : ∀ (w1 : World) (a b : Option Addr) (n c m d : Nat) (xs ys : List Int), Below w.heap.size w w1 → RowC w1 a n c xs → RowC w1 b m d ys → Nm xs T → Nm ys D → xs.length ≤ 4096 → ys.length ≤ 4096 → Calls Tryz.prog 85 #[.bool false, .slice a n c, .slice b m d, .int .i64 0] w1 fun e w' => ∃ v E, e = .returned (.tuple #[.int .u64 v, .int .i64 E]) ∧ RoundIs (scA T 0) (scB D 0) false false 0 v E ∧ U v ∧ Below w1.heap.size w1 w' := fun w1 a b n c m d xs ys h r1 r2 m1 m2 l1 l2 => by
    have := quotient_any (mode := 0) (neg := false) r1 r2 m1.ws m2.ws (by have := r1.1.1; omega) (by have := r2.1.1; omega) (by omega) (by omega) (by rw [m2.num]; exact kp) (hG.later h)
    rw [m1.num, m2.num] at this
    exact this
  clear hd hb kd
  go_enter Tryz.func82, Tryz.ntmps82
  go_wp2_with fail
  go_region_held3 (fun w' => w'.cell? ⟨g, 2, none⟩ = some (.string num) ∧ w'.cell? ⟨g, 4, none⟩ = some (.string den)) (go_keep) (first | (go_at_call_of 84 num; refine (hN _ (by first | exact Below.refl _ _ | exact below_drewN (Below.refl _ _) _)).mono ?_; rintro r wA ⟨a, n, c, l, rfl, hr, hm, hl, hBA, hbA⟩; obtain ⟨y0, y2, y3⟩ := hcl wA hBA) | (go_at_call 84; refine (hM _ (by first | exact hBA | exact below_drewN hBA _)).mono ?_; rintro r wB ⟨a2, n2, c2, l2, rfl, hr2, hm2, hl2, hBB, hbB⟩; have hr1 := hr.later (by first | exact hbB | exact (below_drewN (Below.refl _ wA) _).trans (hbB.mono (Nat.le_refl _))); obtain ⟨y0, y2, y3⟩ := hcl wB hBB; have hS := hq wB a a2 n c n2 c2 l l2 hBB hr1 hr2 hm hm2 hl hl2) | (go_at_call 85; refine hS.mono ?_; rintro r wC ⟨b, E, rfl, hR, ub, hbC⟩; have hBC := hBB.trans (hbC.mono hBB.size); have HR : Hid (RoundIs (scA T 0) (scB D 0) false false 0 b E) := hR; clear hR))
  go_wp2
  go_ret2
  exact ⟨_, _, rfl, HR.out, ub, hBC⟩
set_option maxHeartbeats 3200000 in
set_option maxRecDepth 100000 in
theorem slow1_any {g : Nat} {ng : Bool} {num den : ByteArray} {e : Int} {w : World} (hb : Bk w g 23 (numC 1 ng num e den)) (h0 : 0 < num.size) (hs : num.size ≤ 65536) (hd : okB 10 num.data.toList) (hz : pTen (num.size - 1) ≤ nv 10 num.data.toList) (e0 : -2000000000 ≤ e) (e1 : e ≤ 2000000000) (hG : GrVar w) :
    Calls Tryz.prog 82 #[.pointer (some ⟨g, 0, none⟩)] w fun r w' => ∃ b E, r = .returned (.tuple #[.int .u64 b, .int .i64 E]) ∧ ExIs (nv 10 num.data.toList) e b E ∧ U b ∧ Below w.heap.size w w' := by
  have x0 := hb.cell 0 (v := .int .i64 1) rfl
  have x2 := hb.cell 2 (v := .string num) rfl
  have x3 := hb.cell 3 (v := .int .i64 e) rfl
  have hD := decimal11_any num h0 hs hd hz e0 e1 hG
  generalize nv 10 num.data.toList = T at *
  clear hd hb hz
  go_enter Tryz.func82, Tryz.ntmps82
  go_wp2_with fail
  refine hD.mono ?_
  rintro r w1 ⟨b, E, rfl, hR, ub, hb1⟩
  have HR : Hid (ExIs T e b E) := hR
  clear hR hD
  go_wp2
  go_ret2
  exact ⟨_, _, rfl, HR.out, ub, hb1⟩
/-! ### the quick roads -/
def Road1 (m e : Int) (mr : Bool) (b E : Int) : Prop := E = 100 ∨ (mr = false ∧ ExIs m e b E)
def Road2 (m e : Int) (mr : Bool) (b E : Int) : Prop := E = 100 ∨ (ExIs m e b E ∧ (mr = true → ExIs (m + 1) e b E))
set_option maxHeartbeats 3200000 in
set_option maxRecDepth 100000 in
theorem road1_any {gm ge gr : Nat} {m e : Int} {mr : Bool} {w : World} (c1 : w.cell? ⟨gm, 0, none⟩ = some (.int .u64 m)) (c2 : w.cell? ⟨ge, 0, none⟩ = some (.int .i64 e)) (c3 : w.cell? ⟨gr, 0, none⟩ = some (.bool mr)) (hm : U m) (i0 : -9223372036854775808 ≤ e) (i1 : e ≤ 9223372036854775807) (hT : TenVar w) :
    Calls Tryz.prog 78 #[.pointer (some ⟨gm, 0, none⟩), .pointer (some ⟨ge, 0, none⟩), .pointer (some ⟨gr, 0, none⟩)] w fun r w' => ∃ b E, r = .returned (.tuple #[.int .u64 b, .int .i64 E]) ∧ Road1 m e mr b E ∧ U b ∧ Below w.heap.size w w' := by
  have hS := lemSmall_any hm i0 i1 hT
  have hk : gr < w.heap.size := cell_lt7 c3
  go_enter Tryz.func78, Tryz.ntmps78
  go_wp2_with fail
  refine hS.mono ?_
  rintro r w1 ⟨b, rfl, h1, h2, ub, hb1⟩
  have c4 : w1.cell? ⟨gr, 0, none⟩ = some (.bool mr) := by rw [hb1.cell (p := ⟨gr, 0, none⟩) hk]; exact c3
  clear hS
  cases hk2 : smallOk m e
  · clear h1 h2
    go_wp2
    all_goals go_ret2
    exact ⟨_, _, rfl, Or.inl rfl, U_zero, hb1⟩
  · have HQ : Hid (ExIs m e b 0) := small_ex (h1 hk2)
    clear h1 h2
    cases mr
    · go_wp2
      go_ret2
      exact ⟨_, _, rfl, Or.inr ⟨rfl, HQ.out⟩, ub, hb1⟩
    · go_wp2
      go_ret2
      exact ⟨_, _, rfl, Or.inl rfl, U_zero, hb1⟩
set_option maxHeartbeats 3200000 in
set_option maxRecDepth 100000 in
theorem road2_any {gm ge gr : Nat} {m e : Int} {mr : Bool} {w : World} (c1 : w.cell? ⟨gm, 0, none⟩ = some (.int .u64 m)) (c2 : w.cell? ⟨ge, 0, none⟩ = some (.int .i64 e)) (c3 : w.cell? ⟨gr, 0, none⟩ = some (.bool mr)) (hm0 : 0 ≤ m) (hm1 : m ≤ 9999999999999999999) (i0 : -9223372036854775808 ≤ e) (i1 : e ≤ 9223372036854775807) :
    Calls Tryz.prog 80 #[.pointer (some ⟨gm, 0, none⟩), .pointer (some ⟨ge, 0, none⟩), .pointer (some ⟨gr, 0, none⟩)] w fun r w' => ∃ b E, r = .returned (.tuple #[.int .u64 b, .int .i64 E]) ∧ Road2 m e mr b E ∧ U b ∧ Below w.heap.size w w' := by
  have l1 := cell_lt7 c1
  have l2 := cell_lt7 c2
  have l3 := cell_lt7 c3
  have um : U m := by unfold U; omega
  have um1 : U (m + 1) := by unfold U; omega
  have hF := fun w => lemFast_any um i0 i1 w
  have hF1 := fun w => lemFast_any um1 i0 i1 w
  have hwr : IntKind.u64.wrap (m + 1) = m + 1 := by rw [wrapU]; omega
  have S1 : Hid (∀ b E, FastIs m e b E → E ≠ 100 → ExIs m e b E) := fun b E h q => sure_ex um h q
  have S2 : Hid (∀ b E, FastIs (m + 1) e b E → E ≠ 100 → ExIs (m + 1) e b E) := fun b E h q => sure_ex um1 h q
  go_enter Tryz.func80, Tryz.ntmps80
  go_wp2_with fail
  refine (hF _).mono ?_
  rintro r w1 ⟨b, E, rfl, hf, ub, hb1⟩
  have HF : Hid (FastIs m e b E) := hf
  have d1 : w1.cell? ⟨gm, 0, none⟩ = some (.int .u64 m) := by rw [hb1.cell (p := ⟨gm, 0, none⟩) l1]; exact c1
  have d2 : w1.cell? ⟨ge, 0, none⟩ = some (.int .i64 e) := by rw [hb1.cell (p := ⟨ge, 0, none⟩) l2]; exact c2
  have d3 : w1.cell? ⟨gr, 0, none⟩ = some (.bool mr) := by rw [hb1.cell (p := ⟨gr, 0, none⟩) l3]; exact c3
  clear hF hf c1 c2 c3
  cases mr
  · go_wp2
    go_ret2
    refine ⟨_, _, rfl, ?_, ub, hb1⟩
    by_cases hE : E = 100
    · exact Or.inl hE
    · exact Or.inr ⟨S1.out _ _ HF.out hE, fun h => by cases h⟩
  · go_wp2_with fail
    refine (hF1 _).mono ?_
    rintro r w2 ⟨b2, E2, rfl, hf, ub2, hb2⟩
    have HF2 : Hid (FastIs (m + 1) e b2 E2) := hf
    have B := hb1.trans (hb2.mono hb1.size)
    clear hf hF1
    by_cases hb : b = b2
    · by_cases hE : E = E2
      · have t1 : (b != b2) = false := bne_of hb
        have t2 : (E != E2) = false := bne_of hE
        have HE : Hid (b = b2 ∧ E = E2) := ⟨hb, hE⟩
        clear hb hE
        go_wp2
        go_ret2
        refine ⟨_, _, rfl, ?_, ub, B⟩
        obtain ⟨q1, q2⟩ := HE.out
        by_cases h9 : E = 100
        · exact Or.inl h9
        · refine Or.inr ⟨S1.out _ _ HF.out h9, fun _ => ?_⟩
          rw [q1, q2]
          exact S2.out _ _ HF2.out (by omega)
      · have t1 : (b != b2) = false := bne_of hb
        have t2 : (E != E2) = true := bne_yes hE
        clear hb hE
        go_wp2
        go_ret2
        exact ⟨_, _, rfl, Or.inl rfl, U_zero, B⟩
    · have t1 : (b != b2) = true := bne_yes hb
      clear hb
      go_wp2
      go_ret2
      exact ⟨_, _, rfl, Or.inl rfl, U_zero, B⟩
end Go.Proofs.YtjeoiffloghonaaGreatDoor

/- Layer 17: what a walk reads: orders, kinds, counts, places. -/
import Derived.Test.YtinagjljebbceaaDoorWkMem
import Derived.WalkLawsBesides
namespace Go.Proofs.YtinagjljebbceaaDoor
open Go.ChangeShapes Go.WideShapes Go.ChangeAt Go.RowKit
open Ep Oc Tr Wk
set_option linter.unusedVariables false
/-- an ending: given up, at that place, with that error -/
def Flw (e : Ending) (p c : Nat) : Prop := e = .panicked [{ v := .iface 161 (.agg #[.int .i64 (p : Int), .int .i64 (c : Int)]), recovered := false }]
/-- what a call of a walk that lays nothing comes to -/
def Pst {α : Type} (w0 w : World) (gw gr : Nat) (D : Int) (l : List UInt8) (v : Value) (os : List Bool) (r : Rs α) (val : α → Value) (e : Ending) (w' : World) : Prop :=
  match r with
  | .ok x k' => e = .returned (val x) ∧ WkS w0 w' gw gr D l k' v os ∧ Ch (Ex gw gr v) w w'
  | .bad p c => Flw e p c ∧ Below w0.heap.size w0 w'
namespace Wk
theorem word_rd {l : List UInt8} {k m x k' : Nat} {little : Bool} (h : word l k m little = .ok x k') : rV l k false m little = x ∧ rK l k false m = k' ∧ rF l k false m = false := by
  unfold word at h
  split at h
  · cases h
  · next hn =>
    injection h with h1 h2
    have : ¬ (false = true ∨ l.length - k < m) := by simp; omega
    unfold rV rK rF
    rw [if_neg this, if_neg this, decide_eq_false hn]
    exact ⟨h1, h2, rfl⟩
theorem word_no {l : List UInt8} {k m p c : Nat} {little : Bool} (h : word l k m little = .bad p c) : rK l k false m = k ∧ rF l k false m = true ∧ p = k ∧ c = 160 := by
  obtain ⟨h1, h2, h3⟩ := word_bad h
  unfold rK rF
  rw [if_pos (Or.inr h3), decide_eq_true h3]
  exact ⟨rfl, rfl, h1, h2⟩
end Wk
theorem WkS.fail {w0 w w' : World} {gw gr : Nat} {D : Int} {l : List UInt8} {k : Nat} {v : Value} {os : List Bool} (h : WkS w0 w gw gr D l k v os) (hI : In gr (gr + 1) w w') : S3 w' gw 122 (.pointer (some ⟨gr, 0, none⟩)) (.int .i64 D) v ∧ Below w0.heap.size w0 w' := by
  have hne := h.ne
  have hlo := h.lo
  refine ⟨h.wk.inn hI (by omega), ?_⟩
  exact ⟨hI.os.trans h.bel.os, hI.tape.trans h.bel.tape, hI.output.trans h.bel.output, Nat.le_trans h.bel.size hI.size, fun i hi => (hI.block i (Nat.lt_of_lt_of_le hi h.bel.size) (by omega)).trans (h.bel.block i hi)⟩
/-- a block in which no byte lies -/
def NoB (w : World) (b : Nat) : Prop := ∀ o x, w.cell? ⟨b, o, none⟩ ≠ some (.int .u8 x)
theorem NoB.of_block {w w' : World} {b : Nat} (h : NoB w b) (e : w'.heap[b]? = w.heap[b]?) : NoB w' b := fun o x => by rw [World.cell?_of_block (a := ⟨b, o, none⟩) e]; exact h o x
theorem NoB.one {w : World} {b : Nat} {t : TypeId} {f : Nat × Nat} {x : Value} (h : w.heap[b]? = some (.cells #[x] t f)) (h0 : ∀ z, x ≠ .int .u8 z) : NoB w b := by
  intro o z
  simp only [World.cell?, h]
  match o with
  | 0 => simpa using h0 z
  | o + 1 => simp
theorem NoB.two {w : World} {b : Nat} {t : TypeId} {f : Nat × Nat} {x y : Value} (h : w.heap[b]? = some (.cells #[x, y] t f)) (h0 : ∀ z, x ≠ .int .u8 z) (h1 : ∀ z, y ≠ .int .u8 z) : NoB w b := by
  intro o z
  simp only [World.cell?, h]
  match o with
  | 0 => simpa using h0 z
  | 1 => simpa using h1 z
  | o + 2 => simp
theorem WkS.inb {w0 w w' : World} {gw gr : Nat} {D : Int} {l : List UInt8} {k : Nat} {v : Value} {os : List Bool} (h : WkS w0 w gw gr D l k v os) {b : Nat} (hI : In b (b + 1) w w') (h0 : w0.heap.size ≤ b) (h1 : b ≠ gr) (h2 : b ≠ gw) (h3 : v.ownBlock ≠ some b) (hn : NoB w b) : WkS w0 w' gw gr D l k v os := by
  refine ⟨?_, ?_, h.wk.inn hI (by omega), h.row.keep (fun g hg => hI.block g (h.row.blk hg).2.1 (by
    have : g ≠ b := fun e => h3 (by rw [hg, e])
    omega)), h.lo, h.lo2⟩
  · exact ⟨hI.os.trans h.bel.os, hI.tape.trans h.bel.tape, hI.output.trans h.bel.output, Nat.le_trans h.bel.size hI.size, fun i hi => (hI.block i (Nat.lt_of_lt_of_le hi h.bel.size) (by omega)).trans (h.bel.block i hi)⟩
  · obtain ⟨a, n, c, p, q1, q2, q3, q4, q5⟩ := h.rd
    obtain rfl : p = none := by
      rcases q5 with ⟨_, q⟩ | ⟨q, _⟩
      · exact q
      · cases q
    refine ⟨a, n, c, none, q1.inn hI (by omega), q2.inn hI (fun hn' => ?_), q3, q4, Or.inl ⟨rfl, rfl⟩⟩
    obtain ⟨bb, o, rfl, hlt2, hc⟩ := q2.cells hn'
    refine off_of fun e => ?_
    subst e
    exact hn _ _ (hc 0 hn')
theorem set2_block {w : World} {b : Nat} {t : TypeId} {f : Nat × Nat} {x y : Value} (h : w.heap[b]? = some (.cells #[x, y] t f)) (x' y' : Value) : ((w.setCell ⟨b, 0, none⟩ x').setCell ⟨b, 1, none⟩ y').heap[b]? = some (.cells #[x', y'] t f) := by
  simp [World.setCell, Array.getElem?_modify, h]
set_option maxHeartbeats 1600000 in
theorem giveUp_any (p c : Nat) (w : World) :
    Calls Tryd.prog 56 #[.int .i64 (p : Int), .int .i64 (c : Int)] w fun e w' => Flw e p c ∧ w' = w := by
  go_enter Tryd.func56, Tryd.ntmps56
  go_wp2
  exact ⟨rfl, rfl, rfl⟩
theorem flw_of {e : Ending} {p c : Nat} (h : Flw e p c) : e = .panicked [{ v := .iface 161 (.agg #[.int .i64 (p : Int), .int .i64 (c : Int)]), recovered := false }] := h
set_option maxHeartbeats 1600000 in
theorem sure_u8 {w0 w : World} {gw gr : Nat} {D : Int} {l : List UInt8} {k : Nat} {v : Value} {os : List Bool} (h : WkS w0 w gw gr D l k v os) (x : Int) :
    Calls Tryd.prog 100 #[.pointer (some ⟨gw, 0, none⟩), .int .u8 x] w fun e w' => e = .returned (.int .u8 x) ∧ w' = w := by
  obtain ⟨c0, c1, c2⟩ := h.wk.cells
  have hr := h.rd
  clear h
  go_enter Tryd.func100, Tryd.ntmps100
  go_wp2_with fail
  refine (err16_none hr).mono ?_
  rintro e w1 ⟨rfl, rfl⟩
  go_wp2
  go_ret
  exact ⟨rfl, rfl⟩
set_option maxHeartbeats 1600000 in
theorem sure_u8_bad {w : World} {gw gr : Nat} {D : Int} {l : List UInt8} {k : Nat} {v : Value} (h : S3 w gw 122 (.pointer (some ⟨gr, 0, none⟩)) (.int .i64 D) v) (hr : Rd w gr l k true) (hE : ErrVar w) (x : Int) :
    Calls Tryd.prog 100 #[.pointer (some ⟨gw, 0, none⟩), .int .u8 x] w fun e w' => Flw e k 160 ∧ Below w.heap.size w w' := by
  obtain ⟨c0, c1, c2⟩ := h.cells
  go_enter Tryd.func100, Tryd.ntmps100
  go_wp2_with fail
  refine (err16_some hr).mono ?_
  rintro e w1 ⟨f, rfl, hF, hb1⟩
  have hE1 := hE.later hb1
  have hP := placeFault_any hF hE1
  have hC := fun (w' : World) (hb : Below w1.heap.size w1 w') => codeFault_any (hF.later hb) (hE1.later hb)
  clear hE hr h c0 c1 c2 hF hE1
  go_wp2_with fail
  refine hP.mono ?_
  rintro e w2 ⟨rfl, hb2⟩
  have hC2 := hC w2 hb2
  clear hP hC
  go_wp2_with fail
  refine hC2.mono ?_
  rintro e w3 ⟨rfl, hb3⟩
  have hB := hb1.trans ((hb2.trans (hb3.mono hb2.size)).mono hb1.size)
  have hG := giveUp_any k 160 w3
  clear hC2 hb1 hb2 hb3
  go_wp2_with fail
  refine hG.mono ?_
  rintro e w4 ⟨hf, rfl⟩
  rw [flw_of hf]
  go_wp2
  exact ⟨rfl, rfl, hB⟩
set_option maxHeartbeats 1600000 in
theorem sure_u32 {w0 w : World} {gw gr : Nat} {D : Int} {l : List UInt8} {k : Nat} {v : Value} {os : List Bool} (h : WkS w0 w gw gr D l k v os) (x : Int) :
    Calls Tryd.prog 102 #[.pointer (some ⟨gw, 0, none⟩), .int .u32 x] w fun e w' => e = .returned (.int .u32 x) ∧ w' = w := by
  obtain ⟨c0, c1, c2⟩ := h.wk.cells
  have hr := h.rd
  clear h
  go_enter Tryd.func102, Tryd.ntmps102
  go_wp2_with fail
  refine (err16_none hr).mono ?_
  rintro e w1 ⟨rfl, rfl⟩
  go_wp2
  go_ret
  exact ⟨rfl, rfl⟩
set_option maxHeartbeats 1600000 in
theorem sure_u32_bad {w : World} {gw gr : Nat} {D : Int} {l : List UInt8} {k : Nat} {v : Value} (h : S3 w gw 122 (.pointer (some ⟨gr, 0, none⟩)) (.int .i64 D) v) (hr : Rd w gr l k true) (hE : ErrVar w) (x : Int) :
    Calls Tryd.prog 102 #[.pointer (some ⟨gw, 0, none⟩), .int .u32 x] w fun e w' => Flw e k 160 ∧ Below w.heap.size w w' := by
  obtain ⟨c0, c1, c2⟩ := h.cells
  go_enter Tryd.func102, Tryd.ntmps102
  go_wp2_with fail
  refine (err16_some hr).mono ?_
  rintro e w1 ⟨f, rfl, hF, hb1⟩
  have hE1 := hE.later hb1
  have hP := placeFault_any hF hE1
  have hC := fun (w' : World) (hb : Below w1.heap.size w1 w') => codeFault_any (hF.later hb) (hE1.later hb)
  clear hE hr h c0 c1 c2 hF hE1
  go_wp2_with fail
  refine hP.mono ?_
  rintro e w2 ⟨rfl, hb2⟩
  have hC2 := hC w2 hb2
  clear hP hC
  go_wp2_with fail
  refine hC2.mono ?_
  rintro e w3 ⟨rfl, hb3⟩
  have hB := hb1.trans ((hb2.trans (hb3.mono hb2.size)).mono hb1.size)
  have hG := giveUp_any k 160 w3
  clear hC2 hb1 hb2 hb3
  go_wp2_with fail
  refine hG.mono ?_
  rintro e w4 ⟨hf, rfl⟩
  rw [flw_of hf]
  go_wp2
  exact ⟨rfl, rfl, hB⟩
set_option maxHeartbeats 1600000 in
theorem sure_u64 {w0 w : World} {gw gr : Nat} {D : Int} {l : List UInt8} {k : Nat} {v : Value} {os : List Bool} (h : WkS w0 w gw gr D l k v os) (x : Int) :
    Calls Tryd.prog 119 #[.pointer (some ⟨gw, 0, none⟩), .int .u64 x] w fun e w' => e = .returned (.int .u64 x) ∧ w' = w := by
  obtain ⟨c0, c1, c2⟩ := h.wk.cells
  have hr := h.rd
  clear h
  go_enter Tryd.func119, Tryd.ntmps119
  go_wp2_with fail
  refine (err16_none hr).mono ?_
  rintro e w1 ⟨rfl, rfl⟩
  go_wp2
  go_ret
  exact ⟨rfl, rfl⟩
set_option maxHeartbeats 1600000 in
theorem sure_u64_bad {w : World} {gw gr : Nat} {D : Int} {l : List UInt8} {k : Nat} {v : Value} (h : S3 w gw 122 (.pointer (some ⟨gr, 0, none⟩)) (.int .i64 D) v) (hr : Rd w gr l k true) (hE : ErrVar w) (x : Int) :
    Calls Tryd.prog 119 #[.pointer (some ⟨gw, 0, none⟩), .int .u64 x] w fun e w' => Flw e k 160 ∧ Below w.heap.size w w' := by
  obtain ⟨c0, c1, c2⟩ := h.cells
  go_enter Tryd.func119, Tryd.ntmps119
  go_wp2_with fail
  refine (err16_some hr).mono ?_
  rintro e w1 ⟨f, rfl, hF, hb1⟩
  have hE1 := hE.later hb1
  have hP := placeFault_any hF hE1
  have hC := fun (w' : World) (hb : Below w1.heap.size w1 w') => codeFault_any (hF.later hb) (hE1.later hb)
  clear hE hr h c0 c1 c2 hF hE1
  go_wp2_with fail
  refine hP.mono ?_
  rintro e w2 ⟨rfl, hb2⟩
  have hC2 := hC w2 hb2
  clear hP hC
  go_wp2_with fail
  refine hC2.mono ?_
  rintro e w3 ⟨rfl, hb3⟩
  have hB := hb1.trans ((hb2.trans (hb3.mono hb2.size)).mono hb1.size)
  have hG := giveUp_any k 160 w3
  clear hC2 hb1 hb2 hb3
  go_wp2_with fail
  refine hG.mono ?_
  rintro e w4 ⟨hf, rfl⟩
  rw [flw_of hf]
  go_wp2
  exact ⟨rfl, rfl, hB⟩
set_option maxHeartbeats 1600000 in
set_option maxRecDepth 100000 in
theorem order17_any {w0 w : World} {gw gr : Nat} {D : Int} {l : List UInt8} {k : Nat} {v : Value} {os : List Bool} (h : WkS w0 w gw gr D l k v os) (hE : ErrVar w0) :
    Calls Tryd.prog 76 #[.pointer (some ⟨gw, 0, none⟩)] w (Pst w0 w gw gr D l v os (ordS l k) (fun b => .bool b)) := by
  obtain ⟨c0, c1, c2⟩ := h.wk.cells
  have hA := at16_any h.rd
  have hB := byte16_any h.rd
  cases hw : word l k 1 false with
  | bad p c =>
    obtain ⟨e1, e2, rfl, rfl⟩ := word_no hw
    rw [e1, e2] at hB
    have HR : Hid (ordS l p = .bad p 160) := by show (word l p 1 false).bind _ = _; rw [hw]; rfl
    generalize ((rV l p false 1 false : Nat) : Int) = x at hB
    clear hw e1 e2
    go_enter Tryd.func76, Tryd.ntmps76
    go_wp2_with fail
    refine hA.mono ?_
    rintro e w1 ⟨rfl, rfl⟩
    clear hA
    go_wp2_with fail
    refine hB.mono ?_
    rintro e w2 ⟨rfl, hR, hI⟩
    obtain ⟨hS, hb⟩ := h.fail hI
    have hU := sure_u8_bad hS hR (hE.later hb) x
    clear hB c0 c1 c2 hS hR hI hE h
    go_wp2_with fail
    refine hU.mono ?_
    rintro e w3 ⟨hf, hb2⟩
    rw [flw_of hf]
    have hb3 := hb.trans (hb2.mono hb.size)
    go_wp2
    refine ⟨rfl, ?_⟩
    unfold Pst
    rw [HR.out]
    exact ⟨rfl, hb3⟩
  | ok x k' =>
    obtain ⟨e1, e2, e3⟩ := word_rd hw
    have hx := (word_ok hw).2.2
    rw [e1, e2, e3] at hB
    rw [Nat.pow_one] at hx
    clear e1 e2 e3
    have hW := fun w2 (hR : Rd w2 gr l k' false) (hI : In gr (gr + 1) w w2) => h.read hR hI
    have HC : Hid (∀ w2, In gr (gr + 1) w w2 → Ch (Ex gw gr v) w w2) := fun w2 hI => Ch.of_in hI (Or.inl rfl)
    have HO : Hid (ordS l k = if 1 < x then .bad k 170 else .ok (x == 1) k') := by show (word l k 1 false).bind _ = _; rw [hw]; rfl
    clear hw h
    go_enter Tryd.func76, Tryd.ntmps76
    go_wp2_with fail
    refine hA.mono ?_
    rintro e w1 ⟨rfl, rfl⟩
    clear hA
    go_wp2_with fail
    refine hB.mono ?_
    rintro e w2 ⟨rfl, hR, hI⟩
    have hS := hW w2 hR hI
    have hCh := HC.out w2 hI
    have hU := sure_u8 hS (x : Int)
    clear hB c0 c1 c2 hI hR hW
    go_wp2_with fail
    refine hU.mono ?_
    rintro e w3 ⟨rfl, rfl⟩
    clear hU
    by_cases hx1 : 1 < x
    · have t1 : decide ((x : Int) > 1) = true := by simp; omega
      have hG := giveUp_any k 170 w3
      have hbe := hS.bel
      clear hS hCh
      go_wp2_with fail
      refine hG.mono ?_
      rintro e w4 ⟨hf, rfl⟩
      rw [flw_of hf]
      clear hG
      go_wp2
      refine ⟨rfl, ?_⟩
      unfold Pst
      rw [HO.out, if_pos hx1]
      exact ⟨rfl, hbe⟩
    · have t1 : decide ((x : Int) > 1) = false := by simp; omega
      have t1' : decide (1 < (x : Int)) = false := by simp; omega
      have HE : Hid (((x : Int) == 1) = (x == 1)) := by show _ = _; rw [Bool.eq_iff_iff]; simp; omega
      go_wp2
      go_ret
      unfold Pst
      rw [HO.out, if_neg hx1]
      exact ⟨by rw [HE.out]; rfl, hS, hCh⟩
namespace Wk
theorem and_exp (x : Nat) : x &&& 9218868437227405312 = x / 4503599627370496 % 2048 * 4503599627370496 := by
  have e1 : (9218868437227405312 : Nat) = 2047 <<< 52 := by decide
  have e2 : x / 4503599627370496 % 2048 * 4503599627370496 = ((x >>> 52) &&& 2047) <<< 52 := by
    rw [Nat.shiftRight_eq_div_pow, show (2047 : Nat) = 2 ^ 11 - 1 by decide, Nat.and_two_pow_sub_one_eq_mod, Nat.shiftLeft_eq]
  rw [e1, e2]
  refine Nat.eq_of_testBit_eq fun i => ?_
  simp only [Nat.testBit_and, Nat.testBit_shiftLeft, Nat.testBit_shiftRight]
  by_cases hi : i ≥ 52
  · have : 52 + (i - 52) = i := by omega
    simp [hi, this]
  · simp [hi]
theorem fin_is {x : Nat} (hx : x < 18446744073709551616) : (bits .and .u64 (x : Int) 9218868437227405312 != 9218868437227405312) = finB x := by
  have := u64_and_nat x 9218868437227405312 hx (by decide)
  rw [show ((9218868437227405312 : Nat) : Int) = 9218868437227405312 from rfl] at this
  rw [this, and_exp]
  unfold finB
  rw [Bool.eq_iff_iff]
  simp only [bne_iff_ne, ne_eq]
  omega
theorem nan_is {x : Nat} (hx : x < 18446744073709551616) : decide (bits .andNot .u64 (x : Int) 9223372036854775808 > 9218868437227405312) = nanB x := by
  have := u64_andNot_nat x 9223372036854775808 hx (by decide)
  rw [show ((9223372036854775808 : Nat) : Int) = 9223372036854775808 from rfl, show (18446744073709551615 - 9223372036854775808 : Nat) = 2 ^ 63 - 1 by decide, Nat.and_two_pow_sub_one_eq_mod] at this
  rw [this]
  unfold nanB
  rw [Bool.eq_iff_iff]
  simp only [decide_eq_true_eq, Bool.and_eq_true, beq_iff_eq, bne_iff_ne, ne_eq]
  omega
end Wk
set_option maxHeartbeats 1600000 in
theorem isFinite_any {x : Nat} (hx : x < 18446744073709551616) (w : World) :
    Calls Tryd.prog 121 #[.int .u64 (x : Int)] w fun e w' => e = .returned (.bool (finB x)) ∧ w' = w := by
  have HF : Hid ((bits .and .u64 (x : Int) 9218868437227405312 != 9218868437227405312) = finB x) := fin_is hx
  go_enter Tryd.func121, Tryd.ntmps121
  go_wp2
  go_ret
  exact ⟨by rw [← HF.out]; rfl, rfl⟩
set_option maxHeartbeats 1600000 in
theorem isNaN_any {x : Nat} (hx : x < 18446744073709551616) (w : World) :
    Calls Tryd.prog 107 #[.int .u64 (x : Int)] w fun e w' => e = .returned (.bool (nanB x)) ∧ w' = w := by
  have HF : Hid (decide (bits .andNot .u64 (x : Int) 9223372036854775808 > 9218868437227405312) = nanB x) := nan_is hx
  go_enter Tryd.func107, Tryd.ntmps107
  go_wp2
  go_ret
  exact ⟨by rw [← HF.out]; rfl, rfl⟩
set_option maxHeartbeats 1600000 in
theorem isKind_any (x : Nat) (w : World) :
    Calls Tryd.prog 104 #[.int .i64 (x : Int)] w fun e w' => e = .returned (.bool (decide (1 ≤ x ∧ x ≤ 7))) ∧ w' = w := by
  by_cases h1 : 1 ≤ x
  · have t1 : decide ((x : Int) ≥ 1) = true := by simp; omega
    have HF : Hid (decide ((x : Int) ≤ 7) = decide (1 ≤ x ∧ x ≤ 7)) := by show _ = _; rw [Bool.eq_iff_iff]; simp; omega
    go_enter Tryd.func104, Tryd.ntmps104
    go_wp2
    go_ret
    exact ⟨by rw [← HF.out]; simp, rfl⟩
  · have t1 : decide ((x : Int) ≥ 1) = false := by simp; omega
    have HF : Hid (false = decide (1 ≤ x ∧ x ≤ 7)) := by show _ = _; rw [Bool.eq_iff_iff]; simp; omega
    go_enter Tryd.func104, Tryd.ntmps104
    go_wp2
    go_ret
    exact ⟨by rw [← HF.out]; rfl, rfl⟩
set_option maxHeartbeats 1600000 in
theorem fits17_any (home kind : Nat) (w : World) :
    Calls Tryd.prog 105 #[.int .i64 (home : Int), .int .i64 (kind : Int)] w fun e w' => e = .returned (.bool (fitsB home kind)) ∧ w' = w := by
  have HK : ∀ n : Nat, Hid (((kind : Int) == (n : Int)) = (kind == n)) := fun n => by show _ = _; rw [Bool.eq_iff_iff]; simp; omega
  by_cases h4 : home = 4
  · subst h4
    go_enter Tryd.func105, Tryd.ntmps105
    go_wp2
    go_ret
    exact ⟨by have := (HK 1).out; unfold fitsB; rw [if_pos rfl, ← this]; rfl, rfl⟩
  · have t4 : ((home : Int) == 4) = false := by simp; omega
    by_cases h5 : home = 5
    · subst h5
      go_enter Tryd.func105, Tryd.ntmps105
      go_wp2
      go_ret
      exact ⟨by have := (HK 2).out; unfold fitsB; rw [if_neg h4, if_pos rfl, ← this]; rfl, rfl⟩
    · have t5 : ((home : Int) == 5) = false := by simp; omega
      by_cases h6 : home = 6
      · subst h6
        go_enter Tryd.func105, Tryd.ntmps105
        go_wp2
        go_ret
        exact ⟨by have := (HK 3).out; unfold fitsB; rw [if_neg h4, if_neg h5, if_pos rfl, ← this]; rfl, rfl⟩
      · have t6 : ((home : Int) == 6) = false := by simp; omega
        go_enter Tryd.func105, Tryd.ntmps105
        go_wp2
        go_ret
        exact ⟨by unfold fitsB; rw [if_neg h4, if_neg h5, if_neg h6]; rfl, rfl⟩
set_option maxHeartbeats 1600000 in
theorem leastPart_any (kind : Nat) (w : World) :
    Calls Tryd.prog 84 #[.int .i64 (kind : Int)] w fun e w' => e = .returned (.int .i64 ((least kind : Nat) : Int)) ∧ w' = w := by
  by_cases h4 : kind = 4
  · subst h4
    go_enter Tryd.func84, Tryd.ntmps84
    go_wp2
    go_ret
    exact ⟨rfl, rfl⟩
  · have t4 : ((kind : Int) == 4) = false := by simp; omega
    go_enter Tryd.func84, Tryd.ntmps84
    go_wp2
    go_ret
    exact ⟨by unfold least; rw [if_neg h4]; rfl, rfl⟩
set_option maxHeartbeats 1600000 in
set_option maxRecDepth 100000 in
theorem kind17_any {w0 w : World} {gw gr : Nat} {D : Int} {l : List UInt8} {k : Nat} {v : Value} {os : List Bool} (h : WkS w0 w gw gr D l k v os) (hE : ErrVar w0) (home : Nat) (little : Bool) :
    Calls Tryd.prog 77 #[.pointer (some ⟨gw, 0, none⟩), .int .i64 (home : Int), .bool little] w (Pst w0 w gw gr D l v os (kindS l home k little) (fun n => .int .i64 (n : Int))) := by
  obtain ⟨c0, c1, c2⟩ := h.wk.cells
  have hA := at16_any h.rd
  have hB := word32_any (little := little) h.rd
  cases hw : word l k 4 little with
  | bad p c =>
    obtain ⟨e1, e2, rfl, rfl⟩ := word_no hw
    rw [e1, e2] at hB
    have HR : Hid (kindS l home p little = .bad p 160) := by show (word l p 4 little).bind _ = _; rw [hw]; rfl
    generalize ((rV l p false 4 little : Nat) : Int) = x at hB
    clear hw e1 e2
    go_enter Tryd.func77, Tryd.ntmps77
    go_wp2_with fail
    refine hA.mono ?_
    rintro e w1 ⟨rfl, rfl⟩
    clear hA
    go_wp2_with fail
    refine hB.mono ?_
    rintro e w2 ⟨rfl, hR, hI⟩
    obtain ⟨hS, hb⟩ := h.fail hI
    have hU := sure_u32_bad hS hR (hE.later hb) x
    clear hB c0 c1 c2 hS hR hI hE h
    go_wp2_with fail
    refine hU.mono ?_
    rintro e w3 ⟨hf, hb2⟩
    rw [flw_of hf]
    have hb3 := hb.trans (hb2.mono hb.size)
    go_wp2
    refine ⟨rfl, ?_⟩
    unfold Pst
    rw [HR.out]
    exact ⟨rfl, hb3⟩
  | ok x k' =>
    obtain ⟨e1, e2, e3⟩ := word_rd hw
    have hx := (word_ok hw).2.2
    rw [e1, e2, e3] at hB
    rw [show (256 : Nat) ^ 4 = 4294967296 by decide] at hx
    clear e1 e2 e3
    have hW := fun w2 (hR : Rd w2 gr l k' false) (hI : In gr (gr + 1) w w2) => h.read hR hI
    have HC : Hid (∀ w2, In gr (gr + 1) w w2 → Ch (Ex gw gr v) w w2) := fun w2 hI => Ch.of_in hI (Or.inl rfl)
    have HO : Hid (kindS l home k little = if x < 1 ∨ 7 < x then .bad k 171 else if fitsB home x = false then .bad k 172 else .ok x k') := by show (word l k 4 little).bind _ = _; rw [hw]; rfl
    clear hw h
    go_enter Tryd.func77, Tryd.ntmps77
    go_wp2_with fail
    refine hA.mono ?_
    rintro e w1 ⟨rfl, rfl⟩
    clear hA
    go_wp2_with fail
    refine hB.mono ?_
    rintro e w2 ⟨rfl, hR, hI⟩
    have hS := hW w2 hR hI
    have hCh := HC.out w2 hI
    have hU := sure_u32 hS (x : Int)
    clear hB c0 c1 c2 hI hR hW
    go_wp2_with fail
    refine hU.mono ?_
    rintro e w3 ⟨rfl, rfl⟩
    clear hU
    have hK := isKind_any x w3
    have hx8 : (x : Int) % 18446744073709551616 = (x : Int) := by omega
    by_cases hx1 : x < 1 ∨ 7 < x
    · have t1 : decide (1 ≤ x ∧ x ≤ 7) = false := by simp; omega
      rw [t1] at hK
      clear t1
      go_wp2_with fail
      refine hK.mono ?_
      rintro e w4 ⟨rfl, rfl⟩
      clear hK
      have hG := giveUp_any k 171 w4
      have hbe := hS.bel
      clear hS hCh
      go_wp2_with fail
      refine hG.mono ?_
      rintro e w5 ⟨hf, rfl⟩
      rw [flw_of hf]
      clear hG
      go_wp2
      refine ⟨rfl, ?_⟩
      unfold Pst
      rw [HO.out, if_pos hx1]
      exact ⟨rfl, hbe⟩
    · have t1 : decide (1 ≤ x ∧ x ≤ 7) = true := by simp; omega
      rw [t1] at hK
      clear t1
      go_wp2_with fail
      refine hK.mono ?_
      rintro e w4 ⟨rfl, rfl⟩
      clear hK
      have hF := fits17_any home x w4
      by_cases hx2 : fitsB home x = false
      · rw [hx2] at hF
        go_wp2_with fail
        refine hF.mono ?_
        rintro e w5 ⟨rfl, rfl⟩
        clear hF
        have hG := giveUp_any k 172 w5
        have hbe := hS.bel
        clear hS hCh
        go_wp2_with fail
        refine hG.mono ?_
        rintro e w6 ⟨hf, rfl⟩
        rw [flw_of hf]
        clear hG
        go_wp2
        refine ⟨rfl, ?_⟩
        unfold Pst
        rw [HO.out, if_neg hx1, if_pos hx2]
        exact ⟨rfl, hbe⟩
      · rw [show fitsB home x = true by simpa using hx2] at hF
        go_wp2_with fail
        refine hF.mono ?_
        rintro e w5 ⟨rfl, rfl⟩
        clear hF
        go_wp2
        go_ret
        unfold Pst
        rw [HO.out, if_neg hx1, if_neg hx2]
        exact ⟨rfl, hS, hCh⟩
set_option maxHeartbeats 1600000 in
set_option maxRecDepth 100000 in
theorem count17_any {w0 w : World} {gw gr : Nat} {D : Int} {l : List UInt8} {k : Nat} {v : Value} {os : List Bool} (h : WkS w0 w gw gr D l k v os) (hE : ErrVar w0) (lst : Nat) (hl : lst ≤ 100) (little : Bool) :
    Calls Tryd.prog 80 #[.pointer (some ⟨gw, 0, none⟩), .int .i64 (lst : Int), .bool little] w (Pst w0 w gw gr D l v os (countS l lst k little) (fun n => .int .i64 (n : Int))) := by
  obtain ⟨c0, c1, c2⟩ := h.wk.cells
  have hA := at16_any h.rd
  have hB := word32_any (little := little) h.rd
  cases hw : word l k 4 little with
  | bad p c =>
    obtain ⟨e1, e2, rfl, rfl⟩ := word_no hw
    rw [e1, e2] at hB
    have HR : Hid (countS l lst p little = .bad p 160) := by show (word l p 4 little).bind _ = _; rw [hw]; rfl
    generalize ((rV l p false 4 little : Nat) : Int) = x at hB
    clear hw e1 e2
    go_enter Tryd.func80, Tryd.ntmps80
    go_wp2_with fail
    refine hA.mono ?_
    rintro e w1 ⟨rfl, rfl⟩
    clear hA
    go_wp2_with fail
    refine hB.mono ?_
    rintro e w2 ⟨rfl, hR, hI⟩
    obtain ⟨hS, hb⟩ := h.fail hI
    have hU := sure_u32_bad hS hR (hE.later hb) x
    clear hB c0 c1 c2 hS hR hI hE h
    go_wp2_with fail
    refine hU.mono ?_
    rintro e w3 ⟨hf, hb2⟩
    rw [flw_of hf]
    have hb3 := hb.trans (hb2.mono hb.size)
    go_wp2
    refine ⟨rfl, ?_⟩
    unfold Pst
    rw [HR.out]
    exact ⟨rfl, hb3⟩
  | ok x k' =>
    obtain ⟨e1, e2, e3⟩ := word_rd hw
    have hx := (word_ok hw).2.2
    rw [e1, e2, e3] at hB
    rw [show (256 : Nat) ^ 4 = 4294967296 by decide] at hx
    clear e1 e2 e3
    have hW := fun w2 (hR : Rd w2 gr l k' false) (hI : In gr (gr + 1) w w2) => h.read hR hI
    have HC : Hid (∀ w2, In gr (gr + 1) w w2 → Ch (Ex gw gr v) w w2) := fun w2 hI => Ch.of_in hI (Or.inl rfl)
    have HO : Hid (countS l lst k little = if l.length - k' < x * lst then .bad k 173 else .ok x k') := by show (word l k 4 little).bind _ = _; rw [hw]; rfl
    clear hw h
    go_enter Tryd.func80, Tryd.ntmps80
    go_wp2_with fail
    refine hA.mono ?_
    rintro e w1 ⟨rfl, rfl⟩
    clear hA
    go_wp2_with fail
    refine hB.mono ?_
    rintro e w2 ⟨rfl, hR, hI⟩
    have hS := hW w2 hR hI
    have hCh := HC.out w2 hI
    have hU := sure_u32 hS (x : Int)
    clear hB c0 c1 c2 hI hR hW
    go_wp2_with fail
    refine hU.mono ?_
    rintro e w3 ⟨rfl, rfl⟩
    clear hU
    have hL := left16_any hS.rd
    obtain ⟨d0, d1, d2⟩ := hS.wk.cells
    have hle := hS.rd.le
    obtain ⟨M, hM⟩ : ∃ M, M = x * lst := ⟨_, rfl⟩
    have hM9 : M < 4294967296000 := by rw [hM]; have := Nat.mul_le_mul_left x hl; omega
    have hx8 : (x : Int) % 18446744073709551616 = (x : Int) := by omega
    have hl8 : (lst : Int) % 18446744073709551616 = (lst : Int) := by omega
    have hm8 : (x : Int) * (lst : Int) = (M : Int) := by rw [hM]; simp
    have hm9 : (M : Int) % 18446744073709551616 = (M : Int) := by omega
    have HM : Hid (M = x * lst) := hM
    clear hM
    obtain ⟨Q, hQ⟩ : ∃ Q, Q = l.length - k' := ⟨_, rfl⟩
    rw [← hQ] at hL
    have HQ : Hid (Q = l.length - k') := hQ
    have hQ9 : Q ≤ 100000000 := by omega
    have hq8 : (Q : Int) % 18446744073709551616 = (Q : Int) := by omega
    clear hQ hle
    go_wp2_with fail
    refine hL.mono ?_
    rintro e w4 ⟨rfl, d, rfl⟩
    have hbd : Below w3.heap.size w3 (w3.drewN d) := below_drewN (Below.refl _ _) d
    have hS4 := hS.later hbd
    have hCh4 := hCh.drewN d
    clear hL d0 d1 d2 hS hCh hbd
    by_cases hx1 : Q < M
    · have t1 : decide ((M : Int) > (Q : Int)) = true := by simp; omega
      have hG := giveUp_any k 173 (w3.drewN d)
      have hbe := hS4.bel
      clear hS4 hCh4
      go_wp2_with fail
      refine hG.mono ?_
      rintro e w5 ⟨hf, rfl⟩
      rw [flw_of hf]
      clear hG
      go_wp2
      refine ⟨rfl, ?_⟩
      unfold Pst
      rw [HO.out, if_pos (by rw [← HQ.out, ← HM.out]; exact hx1)]
      exact ⟨rfl, hbe⟩
    · have t1 : decide ((M : Int) > (Q : Int)) = false := by simp; omega
      go_wp2
      go_ret
      unfold Pst
      rw [HO.out, if_neg (by rw [← HQ.out, ← HM.out]; exact hx1)]
      exact ⟨rfl, hS4, hCh4⟩
def Pmu (r : Rs Unit) (e : Ending) : Prop := match r with | .ok _ _ => e = .returned (.tuple #[]) | .bad p c => Flw e p c
set_option maxHeartbeats 1600000 in
set_option maxRecDepth 100000 in
theorem must17_any {k x y : Nat} (hk : k ≤ 100000000) (hx : x < 18446744073709551616) (hy : y < 18446744073709551616) (w : World) :
    Calls Tryd.prog 108 #[.int .i64 (k : Int), .agg #[.int .u64 (x : Int), .int .u64 (y : Int)]] w fun e w' => Below w.heap.size w w' ∧ Pmu (mustS k (x, y)) e := by
  have hX := fun w => isFinite_any hx w
  have hY := fun w => isFinite_any hy w
  have hb : ∀ o, Below w.heap.size w (w.alloc o) := fun o => alloc_below o
  by_cases fx : finB x = false
  · rw [fx] at hX
    have HR : Hid (mustS k (x, y) = .bad k 175) := by show mustS k (x, y) = _; unfold mustS; rw [if_pos fx]
    go_enter Tryd.func108, Tryd.ntmps108
    go_wp2_with fail
    refine (hX _).mono ?_
    rintro e w1 ⟨rfl, rfl⟩
    clear hX hY
    go_wp2_with fail
    refine (giveUp_any k 175 _).mono ?_
    rintro e w2 ⟨hf, rfl⟩
    rw [flw_of hf]
    go_wp2
    refine ⟨rfl, hb _, ?_⟩
    rw [HR.out]
    exact rfl
  · rw [show finB x = true by simpa using fx] at hX
    have e8 : (k : Int) + 8 = ((k + 8 : Nat) : Int) := by omega
    have hG : ∀ w, Calls Tryd.prog 56 #[.int .i64 ((k : Int) + 8), .int .i64 175] w fun e w' => Flw e (k + 8) 175 ∧ w' = w := fun w => by rw [e8]; exact giveUp_any (k + 8) 175 w
    clear e8
    by_cases fy : finB y = false
    · rw [fy] at hY
      have HR : Hid (mustS k (x, y) = .bad (k + 8) 175) := by show mustS k (x, y) = _; unfold mustS; rw [if_neg fx, if_pos fy]
      go_enter Tryd.func108, Tryd.ntmps108
      go_wp2_with fail
      refine (hX _).mono ?_
      rintro e w1 ⟨rfl, rfl⟩
      clear hX
      go_wp2_with fail
      refine (hY _).mono ?_
      rintro e w1 ⟨rfl, rfl⟩
      clear hY
      go_wp2_with fail
      refine (hG _).mono ?_
      rintro e w2 ⟨hf, rfl⟩
      rw [flw_of hf]
      clear hG
      go_wp2
      refine ⟨rfl, hb _, ?_⟩
      rw [HR.out]
      exact rfl
    · rw [show finB y = true by simpa using fy] at hY
      have HR : Hid (mustS k (x, y) = .ok () k) := by show mustS k (x, y) = _; unfold mustS; rw [if_neg fx, if_neg fy]
      go_enter Tryd.func108, Tryd.ntmps108
      go_wp2_with fail
      refine (hX _).mono ?_
      rintro e w1 ⟨rfl, rfl⟩
      clear hX
      go_wp2_with fail
      refine (hY _).mono ?_
      rintro e w1 ⟨rfl, rfl⟩
      clear hY hG
      go_wp2
      go_end0
      refine ⟨hb _, ?_⟩
      rw [HR.out]
      exact rfl
def ptv (q : Nat × Nat) : Value := .agg #[.int .u64 (q.1 : Int), .int .u64 (q.2 : Int)]
set_option maxHeartbeats 3200000 in
set_option maxRecDepth 100000 in
theorem pats17_any {w0 w : World} {gw gr : Nat} {D : Int} {l : List UInt8} {k : Nat} {v : Value} {os : List Bool} (h : WkS w0 w gw gr D l k v os) (hE : ErrVar w0) (little : Bool) :
    Calls Tryd.prog 106 #[.pointer (some ⟨gw, 0, none⟩), .bool little] w (Pst w0 w gw gr D l v os (patsS l k little) ptv) := by
  obtain ⟨B, hB⟩ : ∃ B, B = w.heap.size := ⟨_, rfl⟩
  have hl1 := h.lts
  have hl2 := h.bel.size
  have hne1 : B ≠ gr := by omega
  have hne2 : B ≠ gw := by omega
  have hob : v.ownBlock ≠ some B := fun e => by have := (h.row.blk e).2.1; omega
  obtain ⟨W, hW0⟩ : ∃ W, W = w.alloc (.cells #[.int .u64 0, .int .u64 0] 93) := ⟨_, rfl⟩
  have hbW : Below w.heap.size w W := by rw [hW0]; exact alloc_below _
  have hBW : W.heap[B]? = some (.cells #[.int .u64 0, .int .u64 0] 93 (0, 0)) := by rw [hW0, hB]; exact heap_alloc_new _ _
  have hS := h.later hbW
  have HW : Hid (w.alloc (.cells #[.int .u64 0, .int .u64 0] 93) = W) := hW0.symm
  have hR1 := word64_any (little := little) hS.rd
  obtain ⟨c0, c1, c2⟩ := hS.wk.cells
  have h0B : w0.heap.size ≤ B := by omega
  have HB : Hid (B = w.heap.size) := hB
  cases hw : word l k 8 little with
  | bad p c =>
    obtain ⟨e1, e2, rfl, rfl⟩ := word_no hw
    rw [e1, e2] at hR1
    have HR : Hid (patsS l p little = .bad p 160) := by show (word l p 8 little).bind _ = _; rw [hw]; rfl
    generalize ((rV l p false 8 little : Nat) : Int) = x at hR1
    clear hw e1 e2 h hW0 hB
    go_enter Tryd.func106, Tryd.ntmps106
    go_upto_region 1 with (fail)
    rw [HW.out]
    go_wp2_with fail
    refine hR1.mono ?_
    rintro e w2 ⟨rfl, hR, hI⟩
    obtain ⟨hS2, hb⟩ := hS.fail hI
    have hU := sure_u64_bad hS2 hR (hE.later hb) x
    clear hR1 c0 c1 c2 hS2 hR hI hE hS
    go_wp2_with fail
    refine hU.mono ?_
    rintro e w3 ⟨hf, hb2⟩
    rw [flw_of hf]
    have hb3 := hb.trans (hb2.mono hb.size)
    go_wp2
    refine ⟨rfl, ?_⟩
    unfold Pst
    rw [HR.out]
    exact ⟨rfl, hb3⟩
  | ok x k1 =>
    obtain ⟨e1, e2, e3⟩ := word_rd hw
    have hx := (word_ok hw).2.2
    rw [e1, e2, e3] at hR1
    clear e1 e2 e3
    have HK : Hid (patsS l k little = (word l k1 8 little).bind fun y k2 => .ok (x, y) k2) := by show (word l k 8 little).bind _ = _; rw [hw]; rfl
    clear hw h hW0 hB
    go_enter Tryd.func106, Tryd.ntmps106
    go_upto_region 1 with (fail)
    rw [HW.out]
    go_wp2_with fail
    refine hR1.mono ?_
    rintro e w2 ⟨rfl, hR, hI⟩
    have hS2 := hS.read hR hI
    have hBW2 := (hI.block B (lt_of_block hBW) (by omega)).trans hBW
    have hCh2 : Ch (Ex gw gr v) w w2 := (Ch.of_below (X := Ex gw gr v) hbW).trans (Ch.of_in (X := Ex gw gr v) hI (Or.inl rfl)) (fun _ _ x => x)
    clear hR1 c0 c1 c2 hI hR hS hBW hbW
    have hU := sure_u64 hS2 (x : Int)
    go_wp2_with fail
    refine hU.mono ?_
    rintro e w3 ⟨rfl, rfl⟩
    clear hU
    have hR1 := word64_any (little := little) hS2.rd
    obtain ⟨c0, c1, c2⟩ := hS2.wk.cells
    cases hw : word l k1 8 little with
    | bad p c =>
      obtain ⟨e1, e2, rfl, rfl⟩ := word_no hw
      rw [e1, e2] at hR1
      have HR : Hid (patsS l k little = .bad p 160) := by show _ = _; rw [HK.out, hw]; rfl
      generalize ((rV l p false 8 little : Nat) : Int) = y at hR1
      clear hw e1 e2 HK hBW2 hCh2
      go_wp2_with fail
      refine hR1.mono ?_
      rintro e w4 ⟨rfl, hR, hI⟩
      obtain ⟨hS3, hb⟩ := hS2.fail hI
      have hU := sure_u64_bad hS3 hR (hE.later hb) y
      clear hR1 c0 c1 c2 hS3 hR hI hE hS2
      go_wp2_with fail
      refine hU.mono ?_
      rintro e w5 ⟨hf, hb2⟩
      rw [flw_of hf]
      have hb3 := hb.trans (hb2.mono hb.size)
      go_wp2
      refine ⟨rfl, ?_⟩
      unfold Pst
      rw [HR.out]
      exact ⟨rfl, hb3⟩
    | ok y k2 =>
      obtain ⟨e1, e2, e3⟩ := word_rd hw
      rw [e1, e2, e3] at hR1
      clear e1 e2 e3
      have HR : Hid (patsS l k little = .ok (x, y) k2) := by show _ = _; rw [HK.out, hw]; rfl
      clear hw HK
      go_wp2_with fail
      refine hR1.mono ?_
      rintro e w4 ⟨rfl, hR, hI⟩
      have hS3 := hS2.read hR hI
      have hBW3 := (hI.block B (lt_of_block hBW2) (by omega)).trans hBW2
      have hCh3 := hCh2.trans (Ch.of_in (X := Ex gw gr v) hI (Or.inl rfl)) (fun _ _ x => x)
      clear hR1 c0 c1 c2 hI hR hS2 hBW2 hCh2
      have hU := sure_u64 hS3 (y : Int)
      go_wp2_with fail
      refine hU.mono ?_
      rintro e w5 ⟨rfl, rfl⟩
      clear hU
      have hC := fun i => cell_of hBW3 i
      have b0 := hC 0
      have b1 := hC 1
      have z0 : w5.frozen? ⟨B, 0, none⟩ = false := by simp [World.frozen?, hBW3]
      have z1 : w5.frozen? ⟨B, 1, none⟩ = false := by simp [World.frozen?, hBW3]
      have HS : Hid (WkS w0 w5 gw gr D l k2 v os) := hS3
      have HBB : Hid (w5.heap[B]? = some (.cells #[.int .u64 0, .int .u64 0] 93 (0, 0))) := hBW3
      have HC : Hid (Ch (Ex gw gr v) w w5) := hCh3
      simp at b0 b1
      rw [← HB.out]
      clear hC hS3 hBW3 hCh3
      go_wp2
      have hF := set2_block HBB.out (.int .u64 (x : Int)) (.int .u64 (y : Int))
      have f0 := cell_of hF 0
      have f1 := cell_of hF 1
      simp only [List.getElem?_toArray, List.getElem?_cons_zero, List.getElem?_cons_succ] at f0 f1
      refine bodyPost_ret (v := ptv (x, y)) (by simp [results, Tryd.results106, go_sem, f0, f1, ptv]) rfl ?_
      have hI : In B (B + 1) w5 ((w5.setCell ⟨B, 0, none⟩ (.int .u64 (x : Int))).setCell ⟨B, 1, none⟩ (.int .u64 (y : Int))) := ((In.refl _ _ _).set1 0 _).set1 1 _
      unfold Pst
      rw [HR.out]
      refine ⟨rfl, HS.out.inb hI h0B hne1 hne2 hob (NoB.two HBB.out (by simp) (by simp)), ?_⟩
      exact (HC.out.setCell (p := ⟨B, 0, none⟩) (Or.inl (by rw [← HB.out]; exact Nat.le_refl _)) _).setCell (p := ⟨B, 1, none⟩) (Or.inl (by rw [← HB.out]; exact Nat.le_refl _)) _
end Go.Proofs.YtinagjljebbceaaDoor

/- Layer 14: ftoa: Text, Hex. -/
import Derived.Test.YtjnmgjcmagnkeaaGreatDoorFtoD
namespace Go.Proofs.YtjnmgjcmagnkeaaGreatDoor
open Go.ChangeShapes Go.WideShapes Go.ChangeAt Go.RowKit
open Na Ar Ry Ft Lx Go.Shelf
set_option linter.unusedVariables false
namespace Ft
/-- the texts of 0, as they lie -/
structure ZeroVar (w : World) : Prop where
  c1 : w.cell? ⟨0, 1, none⟩ = some (.string ⟨#[48]⟩)
  c2 : w.cell? ⟨0, 2, none⟩ = some (.string ⟨#[48, 120, 48, 112, 43, 48]⟩)
  c3 : w.cell? ⟨0, 3, none⟩ = some (.string ⟨#[48, 101, 43, 48, 48]⟩)
theorem cell_lt {w : World} {p : Addr} {v : Value} (h : w.cell? p = some v) : p.block < w.heap.size := by
  rcases Nat.lt_or_ge p.block w.heap.size with q | q
  · exact q
  · simp [World.cell?, Array.getElem?_eq_none q] at h
theorem ZeroVar.later {w w' : World} (h : ZeroVar w) (hb : Below w.heap.size w w') : ZeroVar w' :=
  ⟨(hb.cell (cell_lt h.c1)).trans h.c1, (hb.cell (cell_lt h.c2)).trans h.c2, (hb.cell (cell_lt h.c3)).trans h.c3⟩
def zeroT (mode : Int) : B := if mode = 1 then [48] else if mode = 2 then [48, 120, 48, 112, 43, 48] else [48, 101, 43, 48, 48]
/-- a size's text -/
def sizeT (p mode : Int) : B := if p = 0 then zeroT mode else if mode = 1 then shT (dgS p) (ptS p) else if mode = 2 then hxS p else sciT (dgS p) (ptS p)
def textT (b mode : Int) : B := sgT (decide (9223372036854775808 ≤ b)) ++ sizeT (mg b) mode
theorem ex_len {e : Int} (h0 : -100000 ≤ e) (h1 : e ≤ 100000) {m : Nat} (hm : m ≤ 10) : (exT e m).length ≤ 31 := by
  unfold exT
  have := dd_len (n := e.natAbs) (by omega)
  rw [List.length_cons, List.length_append, List.length_replicate]; omega
theorem sci_len {d : B} {k : Int} (h0 : -10000 ≤ k) (h1 : k ≤ 10000) : (sciT d k).length ≤ d.length + 40 := by
  have := ex_len (e := k - 1) (m := 2) (by omega) (by omega) (by omega)
  unfold sciT
  rw [List.length_append, List.length_append, List.length_cons, List.length_take]
  split
  · rw [List.length_cons, List.length_drop]; omega
  · simp; omega
theorem pl_len {d : B} {k : Int} (h0 : -10000 ≤ k) (h1 : k ≤ 10000) : (plT d k).length ≤ d.length + 10002 := by
  unfold plT
  split
  · rw [List.length_cons, List.length_cons, List.length_append, List.length_replicate]; omega
  · split
    · rw [List.length_append, List.length_cons, List.length_take, List.length_drop]; omega
    · rw [List.length_append, List.length_replicate]; omega
theorem hxT_len {x : Nat} (hx : x < 18446744073709551616) {e : Int} (h0 : -100000 ≤ e) (h1 : e ≤ 100000) : (hxT x e).length ≤ 60 := by
  have := ex_len (e := e) (m := 1) (by omega) (by omega) (by omega)
  have := hx_len (g := 16) hx (hx_full x)
  unfold hxT
  rw [List.length_append, List.length_append, List.length_cons]
  split
  · rw [List.length_cons]; simp; omega
  · simp; omega
/-- a finite size: its parts -/
theorem size_parts {p : Int} (h0 : 0 < p) (h1 : p ≤ mostP) : 0 < spM p ∧ spM p < 9007199254740992 ∧ -1074 ≤ spX p ∧ spX p ≤ 971 := by
  obtain ⟨s1, s2, s3⟩ := size_fin (Int.le_of_lt h0) h1
  obtain ⟨q, e1, e2, e3, e4, -, -, -⟩ := num_parts s1 s2
  have : spM p ≠ 0 := fun q => by have := (num_zero s1 s2).mp q; omega
  omega
theorem hxS_len {p : Int} (h0 : 0 < p) (h1 : p ≤ mostP) : (hxS p).length ≤ 60 := by
  obtain ⟨a1, a2, a3, a4⟩ := size_parts h0 h1
  have A := ab_of (m := (spM p).toNat) (by omega) (by omega)
  have b0 := A.a0
  have b1 := A.a1
  exact hxT_len A.lt (by omega) (by omega)
theorem size_len {p m : Int} (h0 : 0 ≤ p) (h1 : p ≤ mostP) (hm : m = 1 ∨ m = 2 ∨ m = 3) : (sizeT p m).length ≤ 20000 := by
  by_cases q : p = 0
  · have e : sizeT p m = zeroT m := if_pos q
    rw [e]; unfold zeroT; split; simp; split <;> simp
  · have d := ds_of (p := p) (by omega) h1
    have l1 := d.len
    have k0 := d.k0
    have k1 := d.k1
    have g1 := sci_len (d := dgS p) (k := ptS p) (by omega) (by omega)
    have g2 := pl_len (d := dgS p) (k := ptS p) (by omega) (by omega)
    have g3 := hxS_len (p := p) (by omega) h1
    unfold sizeT
    rw [if_neg q]
    rcases hm with rfl | rfl | rfl
    · rw [if_pos rfl]; unfold shT; split <;> omega
    · rw [if_neg (by omega), if_pos rfl]; omega
    · rw [if_neg (by omega), if_neg (by omega)]; omega
theorem text_len {b m : Int} (hu : U b) (hf : ef b ≠ 2047) (hm : m = 1 ∨ m = 2 ∨ m = 3) : (textT b m).length ≤ 20001 := by
  have a1 := mg_bd b
  have a2 := ef_bd b
  have a3 := fr_bd b
  have a4 := mg_parts b
  have := size_len (p := mg b) (m := m) (by omega) (by unfold mostP; omega) hm
  unfold textT sgT
  rw [List.length_append]
  split <;> simp <;> omega
theorem fnEqN (w : World) (f : Fn) (a b : Array Value) : (binOp .eql 61 (.func f a b) .nilFunc).run Tryz.prog w = .ok (.bool false) w := by
  simp only [binOp, Op.equal, Sem.run_bind, Sem.run_pure]
  kernel_rfl
theorem fnEqY (w : World) : (binOp .eql 61 .nilFunc .nilFunc).run Tryz.prog w = .ok (.bool true) w := by kernel_rfl
end Ft
theorem wayOf_none {m : Int} (h1 : m ≠ 1) (h2 : m ≠ 2) (h3 : m ≠ 3) (w : World) : Calls Tryz.prog 26 #[.int .i64 m] w fun r w' => r = .returned .nilFunc ∧ w' = w := by
  have d1 : (m == 1) = false := beq_no h1
  have d2 : (m == 2) = false := beq_no h2
  have d3 : (m == 3) = false := beq_no h3
  go_enter Tryz.func26, Tryz.ntmps26
  go_wp2
  go_ret
  exact ⟨rfl, rfl⟩
theorem way1 (w : World) : Calls Tryz.prog 26 #[.int .i64 1] w fun r w' => r = .returned (.func (.func 51) #[] #[]) ∧ w' = w := by
  go_enter Tryz.func26, Tryz.ntmps26
  go_wp2
  go_ret
  exact ⟨rfl, rfl⟩
theorem way2 (w : World) : Calls Tryz.prog 26 #[.int .i64 2] w fun r w' => r = .returned (.func (.func 52) #[] #[]) ∧ w' = w := by
  go_enter Tryz.func26, Tryz.ntmps26
  go_wp2
  go_ret
  exact ⟨rfl, rfl⟩
theorem way3 (w : World) : Calls Tryz.prog 26 #[.int .i64 3] w fun r w' => r = .returned (.func (.func 53) #[] #[]) ∧ w' = w := by
  go_enter Tryz.func26, Tryz.ntmps26
  go_wp2
  go_ret
  exact ⟨rfl, rfl⟩
set_option maxRecDepth 100000 in
theorem text14_none {b m : Int} (h1 : m ≠ 1) (h2 : m ≠ 2) (h3 : m ≠ 3) (w : World) :
    Calls Tryz.prog 10 #[.int .u64 b, .int .i64 m] w fun r w' => r = .returned (.tuple #[.string ⟨#[]⟩, .int .i64 140]) ∧ w' = w := by
  have hW := fun w => wayOf_none h1 h2 h3 w
  have f1 := fnEqY
  go_enter Tryz.func10, Tryz.ntmps10
  go_wp2_with fail
  refine (hW _).mono ?_
  rintro e w1 ⟨rfl, hw⟩
  rw [hw]
  clear hW hw
  go_wp2
  go_ret2
  exact ⟨rfl, rfl⟩
set_option maxRecDepth 100000 in
theorem text14_inf {b m : Int} (hu : U b) (hf : ef b = 2047) (hm : m = 1 ∨ m = 2 ∨ m = 3) (w : World) :
    Calls Tryz.prog 10 #[.int .u64 b, .int .i64 m] w fun r w' => r = .returned (.tuple #[.string ⟨#[]⟩, .int .i64 60]) ∧ w' = w := by
  have hS := fun w => f6Split_any hu w
  have e1 : fiE b = 60 := if_pos hf
  rw [e1] at hS
  clear e1
  have hW : ∀ w, ∃ f, Calls Tryz.prog 26 #[.int .i64 m] w fun r w' => r = .returned (.func f #[] #[]) ∧ w' = w := fun w => by
    rcases hm with rfl | rfl | rfl
    · exact ⟨_, way1 w⟩
    · exact ⟨_, way2 w⟩
    · exact ⟨_, way3 w⟩
  have f1 := fnEqN
  obtain ⟨f, hw1⟩ := hW w
  clear hW
  go_enter Tryz.func10, Tryz.ntmps10
  go_wp2_with fail
  refine hw1.mono ?_
  rintro e w1 ⟨rfl, hw⟩
  rw [hw]
  clear hw1 hw
  go_wp2_with fail
  refine (hS _).mono ?_
  rintro e w1 ⟨rfl, hw⟩
  rw [← hw]
  clear hS hw
  go_wp2
  go_ret2
  exact ⟨rfl, rfl⟩
set_option maxHeartbeats 1600000 in
set_option maxRecDepth 100000 in
/-- behind the way: whatever it says -/
theorem text14_way {b m : Int} (hu : U b) (hf : ef b ≠ 2047) (f : Nat) (hm0 : 1 ≤ m) (hm1 : m ≤ 3) (w : World) (hz : ZeroVar w) (hen : ∀ args w, (callFunc f args).run Tryz.prog w = .ok (.enter f args) w) (S : B) (hS' : S.length ≤ 100000)
    (hW : ∀ w, Calls Tryz.prog 26 #[.int .i64 m] w fun r w' => r = .returned (.func (.func f) #[] #[]) ∧ w' = w)
    (hF : mg b ≠ 0 → Calls Tryz.prog f #[.int .u64 b] w fun r w' => r = .returned (.string (str S)) ∧ Below w.heap.size w w') (h0 : mg b = 0 → S = zeroT m) :
    Calls Tryz.prog 10 #[.int .u64 b, .int .i64 m] w fun r w' => r = .returned (.tuple #[.string (str (sgT (decide (9223372036854775808 ≤ b)) ++ S)), .int .i64 0]) ∧ Below w.heap.size w w' := by
  have hS := fun w => f6Split_any hu w
  have e1 : fiE b = 0 := if_neg hf
  have e2 : spS b = decide (9223372036854775808 ≤ b) := if_neg hf
  have hz0 := num_zero hu hf
  rw [e1, e2] at hS
  clear e1 e2
  have f1 := fnEqN
  obtain ⟨C, hC, hcl⟩ : ∃ C : ByteArray, C = str (zeroT m) ∧ w.cell? ⟨0, m.toNat, none⟩ = some (.string C) := by
    have : m = 1 ∨ m = 2 ∨ m = 3 := by omega
    rcases this with rfl | rfl | rfl
    · exact ⟨_, rfl, hz.c1⟩
    · exact ⟨_, rfl, hz.c2⟩
    · exact ⟨_, rfl, hz.c3⟩
  obtain ⟨k, rfl⟩ : ∃ k : Nat, m = (k : Int) := ⟨m.toNat, by omega⟩
  rw [Int.toNat_natCast] at hcl
  have HC : Hid (C = str (zeroT (k : Int))) := hC
  have hk : k < 4 := by omega
  obtain ⟨T, cT, tT, HT⟩ := catE (ByteArray.mk #[45]) (str S)
  have z1 : (ByteArray.mk #[45]).size = 1 := rfl
  have sS : (str S).size = S.length := str_size S
  rw [z1] at tT
  clear hC hz
  by_cases q : mg b = 0
  · have eC : C = str S := by rw [h0 q]; exact HC.out
    have m0 : spM b = 0 := hz0.mpr q
    rw [m0] at hS
    rw [eC] at hcl
    clear eC HC h0 hF m0 hz0
    by_cases qs : 9223372036854775808 ≤ b
    · have HR : Hid (str (sgT (decide (9223372036854775808 ≤ b)) ++ S) = T) := by rw [decide_eq_true qs]; exact (str_eq (by rw [HT.out, str_list]; rfl)).symm
      rw [decide_eq_true qs] at hS
      clear HT
      go_enter Tryz.func10, Tryz.ntmps10
      go_wp2_with fail
      refine (hW _).mono ?_
      rintro e w1 ⟨rfl, hw⟩
      rw [hw]
      clear hW hw
      go_wp2_with fail
      refine (hS _).mono ?_
      rintro e w1 ⟨rfl, hw⟩
      rw [← hw]
      clear hS hw
      go_wp2
      go_ret2
      exact ⟨by rw [HR.out]; rfl, Below.refl _ _⟩
    · have HR : Hid (str (sgT (decide (9223372036854775808 ≤ b)) ++ S) = str S) := by rw [decide_eq_false qs]; rfl
      rw [decide_eq_false qs] at hS
      clear HT
      go_enter Tryz.func10, Tryz.ntmps10
      go_wp2_with fail
      refine (hW _).mono ?_
      rintro e w1 ⟨rfl, hw⟩
      rw [hw]
      clear hW hw
      go_wp2_with fail
      refine (hS _).mono ?_
      rintro e w1 ⟨rfl, hw⟩
      rw [← hw]
      clear hS hw
      go_wp2
      go_ret2
      exact ⟨by rw [HR.out]; rfl, Below.refl _ _⟩
  · have hF := hF q
    have m0 : spM b ≠ 0 := fun h => q (hz0.mp h)
    have d0 : (spM b != 0) = true := bne_yes m0
    clear HC h0 hz0 m0 q
    generalize spM b = M at *
    by_cases qs : 9223372036854775808 ≤ b
    · have HR : Hid (str (sgT (decide (9223372036854775808 ≤ b)) ++ S) = T) := by rw [decide_eq_true qs]; exact (str_eq (by rw [HT.out, str_list]; rfl)).symm
      rw [decide_eq_true qs] at hS
      clear HT
      go_enter Tryz.func10, Tryz.ntmps10
      go_wp2_with fail
      refine (hW _).mono ?_
      rintro e w1 ⟨rfl, hw⟩
      rw [hw]
      clear hW hw
      go_wp2_with fail
      refine (hS _).mono ?_
      rintro e w1 ⟨rfl, hw⟩
      rw [← hw]
      clear hS hw
      go_wp2_with fail
      refine hF.mono ?_
      rintro e w1 ⟨rfl, hb1⟩
      clear hF
      go_wp2
      go_ret2
      exact ⟨by rw [HR.out]; rfl, hb1⟩
    · have HR : Hid (str (sgT (decide (9223372036854775808 ≤ b)) ++ S) = str S) := by rw [decide_eq_false qs]; rfl
      rw [decide_eq_false qs] at hS
      clear HT
      go_enter Tryz.func10, Tryz.ntmps10
      go_wp2_with fail
      refine (hW _).mono ?_
      rintro e w1 ⟨rfl, hw⟩
      rw [hw]
      clear hW hw
      go_wp2_with fail
      refine (hS _).mono ?_
      rintro e w1 ⟨rfl, hw⟩
      rw [← hw]
      clear hS hw
      go_wp2_with fail
      refine hF.mono ?_
      rintro e w1 ⟨rfl, hb1⟩
      clear hF
      go_wp2
      go_ret2
      exact ⟨by rw [HR.out]; rfl, hb1⟩
theorem text14_fin {b m : Int} (hu : U b) (hf : ef b ≠ 2047) (hm : m = 1 ∨ m = 2 ∨ m = 3) {w : World} (hz : ZeroVar w) (hT : PowTb w) :
    Calls Tryz.prog 10 #[.int .u64 b, .int .i64 m] w fun r w' => r = .returned (.tuple #[.string (str (textT b m)), .int .i64 0]) ∧ Below w.heap.size w w' := by
  have hp : mg b ≠ 0 → 0 < mg b ∧ mg b ≤ mostP := fun h => by
    have := mg_bd b
    have := ef_bd b
    have := fr_bd b
    have := mg_parts b
    unfold mostP
    omega
  have hsz : ∀ m, (m = 1 ∨ m = 2 ∨ m = 3) → (sizeT (mg b) m).length ≤ 100000 := fun m hm => by
    have a1 := mg_bd b
    have a2 := ef_bd b
    have a3 := fr_bd b
    have a4 := mg_parts b
    have := size_len (p := mg b) (m := m) (by omega) (by unfold mostP; omega) hm
    omega
  rcases hm with rfl | rfl | rfl
  · refine text14_way hu hf 51 (by omega) (by omega) w hz (enters_of Tryz.func51 (by kernel_rfl) rfl) (sizeT (mg b) 1) ?_ way1 (fun q => ?_) (fun q => if_pos q)
    · exact hsz 1 (Or.inl rfl)
    · have e : sizeT (mg b) 1 = shT (dgS (mg b)) (ptS (mg b)) := by unfold sizeT; rw [if_neg q, if_pos rfl]
      rw [e]
      have h := hp q
      have s := sh_is h.1 h.2
      exact shortest14_any hu hf q (ds_of h.1 h.2) s.r0 s.r1 w hT
  · refine text14_way hu hf 52 (by omega) (by omega) w hz (enters_of Tryz.func52 (by kernel_rfl) rfl) (sizeT (mg b) 2) ?_ way2 (fun q => ?_) (fun q => if_pos q)
    · exact hsz 2 (Or.inr (Or.inl rfl))
    · have e : sizeT (mg b) 2 = hxS (mg b) := by unfold sizeT; rw [if_neg q, if_neg (by omega), if_pos rfl]
      rw [e]
      exact hex14_any hu hf q w hT
  · refine text14_way hu hf 53 (by omega) (by omega) w hz (enters_of Tryz.func53 (by kernel_rfl) rfl) (sizeT (mg b) 3) ?_ way3 (fun q => ?_) (fun q => if_pos q)
    · exact hsz 3 (Or.inr (Or.inr rfl))
    · have e : sizeT (mg b) 3 = sciT (dgS (mg b)) (ptS (mg b)) := by unfold sizeT; rw [if_neg q, if_neg (by omega), if_neg (by omega)]
      rw [e]
      have h := hp q
      have s := sh_is h.1 h.2
      exact science14_any hu hf q (ds_of h.1 h.2) s.r0 s.r1 w hT
theorem hexF14_inf {b : Int} (hu : U b) (hf : ef b = 2047) (w : World) :
    Calls Tryz.prog 15 #[.int .u64 b] w fun r w' => r = .returned (.tuple #[.string ⟨#[]⟩, .int .i64 60]) ∧ w' = w := by
  have hX := fun w => text14_inf (m := 2) hu hf (Or.inr (Or.inl rfl)) w
  go_enter Tryz.func15, Tryz.ntmps15
  go_wp2_with fail
  refine (hX _).mono ?_
  rintro e w1 ⟨rfl, hw⟩
  rw [hw]
  go_wp2
  go_ret2
  exact ⟨rfl, rfl⟩
theorem hexF14_fin {b : Int} (hu : U b) (hf : ef b ≠ 2047) {w : World} (hz : ZeroVar w) (hT : PowTb w) :
    Calls Tryz.prog 15 #[.int .u64 b] w fun r w' => r = .returned (.tuple #[.string (str (textT b 2)), .int .i64 0]) ∧ Below w.heap.size w w' := by
  have hX := text14_fin (m := 2) hu hf (Or.inr (Or.inl rfl)) hz hT
  go_enter Tryz.func15, Tryz.ntmps15
  go_wp2_with fail
  refine hX.mono ?_
  rintro e w1 ⟨rfl, hb⟩
  go_wp2
  go_ret2
  exact ⟨rfl, hb⟩
end Go.Proofs.YtjnmgjcmagnkeaaGreatDoor

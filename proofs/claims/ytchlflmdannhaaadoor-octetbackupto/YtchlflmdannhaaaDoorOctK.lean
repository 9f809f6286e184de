/- Layer 16: items; OctetShort. -/
import Derived.Test.YtchlflmdannhaaaDoorOctJ
import Derived.Test.YtchlflmdannhaaaDoorItArg
import Derived.Deep.RegionWith
namespace Go.Proofs.YtchlflmdannhaaaDoor
open Go.ChangeShapes Go.WideShapes Go.ChangeAt Go.RowKit
open Ep Oc
set_option linter.unusedVariables false
namespace Oc
def wdI (x : Int) : Int := if x % 3 = 0 then 1 else if x % 3 = 1 then 4 else 8
end Oc
set_option maxHeartbeats 1600000 in
set_option maxRecDepth 100000 in
theorem wide16_any (x v : Int) (b : Bool) (w : World) :
    Calls Tryd.prog 25 #[.agg #[.int .i64 x, .int .u64 v, .bool b]] w fun e w' => e = .returned (.int .i64 (x % 3)) ∧ Below w.heap.size w w' := by
  have e1 : x.tmod 3 < 3 := Int.tmod_lt_of_pos x (by decide)
  have e2 : -3 < x.tmod 3 := Int.lt_tmod_of_pos x (by decide)
  have hm : x % 3 = if x.tmod 3 < 0 then x.tmod 3 + 3 else x.tmod 3 := by
    rw [Int.tmod_eq_emod]
    split
    · split <;> omega
    · split <;> omega
  rw [hm]
  clear hm
  generalize hq : x.tmod 3 = q at *
  by_cases h : q < 0
  · rw [if_pos h]
    have d : decide (q < 0) = true := by simp; omega
    go_enter Tryd.func25, Tryd.ntmps25
    go_wp2
    go_ret
    exact ⟨rfl, (Below.refl _ _).alloc (Nat.le_refl _) _⟩
  · rw [if_neg h]
    have d : decide (q < 0) = false := by simp; omega
    go_enter Tryd.func25, Tryd.ntmps25
    go_wp2
    go_ret
    exact ⟨rfl, (Below.refl _ _).alloc (Nat.le_refl _) _⟩
set_option maxHeartbeats 1600000 in
set_option maxRecDepth 100000 in
theorem width16_any (x v : Int) (b : Bool) (w : World) :
    Calls Tryd.prog 18 #[.agg #[.int .i64 x, .int .u64 v, .bool b]] w fun e w' => e = .returned (.int .i64 (wdI x)) ∧ Below w.heap.size w w' := by
  have hW := fun w => wide16_any x v b w
  unfold wdI
  generalize x % 3 = r at *
  by_cases h0 : r = 0
  · subst h0
    rw [if_pos rfl]
    go_enter Tryd.func18, Tryd.ntmps18
    go_wp2_with fail
    refine (hW _).mono ?_
    rintro e w1 ⟨rfl, hb1⟩
    have hB := ((Below.refl w.heap.size w).alloc (Nat.le_refl _) _).trans (hb1.mono (by simp))
    clear hW hb1
    go_wp2
    go_ret
    exact ⟨rfl, hB⟩
  · rw [if_neg h0]
    have t0 : (r == 0) = false := by simpa using h0
    by_cases h1 : r = 1
    · subst h1
      rw [if_pos rfl]
      go_enter Tryd.func18, Tryd.ntmps18
      go_wp2_with fail
      refine (hW _).mono ?_
      rintro e w1 ⟨rfl, hb1⟩
      have hB := ((Below.refl w.heap.size w).alloc (Nat.le_refl _) _).trans (hb1.mono (by simp))
      clear hW hb1
      go_wp2
      go_ret
      exact ⟨rfl, hB⟩
    · rw [if_neg h1]
      have t1 : (r == 1) = false := by simpa using h1
      go_enter Tryd.func18, Tryd.ntmps18
      go_wp2_with fail
      refine (hW _).mono ?_
      rintro e w1 ⟨rfl, hb1⟩
      have hB := ((Below.refl w.heap.size w).alloc (Nat.le_refl _) _).trans (hb1.mono (by simp))
      clear hW hb1
      go_wp2
      go_ret
      exact ⟨rfl, hB⟩
namespace Oc
theorem rV_err (l : List UInt8) (k m : Nat) (lt : Bool) : rV l k true m lt = 0 := by unfold rV; rw [if_pos (Or.inl rfl)]
theorem rV_short {l : List UInt8} {k m : Nat} (h : l.length - k < m) (F lt : Bool) : rV l k F m lt = 0 := by unfold rV; rw [if_pos (Or.inr h)]
theorem rK_err (l : List UInt8) (k m : Nat) : rK l k true m = k := by unfold rK; rw [if_pos (Or.inl rfl)]
theorem rF_err (l : List UInt8) (k m : Nat) : rF l k true m = true := by unfold rF; rfl
theorem rK_short {l : List UInt8} {k m : Nat} (h : l.length - k < m) : rK l k false m = k := by unfold rK; rw [if_pos (Or.inr h)]
theorem rF_short {l : List UInt8} {k m : Nat} (h : l.length - k < m) : rF l k false m = true := by unfold rF; rw [decide_eq_true h]; rfl
theorem rK_ok {l : List UInt8} {k m : Nat} (h : ¬ l.length - k < m) : rK l k false m = k + m := by unfold rK; rw [if_neg (by simp; omega)]
theorem rF_ok {l : List UInt8} {k m : Nat} (h : ¬ l.length - k < m) : rF l k false m = false := by unfold rF; rw [decide_eq_false h]; rfl
theorem rV_ok {l : List UInt8} {k m : Nat} (h : ¬ l.length - k < m) (lt : Bool) : rV l k false m lt = numO ((l.drop k).take m) lt := by unfold rV; rw [if_neg (by simp; omega)]
theorem rV_one {l : List UInt8} {k : Nat} (h : k < l.length) (lt : Bool) : rV l k false 1 lt = (l.getD k 0).toNat := by
  rw [rV_ok (by omega), List.drop_eq_getElem_cons h, List.take_succ_cons, List.take_zero, numO_one, List.getD_eq_getElem?_getD, List.getElem?_eq_getElem h]
  rfl
end Oc
/-- behind a call on a reader in new memory -/
theorem rdBelow {w0 w w' : World} {g : Nat} (hB : Below w0.heap.size w0 w) (hg : w0.heap.size ≤ g) (hI : In g (g + 1) w w') : Below w0.heap.size w0 w' := below_inn hB hI hg (Nat.le_refl _)
set_option maxHeartbeats 6400000 in
set_option maxRecDepth 100000 in
theorem short_walk {w : World} {a : Option Addr} {n c : Nat} {l : List UInt8} {skip x v : Int} {lt : Bool} (h : Rb w a n c l) (hn : n ≤ 1048576) (hs1 : -9223372036854775808 ≤ skip) (hs2 : skip ≤ 9223372036854775807) (hx : -9223372036854775808 ≤ x ∧ x ≤ 9223372036854775807) (hv : 0 ≤ v ∧ v < 18446744073709551616) (hE : ErrVar w) :
    Calls Tryd.prog 5 #[.slice a n c, .int .i64 skip, .agg (itA x v lt)] w fun e w' => e = .returned (.bool true) ∧ Below w.heap.size w w' := by
  have HL : Hid (l.length = n) := h.len
  have hcc := h.2
  unfold itA
  obtain ⟨w0, hw0⟩ : ∃ w0, w0 = w.alloc (.cells #[.int .i64 x, .int .u64 v, .bool lt] 40) := ⟨_, rfl⟩
  have hb0 : Below w.heap.size w w0 := by rw [hw0]; exact alloc_below _
  have hI3 : S3 w0 w.heap.size 40 (.int .i64 x) (.int .u64 v) (.bool lt) := by rw [hw0]; exact S3.new _ _ _ _ _
  have h0 := h.later hb0
  have hE0 := hE.later hb0
  have hN := newReader_any h0 (by omega)
  go_enter Tryd.func5, Tryd.ntmps5
  go_wp2_with fail
  rw [← hw0]
  refine hN.mono ?_
  rintro e w1 ⟨g, rfl, hR1, hg, hB1⟩
  clear hN hw0 h hE
  obtain ⟨G, hG⟩ : ∃ G, G = w.heap.size := ⟨_, rfl⟩
  have HG : Hid (G = w.heap.size) := hG
  rw [← hG] at hI3 ⊢
  clear hG
  go_wp2
  go_loopw [8] (fun i wr => ∃ q : Nat, i = .int .i64 (q : Int) ∧ q ≤ n ∧ Rd wr g l q false ∧ Below w0.heap.size w0 wr) (fun i _ => n - (intOf i).toNat)
  case atStart => exact ⟨0, rfl, Nat.zero_le _, hR1, hB1⟩
  case round =>
    obtain ⟨q, rfl, hq, hR, hB⟩ := hrel
    clear hR1 hB1
    by_cases hgo : q < n ∧ (q : Int) < skip
    · obtain ⟨hlt, hsk⟩ := hgo
      obtain ⟨b, off, rfl, hbB, hc⟩ := h0.cells (by omega)
      have hcq := fun (w' : World) (hb : Below w0.heap.size w0 w') => (hb.cell (p := ⟨b, off + q, none⟩) hbB).trans (hc q hlt)
      have c1 := hcq wr hB
      have hBy := fun (w' : World) (hR' : Rd w' g l q false) => byte16_any hR'
      rw [rV_one (by rw [HL.out]; exact hlt), rK_ok (by rw [HL.out]; omega), rF_ok (by rw [HL.out]; omega)] at hBy
      generalize (l.getD q 0).toNat = X at *
      have hRd := hR.later (below_drewN (Below.refl _ _) 1)
      have hBd := below_drewN hB 1
      have tX : ((X : Int) != (X : Int)) = false := by simp
      clear hc
      go_wp2_with fail
      go_region_with (go_at_call 17; refine (hBy _ hRd).mono ?_; rintro e w2 ⟨rfl, hR2, hI2⟩; have hB2 := rdBelow hBd hg hI2; have c2 := hcq w2 hB2)
      all_goals
        clear hBy hcq c1 c2 hRd hBd hR hB hI2
        go_wp2
        go_roundw
        case rel => exact ⟨q + 1, by go_num, by omega, hR2, hB2⟩
        case measure => simp [intOf]; omega
    · have hstop : Calls Tryd.prog 18 #[.agg #[.int .i64 x, .int .u64 v, .bool lt]] wr fun e w' => e = .returned (.int .i64 (wdI x)) ∧ Below wr.heap.size wr w' := width16_any x v lt wr
      obtain ⟨i0, i1, i2⟩ := (hI3.later hB).cells
      obtain ⟨M, hM, HM⟩ : ∃ M : Nat, (M = 1 ∨ M = 4 ∨ M = 8) ∧ Hid (wdI x = (M : Int)) := by
        by_cases p0 : x % 3 = 0
        · exact ⟨1, Or.inl rfl, by show wdI x = _; unfold wdI; rw [if_pos p0]; rfl⟩
        · by_cases p1 : x % 3 = 1
          · exact ⟨4, Or.inr (Or.inl rfl), by show wdI x = _; unfold wdI; rw [if_neg p0, if_pos p1]; rfl⟩
          · exact ⟨8, Or.inr (Or.inr rfl), by show wdI x = _; unfold wdI; rw [if_neg p0, if_neg p1]; rfl⟩
      rw [HM.out] at hstop
      have hcase : (q < n ∧ skip ≤ (q : Int)) ∨ q = n := by omega
      clear hgo
      have hgo2 : ((q : Int) < (n : Int) ∧ skip ≤ (q : Int)) ∨ ((n : Int) ≤ (q : Int)) := by omega
      rcases hgo2 with ⟨p1, p2⟩ | p1
      all_goals
        go_wp2_with fail
        refine hstop.mono ?_
        rintro e w2 ⟨rfl, hb2⟩
        have hR2 := hR.later hb2
        have hB2 := hB.trans (hb2.mono hB.size)
        obtain ⟨i0, i1, i2⟩ := (hI3.later hB2).cells
        clear hstop hR hB hb2 hcase
        have hleft : (n : Int) - (q : Int) = ((n - q : Nat) : Int) := by omega
        rcases hM with rfl | rfl | rfl
        · have hby := (byte16_any hR2)
          have hvl := rV_lt l q false 1 false
          rw [show (256 : Nat) ^ 1 = 256 by decide] at hvl
          by_cases hsh : n - q < 1
          · first
            | (exfalso; omega)
            | (have hsl : l.length - q < 1 := by rw [HL.out]; exact hsh
               rw [rV_short hsl, rK_short hsl, rF_short hsl] at hby
               clear hvl hsl
               have tl : ¬ (1 : Int) ≤ (n : Int) - (q : Int) := by omega
               have tl2 : ¬ (1 : Int) ≤ ((n - q : Nat) : Int) := by omega
               go_wp2_with fail
               refine hby.mono ?_
               rintro e w3 ⟨rfl, hR3, hI3'⟩
               have hB3 := rdBelow hB2 hg hI3'
               clear hby hR2 hI3' hB2 i0 i1 i2
               have hLn : (l.length - q : Nat) = n - q := by rw [HL.out]
               go_wp2_with fail
               refine (err16_some hR3).mono ?_
               rintro e w4 ⟨f4, rfl, hF4, hb4⟩
               have hR4 := hR3.later hb4
               have hB4 := hB3.trans (hb4.mono hB3.size)
               have hSE := sameErr_yes hF4 (hE0.later hB4) (by decide)
               clear hR3 hB3 hb4 hF4
               go_wp2_with fail
               refine hSE.mono ?_
               rintro e w5 ⟨rfl, hb5⟩
               have hR5 := hR4.later hb5
               have hB5 := hB4.trans (hb5.mono hB4.size)
               clear hR4 hB4 hb5 hSE
               go_wp2_with fail
               refine (at16_any hR5).mono ?_
               rintro e w6 ⟨rfl, rfl⟩
               have hLe := left16_any hR5
               rw [hLn, ← hleft] at hLe
               go_wp2_with fail
               refine hLe.mono ?_
               rintro e w6 ⟨rfl, d6, rfl⟩
               clear hLe
               have hR6 := hR5.later (below_drewN (Below.refl _ _) d6)
               have hB6 := below_drewN hB5 d6
               clear hR5 hB5
               have hby6 := byte16_any hR6
               rw [rV_err, rK_err, rF_err] at hby6
               go_wp2_with fail
               refine hby6.mono ?_
               rintro e w7 ⟨rfl, hR7, hI7⟩
               have hB7 := rdBelow hB6 hg hI7
               clear hby6 hR6 hB6 hI7
               have hwd7 := word32_any (little := true) hR7
               rw [rV_err, rK_err, rF_err] at hwd7
               go_wp2_with fail
               refine hwd7.mono ?_
               rintro e w8 ⟨rfl, hR8, hI8⟩
               have hB8 := rdBelow hB7 hg hI8
               clear hwd7 hR7 hB7 hI8
               go_wp2_with fail
               refine (at16_any hR8).mono ?_
               rintro e w9 ⟨rfl, rfl⟩
               go_wp2_with fail
               refine (err16_some hR8).mono ?_
               rintro e w10 ⟨f10, rfl, hF10, hb10⟩
               have hB10 := hB8.trans (hb10.mono hB8.size)
               have hSE := sameErr_yes hF10 (hE0.later hB10) (by decide)
               clear hR8 hB8 hb10 hF10
               go_wp2_with fail
               refine hSE.mono ?_
               rintro e w11 ⟨rfl, hb11⟩
               have hB11 := hB10.trans (hb11.mono hB10.size)
               clear hSE hB10 hb11
               go_wp2
               go_ret
               exact ⟨rfl, hb0.trans (hB11.mono hb0.size)⟩)
          · first
            | (exfalso; omega)
            | (have hsl : ¬ l.length - q < 1 := by rw [HL.out]; exact hsh
               rw [rK_ok hsl, rF_ok hsl] at hby
               generalize rV l q false 1 false = V at *
               clear hsl
               have tl : (1 : Int) ≤ (n : Int) - (q : Int) := by omega
               have tl2 : (1 : Int) ≤ ((n - q : Nat) : Int) := by omega
               go_wp2_with fail
               refine hby.mono ?_
               rintro e w3 ⟨rfl, hR3, hI3'⟩
               have hB3 := rdBelow hB2 hg hI3'
               clear hby hR2 hI3' hB2 i0 i1 i2
               go_wp2_with fail
               refine (err16_none hR3).mono ?_
               rintro e w4 ⟨rfl, rfl⟩
               have ea : ((q + 1 : Nat) : Int) = (q : Int) + 1 := by omega
               have hA := at16_any hR3
               rw [ea] at hA
               go_wp2_with fail
               refine hA.mono ?_
               rintro e w4 ⟨rfl, rfl⟩
               clear hA
               have hLe := left16_any hR3
               rw [HL.out, show ((n - (q + 1) : Nat) : Int) = (n : Int) - (q : Int) - 1 by omega] at hLe
               go_wp2_with fail
               refine hLe.mono ?_
               rintro e w6 ⟨rfl, d6, rfl⟩
               clear hLe
               have hB6 := below_drewN hB3 d6
               have t9 : ((n : Int) - (q : Int) - 1 == (n : Int) - (q : Int) - 1) = true := by simp
               clear hR3 hB3
               go_wp2
               go_ret
               exact ⟨rfl, hb0.trans (hB6.mono hb0.size)⟩)
        · have hby := (word32_any (little := lt) hR2)
          have hvl := rV_lt l q false 4 lt
          rw [show (256 : Nat) ^ 4 = 4294967296 by decide] at hvl
          by_cases hsh : n - q < 4
          · first
            | (exfalso; omega)
            | (have hsl : l.length - q < 4 := by rw [HL.out]; exact hsh
               rw [rV_short hsl, rK_short hsl, rF_short hsl] at hby
               clear hvl hsl
               have tl : ¬ (4 : Int) ≤ (n : Int) - (q : Int) := by omega
               have tl2 : ¬ (4 : Int) ≤ ((n - q : Nat) : Int) := by omega
               go_wp2_with fail
               refine hby.mono ?_
               rintro e w3 ⟨rfl, hR3, hI3'⟩
               have hB3 := rdBelow hB2 hg hI3'
               clear hby hR2 hI3' hB2 i0 i1 i2
               have hLn : (l.length - q : Nat) = n - q := by rw [HL.out]
               go_wp2_with fail
               refine (err16_some hR3).mono ?_
               rintro e w4 ⟨f4, rfl, hF4, hb4⟩
               have hR4 := hR3.later hb4
               have hB4 := hB3.trans (hb4.mono hB3.size)
               have hSE := sameErr_yes hF4 (hE0.later hB4) (by decide)
               clear hR3 hB3 hb4 hF4
               go_wp2_with fail
               refine hSE.mono ?_
               rintro e w5 ⟨rfl, hb5⟩
               have hR5 := hR4.later hb5
               have hB5 := hB4.trans (hb5.mono hB4.size)
               clear hR4 hB4 hb5 hSE
               go_wp2_with fail
               refine (at16_any hR5).mono ?_
               rintro e w6 ⟨rfl, rfl⟩
               have hLe := left16_any hR5
               rw [hLn, ← hleft] at hLe
               go_wp2_with fail
               refine hLe.mono ?_
               rintro e w6 ⟨rfl, d6, rfl⟩
               clear hLe
               have hR6 := hR5.later (below_drewN (Below.refl _ _) d6)
               have hB6 := below_drewN hB5 d6
               clear hR5 hB5
               have hby6 := byte16_any hR6
               rw [rV_err, rK_err, rF_err] at hby6
               go_wp2_with fail
               refine hby6.mono ?_
               rintro e w7 ⟨rfl, hR7, hI7⟩
               have hB7 := rdBelow hB6 hg hI7
               clear hby6 hR6 hB6 hI7
               have hwd7 := word32_any (little := true) hR7
               rw [rV_err, rK_err, rF_err] at hwd7
               go_wp2_with fail
               refine hwd7.mono ?_
               rintro e w8 ⟨rfl, hR8, hI8⟩
               have hB8 := rdBelow hB7 hg hI8
               clear hwd7 hR7 hB7 hI8
               go_wp2_with fail
               refine (at16_any hR8).mono ?_
               rintro e w9 ⟨rfl, rfl⟩
               go_wp2_with fail
               refine (err16_some hR8).mono ?_
               rintro e w10 ⟨f10, rfl, hF10, hb10⟩
               have hB10 := hB8.trans (hb10.mono hB8.size)
               have hSE := sameErr_yes hF10 (hE0.later hB10) (by decide)
               clear hR8 hB8 hb10 hF10
               go_wp2_with fail
               refine hSE.mono ?_
               rintro e w11 ⟨rfl, hb11⟩
               have hB11 := hB10.trans (hb11.mono hB10.size)
               clear hSE hB10 hb11
               go_wp2
               go_ret
               exact ⟨rfl, hb0.trans (hB11.mono hb0.size)⟩)
          · first
            | (exfalso; omega)
            | (have hsl : ¬ l.length - q < 4 := by rw [HL.out]; exact hsh
               rw [rK_ok hsl, rF_ok hsl] at hby
               generalize rV l q false 4 lt = V at *
               clear hsl
               have tl : (4 : Int) ≤ (n : Int) - (q : Int) := by omega
               have tl2 : (4 : Int) ≤ ((n - q : Nat) : Int) := by omega
               go_wp2_with fail
               refine hby.mono ?_
               rintro e w3 ⟨rfl, hR3, hI3'⟩
               have hB3 := rdBelow hB2 hg hI3'
               clear hby hR2 hI3' hB2 i0 i1 i2
               go_wp2_with fail
               refine (err16_none hR3).mono ?_
               rintro e w4 ⟨rfl, rfl⟩
               have ea : ((q + 4 : Nat) : Int) = (q : Int) + 4 := by omega
               have hA := at16_any hR3
               rw [ea] at hA
               go_wp2_with fail
               refine hA.mono ?_
               rintro e w4 ⟨rfl, rfl⟩
               clear hA
               have hLe := left16_any hR3
               rw [HL.out, show ((n - (q + 4) : Nat) : Int) = (n : Int) - (q : Int) - 4 by omega] at hLe
               go_wp2_with fail
               refine hLe.mono ?_
               rintro e w6 ⟨rfl, d6, rfl⟩
               clear hLe
               have hB6 := below_drewN hB3 d6
               have t9 : ((n : Int) - (q : Int) - 4 == (n : Int) - (q : Int) - 4) = true := by simp
               clear hR3 hB3
               go_wp2
               go_ret
               exact ⟨rfl, hb0.trans (hB6.mono hb0.size)⟩)
        · have hby := (word64_any (little := lt) hR2)
          have hvl := rV_lt l q false 8 lt
          rw [show (256 : Nat) ^ 8 = 18446744073709551616 by decide] at hvl
          by_cases hsh : n - q < 8
          · first
            | (exfalso; omega)
            | (have hsl : l.length - q < 8 := by rw [HL.out]; exact hsh
               rw [rV_short hsl, rK_short hsl, rF_short hsl] at hby
               clear hvl hsl
               have tl : ¬ (8 : Int) ≤ (n : Int) - (q : Int) := by omega
               have tl2 : ¬ (8 : Int) ≤ ((n - q : Nat) : Int) := by omega
               go_wp2_with fail
               refine hby.mono ?_
               rintro e w3 ⟨rfl, hR3, hI3'⟩
               have hB3 := rdBelow hB2 hg hI3'
               clear hby hR2 hI3' hB2 i0 i1 i2
               have hLn : (l.length - q : Nat) = n - q := by rw [HL.out]
               go_wp2_with fail
               refine (err16_some hR3).mono ?_
               rintro e w4 ⟨f4, rfl, hF4, hb4⟩
               have hR4 := hR3.later hb4
               have hB4 := hB3.trans (hb4.mono hB3.size)
               have hSE := sameErr_yes hF4 (hE0.later hB4) (by decide)
               clear hR3 hB3 hb4 hF4
               go_wp2_with fail
               refine hSE.mono ?_
               rintro e w5 ⟨rfl, hb5⟩
               have hR5 := hR4.later hb5
               have hB5 := hB4.trans (hb5.mono hB4.size)
               clear hR4 hB4 hb5 hSE
               go_wp2_with fail
               refine (at16_any hR5).mono ?_
               rintro e w6 ⟨rfl, rfl⟩
               have hLe := left16_any hR5
               rw [hLn, ← hleft] at hLe
               go_wp2_with fail
               refine hLe.mono ?_
               rintro e w6 ⟨rfl, d6, rfl⟩
               clear hLe
               have hR6 := hR5.later (below_drewN (Below.refl _ _) d6)
               have hB6 := below_drewN hB5 d6
               clear hR5 hB5
               have hby6 := byte16_any hR6
               rw [rV_err, rK_err, rF_err] at hby6
               go_wp2_with fail
               refine hby6.mono ?_
               rintro e w7 ⟨rfl, hR7, hI7⟩
               have hB7 := rdBelow hB6 hg hI7
               clear hby6 hR6 hB6 hI7
               have hwd7 := word32_any (little := true) hR7
               rw [rV_err, rK_err, rF_err] at hwd7
               go_wp2_with fail
               refine hwd7.mono ?_
               rintro e w8 ⟨rfl, hR8, hI8⟩
               have hB8 := rdBelow hB7 hg hI8
               clear hwd7 hR7 hB7 hI8
               go_wp2_with fail
               refine (at16_any hR8).mono ?_
               rintro e w9 ⟨rfl, rfl⟩
               go_wp2_with fail
               refine (err16_some hR8).mono ?_
               rintro e w10 ⟨f10, rfl, hF10, hb10⟩
               have hB10 := hB8.trans (hb10.mono hB8.size)
               have hSE := sameErr_yes hF10 (hE0.later hB10) (by decide)
               clear hR8 hB8 hb10 hF10
               go_wp2_with fail
               refine hSE.mono ?_
               rintro e w11 ⟨rfl, hb11⟩
               have hB11 := hB10.trans (hb11.mono hB10.size)
               clear hSE hB10 hb11
               go_wp2
               go_ret
               exact ⟨rfl, hb0.trans (hB11.mono hb0.size)⟩)
          · first
            | (exfalso; omega)
            | (have hsl : ¬ l.length - q < 8 := by rw [HL.out]; exact hsh
               rw [rK_ok hsl, rF_ok hsl] at hby
               generalize rV l q false 8 lt = V at *
               clear hsl
               have tl : (8 : Int) ≤ (n : Int) - (q : Int) := by omega
               have tl2 : (8 : Int) ≤ ((n - q : Nat) : Int) := by omega
               go_wp2_with fail
               refine hby.mono ?_
               rintro e w3 ⟨rfl, hR3, hI3'⟩
               have hB3 := rdBelow hB2 hg hI3'
               clear hby hR2 hI3' hB2 i0 i1 i2
               go_wp2_with fail
               refine (err16_none hR3).mono ?_
               rintro e w4 ⟨rfl, rfl⟩
               have ea : ((q + 8 : Nat) : Int) = (q : Int) + 8 := by omega
               have hA := at16_any hR3
               rw [ea] at hA
               go_wp2_with fail
               refine hA.mono ?_
               rintro e w4 ⟨rfl, rfl⟩
               clear hA
               have hLe := left16_any hR3
               rw [HL.out, show ((n - (q + 8) : Nat) : Int) = (n : Int) - (q : Int) - 8 by omega] at hLe
               go_wp2_with fail
               refine hLe.mono ?_
               rintro e w6 ⟨rfl, d6, rfl⟩
               clear hLe
               have hB6 := below_drewN hB3 d6
               have t9 : ((n : Int) - (q : Int) - 8 == (n : Int) - (q : Int) - 8) = true := by simp
               clear hR3 hB3
               go_wp2
               go_ret
               exact ⟨rfl, hb0.trans (hB6.mono hb0.size)⟩)
end Go.Proofs.YtchlflmdannhaaaDoor

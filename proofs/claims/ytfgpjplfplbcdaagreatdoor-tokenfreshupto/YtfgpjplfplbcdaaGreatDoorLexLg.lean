/- Layer 9: lex.longest. -/
import Derived.Test.YtfgpjplfplbcdaaGreatDoorLexSc
namespace Go.Proofs.YtfgpjplfplbcdaaGreatDoor
open Go.ChangeShapes Go.WideShapes Go.ChangeAt Go.RowKit
open Lx
set_option linter.unusedVariables false
namespace Lx
def pcA (p : Pc) : Array Value := #[.int .i64 p.kind, .bool p.neg, .string (str p.ahead), .string (str p.behind), .string (str p.expo), .string (str p.den), .int .i64 p.stop]
theorem Bk.tn {w w' : World} {g g' : Nat} {t : TypeId} {vs : Array Value} (h : Bk w g' t vs) (k : Tn g w w') (hn : g' ≠ g) : Bk w' g' t vs := by
  have := Bk.lt h
  unfold Bk
  rw [k.block g' this hn]; exact h
def zero7 : Array Value := #[.int .i64 0, .bool false, .string ⟨#[]⟩, .string ⟨#[]⟩, .string ⟨#[]⟩, .string ⟨#[]⟩, .int .i64 0]
theorem set7 (a b c d e f g : Value) : ((((((zero7.setIfInBounds 0 a).setIfInBounds 1 b).setIfInBounds 2 c).setIfInBounds 3 d).setIfInBounds 4 e).setIfInBounds 5 f).setIfInBounds 6 g = #[a, b, c, d, e, f, g] := rfl
theorem Bk.all7 {w : World} {g : Nat} {t : TypeId} (h : Bk w g t zero7) (p : Pc) : Bk (((((((w.setCell ⟨g, 0, none⟩ (.int .i64 p.kind)).setCell ⟨g, 1, none⟩ (.bool p.neg)).setCell ⟨g, 2, none⟩ (.string (str p.ahead))).setCell ⟨g, 3, none⟩ (.string (str p.behind))).setCell ⟨g, 4, none⟩ (.string (str p.expo))).setCell ⟨g, 5, none⟩ (.string (str p.den))).setCell ⟨g, 6, none⟩ (.int .i64 p.stop)) g t (pcA p) := by
  have := Bk.set (Bk.set (Bk.set (Bk.set (Bk.set (Bk.set (Bk.set h 0 (.int .i64 p.kind)) 1 (.bool p.neg)) 2 (.string (str p.ahead))) 3 (.string (str p.behind))) 4 (.string (str p.expo))) 5 (.string (str p.den))) 6 (.int .i64 p.stop)
  rw [set7] at this
  exact this
theorem fnNe (w : World) (f : Fn) (a b : Array Value) : (binOp .neq 1 (.func f a b) .nilFunc).run Tryz.prog w = .ok (.bool true) w := by
  simp only [binOp, Op.equal, Sem.run_bind, Sem.run_pure]
  kernel_rfl
theorem fnEq (w : World) : (binOp .neq 1 .nilFunc .nilFunc).run Tryz.prog w = .ok (.bool false) w := by kernel_rfl
theorem rank_zero {s : St} (h : s.rank = 0) : s = .stop := by cases s <;> simp [St.rank] at h ⊢
end Lx
set_option maxHeartbeats 1600000 in
set_option maxRecDepth 100000 in
theorem longest_any (t : ByteArray) (ht : t.size ≤ 65536) (w : World) :
    Calls Tryz.prog 91 #[.string t] w fun e w' => e = .returned (.agg (pcA (longestL t.data.toList))) ∧ Below w.heap.size w w' := by
  go_enter Tryz.func91, Tryz.ntmps91
  go_wp2
  have R0 : RB ((w.alloc (.cells zero7 151)).alloc (.cells (rdC t 0 (stV (w.heap.size + 1) .start) Pc.zero Pc.zero) 174)) (w.heap.size + 1) t 0 (stV (w.heap.size + 1) .start) Pc.zero Pc.zero := by
    have := Bk.new (w.alloc (.cells zero7 151)) 174 (rdC t 0 (stV (w.heap.size + 1) .start) Pc.zero Pc.zero)
    rw [World.size_alloc] at this
    exact this
  have Z0 : Bk ((w.alloc (.cells zero7 151)).alloc (.cells (rdC t 0 (stV (w.heap.size + 1) .start) Pc.zero Pc.zero) 174)) w.heap.size 151 zero7 :=
    (Bk.new w 151 zero7).later ((Below.refl _ _).alloc (Nat.le_refl _) _)
  have B0 : Below w.heap.size w ((w.alloc (.cells zero7 151)).alloc (.cells (rdC t 0 (stV (w.heap.size + 1) .start) Pc.zero Pc.zero) 174)) := ((Below.refl _ w).alloc (Nat.le_refl _) _).alloc (by simp) _
  have HR0 : Hid _ := R0
  have HZ0 : Hid _ := Z0
  have HB0 : Hid _ := B0
  clear R0 Z0 B0
  go_loopg [4] 8 (fun gg s4 wx => ∃ s k rd wh, St.rank s = gg ∧ RB wx (w.heap.size + 1) t k (stV (w.heap.size + 1) s) rd wh ∧ k ≤ t.size ∧ Hid (fin s rd wh k (t.data.toList.drop k) = longestL t.data.toList) ∧ Hid (Bk wx w.heap.size 151 zero7) ∧ Hid (Below w.heap.size w wx))
  case atStart => exact ⟨.start, 0, Pc.zero, Pc.zero, rfl, HR0, Nat.zero_le _, rfl, HZ0, HB0⟩
  case round =>
    obtain ⟨s, k, rd, wh, hs, R, hk, hf, HZ, HL⟩ := hrel
    clear HR0 HZ0 HB0
    obtain ⟨c0, c1, c2⟩ := R.head
    have f2 := Bk.frozen R 2
    have hne := fnNe
    have heq := fnEq
    by_cases hst : s = .stop
    · subst hst
      have w0 := R.whole
      obtain ⟨d0, d1, d2, d3, d4, d5, d6⟩ := w0
      simp only [stV] at c2
      obtain ⟨z0, z1, z2, z3, z4, z5, z6⟩ := (⟨Bk.cell HZ.out 0 rfl, Bk.cell HZ.out 1 rfl, Bk.cell HZ.out 2 rfl, Bk.cell HZ.out 3 rfl, Bk.cell HZ.out 4 rfl, Bk.cell HZ.out 5 rfl, Bk.cell HZ.out 6 rfl⟩ : _ ∧ _ ∧ _ ∧ _ ∧ _ ∧ _ ∧ _)
      have y0 := Bk.frozen HZ.out 0
      have y1 := Bk.frozen HZ.out 1
      have y2 := Bk.frozen HZ.out 2
      have y3 := Bk.frozen HZ.out 3
      have y4 := Bk.frozen HZ.out 4
      have y5 := Bk.frozen HZ.out 5
      have y6 := Bk.frozen HZ.out 6
      go_wp2
      refine bodyPost_ret (results_cell_row rfl _ _ w.heap.size 151 (pcA wh) (0, 0) _ rfl (HZ.out.all7 wh) Tryz.underlying151 rfl (by kernel_rfl)) rfl ?_
      refine ⟨by rw [← show wh = longestL t.data.toList from hf.out], ?_⟩
      exact Tn.below HL.out (((((((((Tn.refl w.heap.size _).set 0 _).set 1 _).set 2 _).set 3 _).set 4 _).set 5 _).set 6 _)) (Nat.le_refl _) (Nat.le_refl _)
    · have R1 := R.setSt (stV (w.heap.size + 1) .stop)
      cases s
      case start =>
        have c := st_start R1 ht hk
        simp only [stV] at c2
        go_wp2_with fail
        refine c.mono ?_
        rintro e w5 ⟨rfl, s', k', rd', wh', R', hk', hf', hr', T'⟩
        go_wp2
        go_roundg s'.rank
        case measure => first | exact Nat.lt_of_lt_of_eq hr' hs | exact hr'
        case rel => exact ⟨s', k', rd', wh', rfl, R', hk', hf'.trans hf.out, Bk.tn (Bk.tn HZ.out ((Tn.refl _ _).set 2 _) (by omega)) T' (by omega), Tn.below HL.out (((Tn.refl _ _).set 2 _).trans T') (by omega) (Nat.le_refl _)⟩
      case sign =>
        have c := st_sign R1 ht hk
        simp only [stV] at c2
        go_wp2_with fail
        refine c.mono ?_
        rintro e w5 ⟨rfl, s', k', rd', wh', R', hk', hf', hr', T'⟩
        go_wp2
        go_roundg s'.rank
        case measure => first | exact Nat.lt_of_lt_of_eq hr' hs | exact hr'
        case rel => exact ⟨s', k', rd', wh', rfl, R', hk', hf'.trans hf.out, Bk.tn (Bk.tn HZ.out ((Tn.refl _ _).set 2 _) (by omega)) T' (by omega), Tn.below HL.out (((Tn.refl _ _).set 2 _).trans T') (by omega) (Nat.le_refl _)⟩
      case digits =>
        have c := st_digits R1 ht hk
        simp only [stV] at c2
        go_wp2_with fail
        refine c.mono ?_
        rintro e w5 ⟨rfl, s', k', rd', wh', R', hk', hf', hr', T'⟩
        go_wp2
        go_roundg s'.rank
        case measure => first | exact Nat.lt_of_lt_of_eq hr' hs | exact hr'
        case rel => exact ⟨s', k', rd', wh', rfl, R', hk', hf'.trans hf.out, Bk.tn (Bk.tn HZ.out ((Tn.refl _ _).set 2 _) (by omega)) T' (by omega), Tn.below HL.out (((Tn.refl _ _).set 2 _).trans T') (by omega) (Nat.le_refl _)⟩
      case point =>
        have c := st_point R1 ht hk
        simp only [stV] at c2
        go_wp2_with fail
        refine c.mono ?_
        rintro e w5 ⟨rfl, s', k', rd', wh', R', hk', hf', hr', T'⟩
        go_wp2
        go_roundg s'.rank
        case measure => first | exact Nat.lt_of_lt_of_eq hr' hs | exact hr'
        case rel => exact ⟨s', k', rd', wh', rfl, R', hk', hf'.trans hf.out, Bk.tn (Bk.tn HZ.out ((Tn.refl _ _).set 2 _) (by omega)) T' (by omega), Tn.below HL.out (((Tn.refl _ _).set 2 _).trans T') (by omega) (Nat.le_refl _)⟩
      case e =>
        have c := st_e R1 ht hk
        simp only [stV] at c2
        go_wp2_with fail
        refine c.mono ?_
        rintro e w5 ⟨rfl, s', k', rd', wh', R', hk', hf', hr', T'⟩
        go_wp2
        go_roundg s'.rank
        case measure => first | exact Nat.lt_of_lt_of_eq hr' hs | exact hr'
        case rel => exact ⟨s', k', rd', wh', rfl, R', hk', hf'.trans hf.out, Bk.tn (Bk.tn HZ.out ((Tn.refl _ _).set 2 _) (by omega)) T' (by omega), Tn.below HL.out (((Tn.refl _ _).set 2 _).trans T') (by omega) (Nat.le_refl _)⟩
      case slash =>
        have c := st_slash R1 ht hk
        simp only [stV] at c2
        go_wp2_with fail
        refine c.mono ?_
        rintro e w5 ⟨rfl, s', k', rd', wh', R', hk', hf', hr', T'⟩
        go_wp2
        go_roundg s'.rank
        case measure => first | exact Nat.lt_of_lt_of_eq hr' hs | exact hr'
        case rel => exact ⟨s', k', rd', wh', rfl, R', hk', hf'.trans hf.out, Bk.tn (Bk.tn HZ.out ((Tn.refl _ _).set 2 _) (by omega)) T' (by omega), Tn.below HL.out (((Tn.refl _ _).set 2 _).trans T') (by omega) (Nat.le_refl _)⟩
      case x =>
        have c := st_x R1 ht hk
        simp only [stV] at c2
        go_wp2_with fail
        refine c.mono ?_
        rintro e w5 ⟨rfl, s', k', rd', wh', R', hk', hf', hr', T'⟩
        go_wp2
        go_roundg s'.rank
        case measure => first | exact Nat.lt_of_lt_of_eq hr' hs | exact hr'
        case rel => exact ⟨s', k', rd', wh', rfl, R', hk', hf'.trans hf.out, Bk.tn (Bk.tn HZ.out ((Tn.refl _ _).set 2 _) (by omega)) T' (by omega), Tn.below HL.out (((Tn.refl _ _).set 2 _).trans T') (by omega) (Nat.le_refl _)⟩
      case hexPoint =>
        have c := st_hexPoint R1 ht hk
        simp only [stV] at c2
        go_wp2_with fail
        refine c.mono ?_
        rintro e w5 ⟨rfl, s', k', rd', wh', R', hk', hf', hr', T'⟩
        go_wp2
        go_roundg s'.rank
        case measure => first | exact Nat.lt_of_lt_of_eq hr' hs | exact hr'
        case rel => exact ⟨s', k', rd', wh', rfl, R', hk', hf'.trans hf.out, Bk.tn (Bk.tn HZ.out ((Tn.refl _ _).set 2 _) (by omega)) T' (by omega), Tn.below HL.out (((Tn.refl _ _).set 2 _).trans T') (by omega) (Nat.le_refl _)⟩
      case stop => exact absurd rfl hst
end Go.Proofs.YtfgpjplfplbcdaaGreatDoor

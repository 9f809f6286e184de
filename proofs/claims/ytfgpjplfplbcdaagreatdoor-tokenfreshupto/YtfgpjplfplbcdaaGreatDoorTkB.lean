/- Layer 18: tokens as values; the end, marks, gaps. -/
import Derived.Test.YtfgpjplfplbcdaaGreatDoorTkA
namespace Go.Proofs.YtfgpjplfplbcdaaGreatDoor
open Go.ChangeShapes Go.WideShapes Go.ChangeAt Go.RowKit
open Lx Tk
set_option linter.unusedVariables false
namespace Tk
/-- a token's cells -/
def tkA (k f t : Int) (wd : B) (n : Nm) : Array Value := #[.int .i64 k, .int .i64 f, .int .i64 t, .string (str wd), .int .i64 n.kind, .bool n.neg, .string (str n.num), .int .i64 n.exp, .string (str n.den)]
def zero9 : Array Value := #[.int .i64 0, .int .i64 0, .int .i64 0, .string ⟨#[]⟩, .int .i64 0, .bool false, .string ⟨#[]⟩, .int .i64 0, .string ⟨#[]⟩]
theorem set9 (x0 x1 x2 x3 x4 x5 x6 x7 x8 : Value) : ((((((((zero9.setIfInBounds 0 x0).setIfInBounds 1 x1).setIfInBounds 2 x2).setIfInBounds 3 x3).setIfInBounds 4 x4).setIfInBounds 5 x5).setIfInBounds 6 x6).setIfInBounds 7 x7).setIfInBounds 8 x8 = #[x0, x1, x2, x3, x4, x5, x6, x7, x8] := by kernel_rfl
theorem zero9_eq : tkA 0 0 0 [] nmZ0 = zero9 := rfl
end Tk
theorem Lx.Bk.all9 {w : World} {g : Nat} {t : TypeId} (h : Bk w g t zero9) (x0 x1 x2 x3 x4 x5 x6 x7 x8 : Value) : Bk (((((((((w.setCell ⟨g, 0, none⟩ x0).setCell ⟨g, 1, none⟩ x1).setCell ⟨g, 2, none⟩ x2).setCell ⟨g, 3, none⟩ x3).setCell ⟨g, 4, none⟩ x4).setCell ⟨g, 5, none⟩ x5).setCell ⟨g, 6, none⟩ x6).setCell ⟨g, 7, none⟩ x7).setCell ⟨g, 8, none⟩ x8) g t #[x0, x1, x2, x3, x4, x5, x6, x7, x8] := by
  have := (Bk.set (Bk.set (Bk.set (Bk.set (Bk.set (Bk.set (Bk.set (Bk.set (Bk.set h 0 x0) 1 x1) 2 x2) 3 x3) 4 x4) 5 x5) 6 x6) 7 x7) 8 x8)
  rw [set9] at this
  exact this
theorem Lx.Tn.all9 (w : World) (g : Nat) (x0 x1 x2 x3 x4 x5 x6 x7 x8 : Value) : Tn g w (((((((((w.setCell ⟨g, 0, none⟩ x0).setCell ⟨g, 1, none⟩ x1).setCell ⟨g, 2, none⟩ x2).setCell ⟨g, 3, none⟩ x3).setCell ⟨g, 4, none⟩ x4).setCell ⟨g, 5, none⟩ x5).setCell ⟨g, 6, none⟩ x6).setCell ⟨g, 7, none⟩ x7).setCell ⟨g, 8, none⟩ x8) := ((((((((((Tn.refl g w).set 0 _).set 1 _).set 2 _).set 3 _).set 4 _).set 5 _).set 6 _).set 7 _).set 8 _)
set_option maxRecDepth 100000 in
theorem endOf18_any (s : ByteArray) (w : World) :
    Calls Tryz.prog 23 #[.string s] w fun e w' => e = .returned (.agg (tkA 0 s.size s.size [] nmZ0)) ∧ Below w.heap.size w w' := by
  have b := Bk.new w 32 (tkA 0 s.size s.size [] nmZ0)
  go_enter Tryz.func23, Tryz.ntmps23
  go_wp2
  exact bodyPost_ret (results_cell_row rfl _ _ w.heap.size 32 (tkA 0 s.size s.size [] nmZ0) (0, 0) _ rfl b Tryz.underlying32 rfl (by kernel_rfl)) rfl ⟨rfl, (Below.refl _ w).alloc (Nat.le_refl _) _⟩
set_option maxRecDepth 100000 in
theorem needsGap18_any (k f t : Int) (wd : B) (n : Nm) (w : World) :
    Calls Tryz.prog 27 #[.agg (tkA k f t wd n)] w fun e w' => e = .returned (.bool (k == 1 || k == 5)) ∧ Below w.heap.size w w' := by
  unfold tkA
  cases h1 : (k == 1)
  all_goals
    go_enter Tryz.func27, Tryz.ntmps27
    go_wp2
    go_ret
    exact ⟨by first | rfl | simp, (Below.refl _ w).alloc (Nat.le_refl _) _⟩
set_option maxRecDepth 100000 in
theorem markAt18_any (k : Int) (f : Nat) (hf : f ≤ 1000000000) (w : World) :
    Calls Tryz.prog 69 #[.int .i64 k, .int .i64 (f : Int)] w fun e w' => e = .returned (.agg (tkA k f ((f + 1 : Nat) : Int) [] nmZ0)) ∧ Below w.heap.size w w' := by
  have b := Bk.new w 32 (tkA k f ((f + 1 : Nat) : Int) [] nmZ0)
  go_enter Tryz.func69, Tryz.ntmps69
  go_wp2
  exact bodyPost_ret (results_cell_row rfl _ _ w.heap.size 32 (tkA k f ((f + 1 : Nat) : Int) [] nmZ0) (0, 0) _ rfl b Tryz.underlying32 rfl (by kernel_rfl)) rfl ⟨rfl, (Below.refl _ w).alloc (Nat.le_refl _) _⟩
namespace Tk
theorem shut_kd {c : UInt8} {q : B} : shutB (c :: q) = (kd c != 0 && kd c != 2) :=
  eq_of_beq (all_bytes (p := fun c => shutB (c :: ([] : B)) == (kd c != 0 && kd c != 2)) (by kernel_rfl) c)
end Tk
set_option maxRecDepth 100000 in
theorem endsToken18_any (s : ByteArray) (k : Nat) (hk : k ≤ s.size) (w : World) :
    Calls Tryz.prog 50 #[.string s, .int .i64 (k : Int)] w fun e w' => e = .returned (.bool (shutB (s.data.toList.drop k))) ∧ w' = w := by
  by_cases h : k = s.size
  · have d : ((k : Int) == (s.size : Int)) = true := by rw [h]; simp
    rw [drop_nil_of (by omega)]
    clear h
    go_enter Tryz.func50, Tryz.ntmps50
    go_wp2
    go_ret
    exact ⟨rfl, rfl⟩
  · have hlt : k < s.size := by omega
    have d : ((k : Int) == (s.size : Int)) = false := by rw [beq_eq_false_iff_ne]; omega
    rw [drop_cons_of hlt, shut_kd]
    have hi : (k : Int) < (s.size : Int) := by omega
    have c1 := kindOf18_any (s[k]'hlt)
    generalize kd (s[k]'hlt) = kk at *
    clear h
    cases h0 : (kk != 0)
    all_goals
      go_enter Tryz.func50, Tryz.ntmps50
      go_wp2_with (go_at_call 67; refine (c1 _).mono ?_; rintro e w' ⟨rfl, rfl⟩)
      go_ret
      exact ⟨by first | rfl | simp, rfl⟩
end Go.Proofs.YtfgpjplfplbcdaaGreatDoor

/- Layer 9: lex.says. -/
import Derived.Test.YtfgpjplfplbcdaaGreatDoorLexLow
import Derived.Deep.RegionHeld3
import Derived.Deep.CutRange
namespace Go.Proofs.YtfgpjplfplbcdaaGreatDoor
open Go.ChangeShapes Go.WideShapes Go.ChangeAt Go.RowKit
open Lx
set_option linter.unusedVariables false
namespace Lx
/-- a numeral's cells -/
def nmA (n : Nm) : Array Value := #[.int .i64 n.kind, .bool n.neg, .string (str n.num), .int .i64 n.exp, .string (str n.den)]
def zero5 : Array Value := #[.int .i64 0, .bool false, .string ⟨#[]⟩, .int .i64 0, .string ⟨#[]⟩]
theorem set5 (a b c d e : Value) : ((((zero5.setIfInBounds 0 a).setIfInBounds 1 b).setIfInBounds 2 c).setIfInBounds 3 d).setIfInBounds 4 e = #[a, b, c, d, e] := rfl
theorem Bk.all5 {w : World} {g : Nat} {t : TypeId} (h : Bk w g t zero5) (a b c d e : Value) : Bk (((((w.setCell ⟨g, 0, none⟩ a).setCell ⟨g, 1, none⟩ b).setCell ⟨g, 2, none⟩ c).setCell ⟨g, 3, none⟩ d).setCell ⟨g, 4, none⟩ e) g t #[a, b, c, d, e] := by
  have := Bk.set (Bk.set (Bk.set (Bk.set (Bk.set h 0 a) 1 b) 2 c) 3 d) 4 e
  rw [set5] at this
  exact this
theorem Tn.all5 (w : World) (g : Nat) (a b c d e : Value) : Tn g w (((((w.setCell ⟨g, 0, none⟩ a).setCell ⟨g, 1, none⟩ b).setCell ⟨g, 2, none⟩ c).setCell ⟨g, 3, none⟩ d).setCell ⟨g, 4, none⟩ e) :=
  (((((Tn.refl g w).set 0 _).set 1 _).set 2 _).set 3 _).set 4 _
def nmZ : Nm := ⟨0, false, [], 0, []⟩
end Lx
set_option maxHeartbeats 3200000 in
set_option maxRecDepth 100000 in
theorem says_any (p : Pc) (n : Nat) (h : Ok n p) (hn : n ≤ 65536) (w : World) :
    Calls Tryz.prog 92 #[.agg (pcA p)] w fun e w' => e = .returned (.agg (nmA (Lx.numOf p))) ∧ Below w.heap.size w w' := by
  have la := h.la
  have lb := h.lb
  have ld := h.ld
  have xb := expo_bound h.expo
  have hS1 : ∀ w, Calls Tryz.prog 113 #[.string (str p.ahead ++ str p.behind)] w fun e w' => e = .returned (.string (str (strip (p.ahead ++ p.behind)))) ∧ Below w.heap.size w w' := fun w => by
    have e : str p.ahead ++ str p.behind = str (p.ahead ++ p.behind) := by
      apply ByteArray.ext; simp [str]
    rw [e]
    have := strip_any (str (p.ahead ++ p.behind)) (by rw [str_list, List.all_append, h.ahead, h.behind]; rfl) (by rw [str_size, List.length_append]; omega) w
    rw [str_list] at this
    exact this
  have hS2 : ∀ w, Calls Tryz.prog 113 #[.string (str p.den)] w fun e w' => e = .returned (.string (str (strip p.den))) ∧ Below w.heap.size w w' := fun w => by
    have := strip_any (str p.den) (by rw [str_list]; exact all_mono (fun _ => isH_of) h.den) (by rw [str_size]; omega) w
    rw [str_list] at this
    exact this
  have hE : ∀ w, Calls Tryz.prog 114 #[.string (str p.expo)] w fun e w' => e = .returned (.int .i64 (expoN p.expo)) ∧ Below w.heap.size w w' := fun w => by
    have := exponent_any (str p.expo) (by rw [str_list]; exact h.expo) w
    rw [str_list] at this
    exact this
  have hl1 : (str p.ahead).size ≤ 65536 := by rw [str_size]; omega
  have hl2 : (str p.behind).size = p.behind.length := str_size _
  unfold Lx.numOf nmA pcA
  have hkd := h.kd
  clear h
  obtain ⟨kd, ng, pa, pb, pe, pd, ps⟩ := p
  simp only at *
  generalize hA : str pa = A at *
  generalize hB : str pb = BB at *
  generalize hDn : str pd = DD at *
  generalize hX : str pe = XX at *
  generalize hV : expoN pe = V at *
  generalize strip (pa ++ pb) = S1 at *
  generalize strip pd = S2 at *
  generalize pb.length = LB at *
  have hst0 : Bk ((w.alloc (.cells #[.int .i64 kd, .bool ng, .string A, .string BB, .string XX, .string DD, .int .i64 ps] 151)).alloc (.cells #[.int .i64 0, .bool false, .string ⟨#[]⟩, .int .i64 0, .string ⟨#[]⟩] 30)) w.heap.size 151 #[.int .i64 kd, .bool ng, .string A, .string BB, .string XX, .string DD, .int .i64 ps] :=
    (Bk.new w _ _).later ((Below.refl _ _).alloc (Nat.le_refl _) _)
  have hst1 : Bk ((w.alloc (.cells #[.int .i64 kd, .bool ng, .string A, .string BB, .string XX, .string DD, .int .i64 ps] 151)).alloc (.cells #[.int .i64 0, .bool false, .string ⟨#[]⟩, .int .i64 0, .string ⟨#[]⟩] 30)) (w.heap.size + 1) 30 #[.int .i64 0, .bool false, .string ⟨#[]⟩, .int .i64 0, .string ⟨#[]⟩] := by
    have := Bk.new (w.alloc (.cells #[.int .i64 kd, .bool ng, .string A, .string BB, .string XX, .string DD, .int .i64 ps] 151)) 30 #[.int .i64 0, .bool false, .string ⟨#[]⟩, .int .i64 0, .string ⟨#[]⟩]
    rw [World.size_alloc] at this
    exact this
  have hbl0 : Below w.heap.size w ((w.alloc (.cells #[.int .i64 kd, .bool ng, .string A, .string BB, .string XX, .string DD, .int .i64 ps] 151)).alloc (.cells #[.int .i64 0, .bool false, .string ⟨#[]⟩, .int .i64 0, .string ⟨#[]⟩] 30)) := ((Below.refl _ w).alloc (Nat.le_refl _) _).alloc (by simp) _
  obtain ⟨w0, hw0⟩ : ∃ w0, w0 = (w.alloc (.cells #[.int .i64 kd, .bool ng, .string A, .string BB, .string XX, .string DD, .int .i64 ps] 151)).alloc (.cells #[.int .i64 0, .bool false, .string ⟨#[]⟩, .int .i64 0, .string ⟨#[]⟩] 30) := ⟨_, rfl⟩
  rw [← hw0] at hst0 hst1 hbl0
  obtain ⟨g, hg⟩ : ∃ g, g = w.heap.size := ⟨_, rfl⟩
  have HG : Hid (w.heap.size = g) := hg.symm
  rw [← hg] at hst0 hst1 hbl0
  have hcl : ∀ w1, Below w0.heap.size w0 w1 → w1.cell? ⟨g, 0, none⟩ = some (.int .i64 kd) ∧ w1.cell? ⟨g, 1, none⟩ = some (.bool ng) ∧ w1.cell? ⟨g, 2, none⟩ = some (.string A) ∧ w1.cell? ⟨g, 3, none⟩ = some (.string BB) ∧ w1.cell? ⟨g, 5, none⟩ = some (.string DD) :=
    fun w1 h => ⟨(hst0.later h).cell 0 rfl, (hst0.later h).cell 1 rfl, (hst0.later h).cell 2 rfl, (hst0.later h).cell 3 rfl, (hst0.later h).cell 5 rfl⟩
  have hadd : ∀ w, (binOp .add 9 (.string A) (.string BB)).run Tryz.prog w = .ok (.string (A ++ BB)) w := fun w => by
    show (Op.stringOp .add A BB).run Tryz.prog w = _
    unfold Op.stringOp
    rw [if_neg (show ¬ ((A.size + BB.size : Nat) : Int) > IntKind.i64.max from (by have : IntKind.i64.max = 9223372036854775807 := rfl; omega))]
    rfl
  have hgl := hst0.lt
  have hgl1 := hst1.lt
  have n0 : ¬ g = w0.heap.size := by omega
  have n0' : ¬ w0.heap.size = g := by omega
  have HS0 : Hid (Bk w0 g 151 #[.int .i64 kd, .bool ng, .string A, .string BB, .string XX, .string DD, .int .i64 ps]) := hst0
  have HS1 : Hid (Bk w0 (g + 1) 30 zero5) := hst1
  clear hst0 hst1 hA hB hDn hX hV
  obtain ⟨x0, x1, x2, x3, x5⟩ := hcl w0 (Below.refl _ _)
  go_enter Tryz.func92, Tryz.ntmps92
  go_wp2
  rw [← hw0, ← hg]
  clear hw0 hg
  go_cut [3] from 4 to 17 (fun pv wx => ∃ g3, pv = .pointer (some ⟨g3, 0, none⟩) ∧ g + 1 < g3 ∧ Bk wx g 151 #[.int .i64 kd, .bool ng, .string A, .string BB, .string XX, .string DD, .int .i64 ps] ∧ Bk wx (g + 1) 30 zero5 ∧ Bk wx g3 30 #[.int .i64 kd, .bool ng, .string (str S1), .int .i64 0, .string (str S2)] ∧ Below g w wx)
  case first =>
    have hs9 : (A.size + LB > 9223372036854775807) = False := eq_false (by omega)
    have hs8 : (A.size + BB.size > 9223372036854775807) = False := eq_false (by omega)
    have hs7 : (9223372036854775807 < A.size + LB) = False := eq_false (by omega)
    have hs6 : (9223372036854775807 < A.size + BB.size) = False := eq_false (by omega)
    go_region_held3 (fun w1 => w1.cell? ⟨g, 0, none⟩ = some (.int .i64 kd) ∧ w1.cell? ⟨g, 1, none⟩ = some (.bool ng) ∧ w1.cell? ⟨g, 2, none⟩ = some (.string A) ∧ w1.cell? ⟨g, 3, none⟩ = some (.string BB) ∧ w1.cell? ⟨g, 5, none⟩ = some (.string DD)) (go_keep) (first | (go_at_call_of 113 A; refine (hS1 _).mono ?_; rintro e wX ⟨rfl, hbX⟩; have hBX : Below w0.heap.size w0 wX := (by first | exact hbX | exact (below_drewN (Below.refl _ w0) _).trans (hbX.mono (Nat.le_refl _)) | exact ((Below.refl _ w0).alloc (Nat.le_refl _) _).trans (hbX.mono (by simp)) | exact (below_drewN ((Below.refl _ w0).alloc (Nat.le_refl _) _) _).trans (hbX.mono (by simp))); obtain ⟨x0, x1, x2, x3, x5⟩ := hcl wX hBX; have n1 : ¬ g = wX.heap.size := (by have := hBX.size; omega); have n1' : ¬ wX.heap.size = g := (by have := hBX.size; omega); have m1 : g < wX.heap.size := (by have := hBX.size; omega); (try (have b3 : Bk wX w0.heap.size 30 #[.int .i64 0, .bool false, .string ⟨#[]⟩, .int .i64 0, .string ⟨#[]⟩] := (by first | exact (Bk.new w0 _ _).later hbX | exact ((Bk.new w0 _ _).later (below_drewN (Below.refl _ _) _)).later hbX); have u0 := b3.cell 0 rfl; have uf0 := b3.frozen 0; have u1 := b3.cell 1 rfl; have uf1 := b3.frozen 1; have u2 := b3.cell 2 rfl; have uf2 := b3.frozen 2; have u3 := b3.cell 3 rfl; have uf3 := b3.frozen 3; have u4 := b3.cell 4 rfl; have uf4 := b3.frozen 4))) | (go_at_call 113; refine (hS2 _).mono ?_; rintro e wY ⟨rfl, hbY⟩; have hBY : Below wX.heap.size wX wY := (by first | exact hbY | exact (below_drewN (Below.refl _ wX) _).trans (hbY.mono (Nat.le_refl _)) | exact ((Below.refl _ wX).alloc (Nat.le_refl _) _).trans (hbY.mono (by simp)) | exact (below_drewN ((Below.refl _ wX).alloc (Nat.le_refl _) _) _).trans (hbY.mono (by simp))); have hBZ := hBX.trans (hBY.mono hBX.size); obtain ⟨x0, x1, x2, x3, x5⟩ := hcl wY hBZ; have n2 : ¬ g = wY.heap.size := (by have := hBZ.size; omega); have n2' : ¬ wY.heap.size = g := (by have := hBZ.size; omega); have m2 : g < wY.heap.size := (by have := hBZ.size; omega); (try (have b4 : Bk wY w0.heap.size 30 #[.int .i64 0, .bool false, .string ⟨#[]⟩, .int .i64 0, .string ⟨#[]⟩] := b3.later hBY; have v0 := b4.cell 0 rfl; have vf0 := b4.frozen 0; have v1 := b4.cell 1 rfl; have vf1 := b4.frozen 1; have v2 := b4.cell 2 rfl; have vf2 := b4.frozen 2; have v3 := b4.cell 3 rfl; have vf3 := b4.frozen 3; have v4 := b4.cell 4 rfl; have vf4 := b4.frozen 4)); (try (have b5 : Bk wY wX.heap.size 30 #[.int .i64 0, .bool false, .string ⟨#[]⟩, .int .i64 0, .string ⟨#[]⟩] := (by first | exact (Bk.new wX _ _).later hbY | exact ((Bk.new wX _ _).later (below_drewN (Below.refl _ _) _)).later hbY); have q0 := b5.cell 0 rfl; have qf0 := b5.frozen 0; have q1 := b5.cell 1 rfl; have qf1 := b5.frozen 1; have q2 := b5.cell 2 rfl; have qf2 := b5.frozen 2; have q3 := b5.cell 3 rfl; have qf3 := b5.frozen 3; have q4 := b5.cell 4 rfl; have qf4 := b5.frozen 4))))
    all_goals (go_wp2_with fail)
    all_goals go_meet
    all_goals
      have H0 := HS0.out.later hBZ
      have H1 := HS1.out.later hBZ
      have hy := hBZ.size
      have hx := hBX.size
      have HW : Below g w wY := hbl0.trans (hBZ.mono (by omega))
      first
      | (have q5 := b5; refine ⟨wX.heap.size, rfl, by omega, H0.tn (Tn.all5 ..) n1, H1.tn (Tn.all5 ..) (by omega), Bk.all5 b5 _ _ _ _ _, Tn.below HW (Tn.all5 ..) (by omega) (by rw [HG.out]; exact Nat.le_refl _)⟩)
      | (have q4 := b4; refine ⟨w0.heap.size, rfl, by omega, H0.tn (Tn.all5 ..) n0, H1.tn (Tn.all5 ..) (by omega), Bk.all5 b4 _ _ _ _ _, Tn.below HW (Tn.all5 ..) (by omega) (by rw [HG.out]; exact Nat.le_refl _)⟩)
      | (refine ⟨wY.heap.size, rfl, by omega, H0.later ((Below.refl _ _).alloc (Nat.le_refl _) _), H1.later ((Below.refl _ _).alloc (Nat.le_refl _) _), Bk.new wY _ _, HW.alloc (by omega) _⟩)
  obtain ⟨g3, rfl, hg3, K0, K1, K3, HK⟩ := hcut
  have hE2 : ∀ w, Calls Tryz.prog 114 #[.string XX] w fun e w' => e = .returned (.int .i64 V) ∧ Below w.heap.size w w' := hE
  have k0 := K0.cell 0 rfl
  have HK0 : Hid (Bk wc g 151 #[.int .i64 kd, .bool ng, .string A, .string BB, .string XX, .string DD, .int .i64 ps]) := K0
  have HK1 : Hid (Bk wc (g + 1) 30 zero5) := K1
  have HK3 : Hid (Bk wc g3 30 #[.int .i64 kd, .bool ng, .string (str S1), .int .i64 0, .string (str S2)]) := K3
  have hlt3 := K3.lt
  have hclc : ∀ w1, Below wc.heap.size wc w1 → w1.cell? ⟨g, 0, none⟩ = some (.int .i64 kd) ∧ w1.cell? ⟨g, 3, none⟩ = some (.string BB) ∧ w1.cell? ⟨g, 4, none⟩ = some (.string XX) ∧ w1.cell? ⟨g3, 3, none⟩ = some (.int .i64 0) ∧ w1.frozen? ⟨g3, 3, none⟩ = false :=
    fun w1 h => ⟨(K0.later h).cell 0 rfl, (K0.later h).cell 3 rfl, (K0.later h).cell 4 rfl, (K3.later h).cell 3 rfl, (K3.later h).frozen 3⟩
  clear K0 K1 K3 x0 x1 x2 x3 x5 hcl HS0 HS1 hS1 hS2 hadd hbl0
  have nq : ¬ g3 = g := by omega
  have nq1 : ¬ g3 = g + 1 := by omega
  rcases hkd with hk | hk | hk | hk
  case inr.inl =>
    subst hk
    obtain ⟨q0, q3, q4, q5, q6⟩ := hclc wc (Below.refl _ _)
    have hw1 : IntKind.i64.wrap (V - (LB : Int)) = V - (LB : Int) := wrapI (by omega) (by omega)
    have hw2 : IntKind.i64.wrap (4 * (LB : Int)) = 4 * (LB : Int) := wrapI (by omega) (by omega)
    have hw3 : IntKind.i64.wrap (V - 4 * (LB : Int)) = V - 4 * (LB : Int) := wrapI (by omega) (by omega)
    go_wp2
    go_region_held3 (fun w1 => w1.cell? ⟨g, 3, none⟩ = some (.string BB) ∧ w1.cell? ⟨g, 4, none⟩ = some (.string XX)) (go_keep) (first | (go_at_call 114; refine (hE2 _).mono ?_; rintro e wX ⟨rfl, hbX⟩; have hBX : Below wc.heap.size wc wX := (by first | exact hbX | exact (below_drewN (Below.refl _ wc) _).trans (hbX.mono (Nat.le_refl _))); obtain ⟨q0, q3, q4, q5, q6⟩ := hclc wX hBX; have B3 := HK3.out.later hBX; have B1 := HK1.out.later hBX; have y0 := B3.cell 0 rfl; have y1 := B3.cell 1 rfl; have y2 := B3.cell 2 rfl; have y3 := B3.cell 3 rfl; have y4 := B3.cell 4 rfl; have z0 := B1.cell 0 rfl; have z1 := B1.cell 1 rfl; have z2 := B1.cell 2 rfl; have z3 := B1.cell 3 rfl; have z4 := B1.cell 4 rfl; have zf0 := B1.frozen 0; have zf1 := B1.frozen 1; have zf2 := B1.frozen 2; have zf3 := B1.frozen 3; have zf4 := B1.frozen 4) | (go_at_call 65; refine (held9_any _ _).mono ?_; rintro e w' ⟨rfl, hw⟩; rw [hw]))
    go_wp2
    have B1' := B1.tn ((Tn.refl g3 wX).set 3 (.int .i64 (heldI (V - LB)))) (by omega)
    refine bodyPost_ret (results_cell_row rfl _ _ (g + 1) 30 #[.int .i64 1, .bool ng, .string (str S1), .int .i64 (heldI (V - LB)), .string (str S2)] (0, 0) _ rfl (Bk.all5 (B1'.later (below_drewN (Below.refl _ _) 0)) _ _ _ _ _) Tryz.underlying30 rfl (by kernel_rfl)) rfl ?_
    refine ⟨rfl, ?_⟩
    rw [HG.out]
    exact Tn.below (Tn.below (HK.trans (hBX.mono (by omega))) ((Tn.refl g3 wX).set 3 _) (by omega) (by rw [HG.out]; exact Nat.le_refl _)) (Tn.all5 ..) (by omega) (by rw [HG.out]; exact Nat.le_refl _)
  case inr.inr.inl =>
    subst hk
    obtain ⟨q0, q3, q4, q5, q6⟩ := hclc wc (Below.refl _ _)
    have hw1 : IntKind.i64.wrap (V - (LB : Int)) = V - (LB : Int) := wrapI (by omega) (by omega)
    have hw2 : IntKind.i64.wrap (4 * (LB : Int)) = 4 * (LB : Int) := wrapI (by omega) (by omega)
    have hw3 : IntKind.i64.wrap (V - 4 * (LB : Int)) = V - 4 * (LB : Int) := wrapI (by omega) (by omega)
    go_wp2
    go_region_held3 (fun w1 => w1.cell? ⟨g, 3, none⟩ = some (.string BB) ∧ w1.cell? ⟨g, 4, none⟩ = some (.string XX)) (go_keep) (first | (go_at_call 114; refine (hE2 _).mono ?_; rintro e wX ⟨rfl, hbX⟩; have hBX : Below wc.heap.size wc wX := (by first | exact hbX | exact (below_drewN (Below.refl _ wc) _).trans (hbX.mono (Nat.le_refl _))); obtain ⟨q0, q3, q4, q5, q6⟩ := hclc wX hBX; have B3 := HK3.out.later hBX; have B1 := HK1.out.later hBX; have y0 := B3.cell 0 rfl; have y1 := B3.cell 1 rfl; have y2 := B3.cell 2 rfl; have y3 := B3.cell 3 rfl; have y4 := B3.cell 4 rfl; have z0 := B1.cell 0 rfl; have z1 := B1.cell 1 rfl; have z2 := B1.cell 2 rfl; have z3 := B1.cell 3 rfl; have z4 := B1.cell 4 rfl; have zf0 := B1.frozen 0; have zf1 := B1.frozen 1; have zf2 := B1.frozen 2; have zf3 := B1.frozen 3; have zf4 := B1.frozen 4) | (go_at_call 65; refine (held9_any _ _).mono ?_; rintro e w' ⟨rfl, hw⟩; rw [hw]))
    go_wp2
    have B1' := B1.tn ((Tn.refl g3 wX).set 3 (.int .i64 (heldI (V - 4 * LB)))) (by omega)
    refine bodyPost_ret (results_cell_row rfl _ _ (g + 1) 30 #[.int .i64 2, .bool ng, .string (str S1), .int .i64 (heldI (V - 4 * LB)), .string (str S2)] (0, 0) _ rfl (Bk.all5 (B1'.later (below_drewN (Below.refl _ _) 0)) _ _ _ _ _) Tryz.underlying30 rfl (by kernel_rfl)) rfl ?_
    refine ⟨rfl, ?_⟩
    rw [HG.out]
    exact Tn.below (Tn.below (HK.trans (hBX.mono (by omega))) ((Tn.refl g3 wX).set 3 _) (by omega) (by rw [HG.out]; exact Nat.le_refl _)) (Tn.all5 ..) (by omega) (by rw [HG.out]; exact Nat.le_refl _)
  case inl =>
    subst hk
    have y0 := (HK3.out).cell 0 rfl
    have y1 := (HK3.out).cell 1 rfl
    have y2 := (HK3.out).cell 2 rfl
    have y3 := (HK3.out).cell 3 rfl
    have y4 := (HK3.out).cell 4 rfl
    have z0 := (HK1.out).cell 0 rfl
    have z1 := (HK1.out).cell 1 rfl
    have z2 := (HK1.out).cell 2 rfl
    have z3 := (HK1.out).cell 3 rfl
    have z4 := (HK1.out).cell 4 rfl
    have zf0 := (HK1.out).frozen 0
    have zf1 := (HK1.out).frozen 1
    have zf2 := (HK1.out).frozen 2
    have zf3 := (HK1.out).frozen 3
    have zf4 := (HK1.out).frozen 4
    go_wp2
    refine bodyPost_ret (results_cell_row rfl _ _ (g + 1) 30 #[.int .i64 0, .bool ng, .string (str S1), .int .i64 0, .string (str S2)] (0, 0) _ rfl (Bk.all5 HK1.out _ _ _ _ _) Tryz.underlying30 rfl (by kernel_rfl)) rfl ?_
    refine ⟨rfl, ?_⟩
    rw [HG.out]
    exact Tn.below HK (Tn.all5 ..) (by omega) (by rw [HG.out]; exact Nat.le_refl _)
  case inr.inr.inr =>
    subst hk
    have y0 := (HK3.out).cell 0 rfl
    have y1 := (HK3.out).cell 1 rfl
    have y2 := (HK3.out).cell 2 rfl
    have y3 := (HK3.out).cell 3 rfl
    have y4 := (HK3.out).cell 4 rfl
    have z0 := (HK1.out).cell 0 rfl
    have z1 := (HK1.out).cell 1 rfl
    have z2 := (HK1.out).cell 2 rfl
    have z3 := (HK1.out).cell 3 rfl
    have z4 := (HK1.out).cell 4 rfl
    have zf0 := (HK1.out).frozen 0
    have zf1 := (HK1.out).frozen 1
    have zf2 := (HK1.out).frozen 2
    have zf3 := (HK1.out).frozen 3
    have zf4 := (HK1.out).frozen 4
    go_wp2
    refine bodyPost_ret (results_cell_row rfl _ _ (g + 1) 30 #[.int .i64 3, .bool ng, .string (str S1), .int .i64 0, .string (str S2)] (0, 0) _ rfl (Bk.all5 HK1.out _ _ _ _ _) Tryz.underlying30 rfl (by kernel_rfl)) rfl ?_
    refine ⟨rfl, ?_⟩
    rw [HG.out]
    exact Tn.below HK (Tn.all5 ..) (by omega) (by rw [HG.out]; exact Nat.le_refl _)
end Go.Proofs.YtfgpjplfplbcdaaGreatDoor

import Derived.Deep.RegionHeld3
import Derived.Deep.CutRange
import Derived.Below
import Derived.BigQuiet
import Derived.Deep.LoopGhost
import Derived.Deep.QuietTactic
import Derived.Deep.RegionWith
import Derived.Deep.WholeRow
import Derived.KernelRfl
import Derived.Laws.EntriesVeiled
import Derived.Laws.Externs
import Derived.Laws.RangeString
import Derived.Laws.ResultCell
import Derived.Laws.Runes
import Derived.Laws.Strings3
import Derived.Lib.AsciiSet
import Derived.Lib.Bytealg
import Derived.Lib.IndexBytes
import Derived.Lib.Strings
import Derived.Lib.TrimByte
import Derived.Lib.Walk
import Derived.OpenShut
import Derived.ProofKit
import Derived.Shelf.Strconv.Clone
import Derived.Shelf.Strings.OnBuilder
import Derived.ShutString
import Derived.WalkKit
import Derived.WalkLawsBesides
import Derived.WalkSpells
import Derived.Test.YtfgpjplfplbcdaaGreatDoorPt1
import Derived.Test.YtfgpjplfplbcdaaGreatDoorPt7
import Derived.Test.YtfgpjplfplbcdaaGreatDoorPt9
import Derived.Test.YtfgpjplfplbcdaaGreatDoorPt10
/- Layer 9: lex.says. -/
namespace Go.Proofs.YtfgpjplfplbcdaaGreatDoor
open Go.ChangeShapes Go.WideShapes Go.ChangeAt Go.RowKit
open Lx
set_option linter.unusedVariables false
namespace Lx
/-- a numeral's cells -/
def nmA (n : Nm) : Array Value := #[.int .i64 n.kind, .bool n.neg, .string (str n.num), .int .i64 n.exp, .string (str n.den)]
def zero5 : Array Value := #[.int .i64 0, .bool false, .string ⟨#[]⟩, .int .i64 0, .string ⟨#[]⟩]
theorem set5 (a b c d e : Value) : ((((zero5.setIfInBounds 0 a).setIfInBounds 1 b).setIfInBounds 2 c).setIfInBounds 3 d).setIfInBounds 4 e = #[a, b, c, d, e] := rfl
theorem Bk.all5 {w : World} {g : Nat} {t : TypeId} (h : Bk w g t zero5) (a b c d e : Value) : Bk (((((w.setCell ⟨g, 0, none⟩ a).setCell ⟨g, 1, none⟩ b).setCell ⟨g, 2, none⟩ c).setCell ⟨g, 3, none⟩ d).setCell ⟨g, 4, none⟩ e) g t #[a, b, c, d, e] := by
  have := Bk.set (Bk.set (Bk.set (Bk.set (Bk.set h 0 a) 1 b) 2 c) 3 d) 4 e
  rw [set5] at this
  exact this
theorem Tn.all5 (w : World) (g : Nat) (a b c d e : Value) : Tn g w (((((w.setCell ⟨g, 0, none⟩ a).setCell ⟨g, 1, none⟩ b).setCell ⟨g, 2, none⟩ c).setCell ⟨g, 3, none⟩ d).setCell ⟨g, 4, none⟩ e) :=
  (((((Tn.refl g w).set 0 _).set 1 _).set 2 _).set 3 _).set 4 _
def nmZ : Nm := ⟨0, false, [], 0, []⟩
end Lx
set_option maxHeartbeats 3200000 in
set_option maxRecDepth 100000 in
theorem says_any (p : Pc) (n : Nat) (h : Ok n p) (hn : n ≤ 65536) (w : World) :
    Calls Tryz.prog 92 #[.agg (pcA p)] w fun e w' => e = .returned (.agg (nmA (Lx.numOf p))) ∧ Below w.heap.size w w' := by
  have la := h.la
  have lb := h.lb
  have ld := h.ld
  have xb := expo_bound h.expo
  have hS1 : ∀ w, Calls Tryz.prog 113 #[.string (str p.ahead ++ str p.behind)] w fun e w' => e = .returned (.string (str (strip (p.ahead ++ p.behind)))) ∧ Below w.heap.size w w' := fun w => by
    have e : str p.ahead ++ str p.behind = str (p.ahead ++ p.behind) := by
      apply ByteArray.ext; simp [str]
    rw [e]
    have := strip_any (str (p.ahead ++ p.behind)) (by rw [str_list, List.all_append, h.ahead, h.behind]; rfl) (by rw [str_size, List.length_append]; omega) w
    rw [str_list] at this
    exact this
  have hS2 : ∀ w, Calls Tryz.prog 113 #[.string (str p.den)] w fun e w' => e = .returned (.string (str (strip p.den))) ∧ Below w.heap.size w w' := fun w => by
    have := strip_any (str p.den) (by rw [str_list]; exact all_mono (fun _ => isH_of) h.den) (by rw [str_size]; omega) w
    rw [str_list] at this
    exact this
  have hE : ∀ w, Calls Tryz.prog 114 #[.string (str p.expo)] w fun e w' => e = .returned (.int .i64 (expoN p.expo)) ∧ Below w.heap.size w w' := fun w => by
    have := exponent_any (str p.expo) (by rw [str_list]; exact h.expo) w
    rw [str_list] at this
    exact this
  have hl1 : (str p.ahead).size ≤ 65536 := by rw [str_size]; omega
  have hl2 : (str p.behind).size = p.behind.length := str_size _
  unfold Lx.numOf nmA pcA
  have hkd := h.kd
  clear h
  obtain ⟨kd, ng, pa, pb, pe, pd, ps⟩ := p
  simp only at *
  generalize hA : str pa = A at *
  generalize hB : str pb = BB at *
  generalize hDn : str pd = DD at *
  generalize hX : str pe = XX at *
  generalize hV : expoN pe = V at *
  generalize strip (pa ++ pb) = S1 at *
  generalize strip pd = S2 at *
  generalize pb.length = LB at *
  have hst0 : Bk ((w.alloc (.cells #[.int .i64 kd, .bool ng, .string A, .string BB, .string XX, .string DD, .int .i64 ps] 151)).alloc (.cells #[.int .i64 0, .bool false, .string ⟨#[]⟩, .int .i64 0, .string ⟨#[]⟩] 30)) w.heap.size 151 #[.int .i64 kd, .bool ng, .string A, .string BB, .string XX, .string DD, .int .i64 ps] :=
    (Bk.new w _ _).later ((Below.refl _ _).alloc (Nat.le_refl _) _)
  have hst1 : Bk ((w.alloc (.cells #[.int .i64 kd, .bool ng, .string A, .string BB, .string XX, .string DD, .int .i64 ps] 151)).alloc (.cells #[.int .i64 0, .bool false, .string ⟨#[]⟩, .int .i64 0, .string ⟨#[]⟩] 30)) (w.heap.size + 1) 30 #[.int .i64 0, .bool false, .string ⟨#[]⟩, .int .i64 0, .string ⟨#[]⟩] := by
    have := Bk.new (w.alloc (.cells #[.int .i64 kd, .bool ng, .string A, .string BB, .string XX, .string DD, .int .i64 ps] 151)) 30 #[.int .i64 0, .bool false, .string ⟨#[]⟩, .int .i64 0, .string ⟨#[]⟩]
    rw [World.size_alloc] at this
    exact this
  have hbl0 : Below w.heap.size w ((w.alloc (.cells #[.int .i64 kd, .bool ng, .string A, .string BB, .string XX, .string DD, .int .i64 ps] 151)).alloc (.cells #[.int .i64 0, .bool false, .string ⟨#[]⟩, .int .i64 0, .string ⟨#[]⟩] 30)) := ((Below.refl _ w).alloc (Nat.le_refl _) _).alloc (by simp) _
  obtain ⟨w0, hw0⟩ : ∃ w0, w0 = (w.alloc (.cells #[.int .i64 kd, .bool ng, .string A, .string BB, .string XX, .string DD, .int .i64 ps] 151)).alloc (.cells #[.int .i64 0, .bool false, .string ⟨#[]⟩, .int .i64 0, .string ⟨#[]⟩] 30) := ⟨_, rfl⟩
  rw [← hw0] at hst0 hst1 hbl0
  obtain ⟨g, hg⟩ : ∃ g, g = w.heap.size := ⟨_, rfl⟩
  have HG : Hid (w.heap.size = g) := hg.symm
  rw [← hg] at hst0 hst1 hbl0
  have hcl : ∀ w1, Below w0.heap.size w0 w1 → w1.cell? ⟨g, 0, none⟩ = some (.int .i64 kd) ∧ w1.cell? ⟨g, 1, none⟩ = some (.bool ng) ∧ w1.cell? ⟨g, 2, none⟩ = some (.string A) ∧ w1.cell? ⟨g, 3, none⟩ = some (.string BB) ∧ w1.cell? ⟨g, 5, none⟩ = some (.string DD) :=
    fun w1 h => ⟨(hst0.later h).cell 0 rfl, (hst0.later h).cell 1 rfl, (hst0.later h).cell 2 rfl, (hst0.later h).cell 3 rfl, (hst0.later h).cell 5 rfl⟩
  have hadd : ∀ w, (binOp .add 9 (.string A) (.string BB)).run Tryz.prog w = .ok (.string (A ++ BB)) w := fun w => by
    show (Op.stringOp .add A BB).run Tryz.prog w = _
    unfold Op.stringOp
    rw [if_neg (show ¬ ((A.size + BB.size : Nat) : Int) > IntKind.i64.max from (by have : IntKind.i64.max = 9223372036854775807 := rfl; omega))]
    rfl
  have hgl := hst0.lt
  have hgl1 := hst1.lt
  have n0 : ¬ g = w0.heap.size := by omega
  have n0' : ¬ w0.heap.size = g := by omega
  have HS0 : Hid (Bk w0 g 151 #[.int .i64 kd, .bool ng, .string A, .string BB, .string XX, .string DD, .int .i64 ps]) := hst0
  have HS1 : Hid (Bk w0 (g + 1) 30 zero5) := hst1
  clear hst0 hst1 hA hB hDn hX hV
  obtain ⟨x0, x1, x2, x3, x5⟩ := hcl w0 (Below.refl _ _)
  go_enter Tryz.func92, Tryz.ntmps92
  go_wp2
  rw [← hw0, ← hg]
  clear hw0 hg
  go_cut [3] from 4 to 17 (fun pv wx => ∃ g3, pv = .pointer (some ⟨g3, 0, none⟩) ∧ g + 1 < g3 ∧ Bk wx g 151 #[.int .i64 kd, .bool ng, .string A, .string BB, .string XX, .string DD, .int .i64 ps] ∧ Bk wx (g + 1) 30 zero5 ∧ Bk wx g3 30 #[.int .i64 kd, .bool ng, .string (str S1), .int .i64 0, .string (str S2)] ∧ Below g w wx)
  case first =>
    have hs9 : (A.size + LB > 9223372036854775807) = False := eq_false (by omega)
    have hs8 : (A.size + BB.size > 9223372036854775807) = False := eq_false (by omega)
    have hs7 : (9223372036854775807 < A.size + LB) = False := eq_false (by omega)
    have hs6 : (9223372036854775807 < A.size + BB.size) = False := eq_false (by omega)
    go_region_held3 (fun w1 => w1.cell? ⟨g, 0, none⟩ = some (.int .i64 kd) ∧ w1.cell? ⟨g, 1, none⟩ = some (.bool ng) ∧ w1.cell? ⟨g, 2, none⟩ = some (.string A) ∧ w1.cell? ⟨g, 3, none⟩ = some (.string BB) ∧ w1.cell? ⟨g, 5, none⟩ = some (.string DD)) (go_keep) (first | (go_at_call_of 113 A; refine (hS1 _).mono ?_; rintro e wX ⟨rfl, hbX⟩; have hBX : Below w0.heap.size w0 wX := (by first | exact hbX | exact (below_drewN (Below.refl _ w0) _).trans (hbX.mono (Nat.le_refl _)) | exact ((Below.refl _ w0).alloc (Nat.le_refl _) _).trans (hbX.mono (by simp)) | exact (below_drewN ((Below.refl _ w0).alloc (Nat.le_refl _) _) _).trans (hbX.mono (by simp))); obtain ⟨x0, x1, x2, x3, x5⟩ := hcl wX hBX; have n1 : ¬ g = wX.heap.size := (by have := hBX.size; omega); have n1' : ¬ wX.heap.size = g := (by have := hBX.size; omega); have m1 : g < wX.heap.size := (by have := hBX.size; omega); (try (have b3 : Bk wX w0.heap.size 30 #[.int .i64 0, .bool false, .string ⟨#[]⟩, .int .i64 0, .string ⟨#[]⟩] := (by first | exact (Bk.new w0 _ _).later hbX | exact ((Bk.new w0 _ _).later (below_drewN (Below.refl _ _) _)).later hbX); have u0 := b3.cell 0 rfl; have uf0 := b3.frozen 0; have u1 := b3.cell 1 rfl; have uf1 := b3.frozen 1; have u2 := b3.cell 2 rfl; have uf2 := b3.frozen 2; have u3 := b3.cell 3 rfl; have uf3 := b3.frozen 3; have u4 := b3.cell 4 rfl; have uf4 := b3.frozen 4))) | (go_at_call 113; refine (hS2 _).mono ?_; rintro e wY ⟨rfl, hbY⟩; have hBY : Below wX.heap.size wX wY := (by first | exact hbY | exact (below_drewN (Below.refl _ wX) _).trans (hbY.mono (Nat.le_refl _)) | exact ((Below.refl _ wX).alloc (Nat.le_refl _) _).trans (hbY.mono (by simp)) | exact (below_drewN ((Below.refl _ wX).alloc (Nat.le_refl _) _) _).trans (hbY.mono (by simp))); have hBZ := hBX.trans (hBY.mono hBX.size); obtain ⟨x0, x1, x2, x3, x5⟩ := hcl wY hBZ; have n2 : ¬ g = wY.heap.size := (by have := hBZ.size; omega); have n2' : ¬ wY.heap.size = g := (by have := hBZ.size; omega); have m2 : g < wY.heap.size := (by have := hBZ.size; omega); (try (have b4 : Bk wY w0.heap.size 30 #[.int .i64 0, .bool false, .string ⟨#[]⟩, .int .i64 0, .string ⟨#[]⟩] := b3.later hBY; have v0 := b4.cell 0 rfl; have vf0 := b4.frozen 0; have v1 := b4.cell 1 rfl; have vf1 := b4.frozen 1; have v2 := b4.cell 2 rfl; have vf2 := b4.frozen 2; have v3 := b4.cell 3 rfl; have vf3 := b4.frozen 3; have v4 := b4.cell 4 rfl; have vf4 := b4.frozen 4)); (try (have b5 : Bk wY wX.heap.size 30 #[.int .i64 0, .bool false, .string ⟨#[]⟩, .int .i64 0, .string ⟨#[]⟩] := (by first | exact (Bk.new wX _ _).later hbY | exact ((Bk.new wX _ _).later (below_drewN (Below.refl _ _) _)).later hbY); have q0 := b5.cell 0 rfl; have qf0 := b5.frozen 0; have q1 := b5.cell 1 rfl; have qf1 := b5.frozen 1; have q2 := b5.cell 2 rfl; have qf2 := b5.frozen 2; have q3 := b5.cell 3 rfl; have qf3 := b5.frozen 3; have q4 := b5.cell 4 rfl; have qf4 := b5.frozen 4))))
    all_goals (go_wp2_with fail)
    all_goals go_meet
    all_goals
      have H0 := HS0.out.later hBZ
      have H1 := HS1.out.later hBZ
      have hy := hBZ.size
      have hx := hBX.size
      have HW : Below g w wY := hbl0.trans (hBZ.mono (by omega))
      first
      | (have q5 := b5; refine ⟨wX.heap.size, rfl, by omega, H0.tn (Tn.all5 ..) n1, H1.tn (Tn.all5 ..) (by omega), Bk.all5 b5 _ _ _ _ _, Tn.below HW (Tn.all5 ..) (by omega) (by rw [HG.out]; exact Nat.le_refl _)⟩)
      | (have q4 := b4; refine ⟨w0.heap.size, rfl, by omega, H0.tn (Tn.all5 ..) n0, H1.tn (Tn.all5 ..) (by omega), Bk.all5 b4 _ _ _ _ _, Tn.below HW (Tn.all5 ..) (by omega) (by rw [HG.out]; exact Nat.le_refl _)⟩)
      | (refine ⟨wY.heap.size, rfl, by omega, H0.later ((Below.refl _ _).alloc (Nat.le_refl _) _), H1.later ((Below.refl _ _).alloc (Nat.le_refl _) _), Bk.new wY _ _, HW.alloc (by omega) _⟩)
  obtain ⟨g3, rfl, hg3, K0, K1, K3, HK⟩ := hcut
  have hE2 : ∀ w, Calls Tryz.prog 114 #[.string XX] w fun e w' => e = .returned (.int .i64 V) ∧ Below w.heap.size w w' := hE
  have k0 := K0.cell 0 rfl
  have HK0 : Hid (Bk wc g 151 #[.int .i64 kd, .bool ng, .string A, .string BB, .string XX, .string DD, .int .i64 ps]) := K0
  have HK1 : Hid (Bk wc (g + 1) 30 zero5) := K1
  have HK3 : Hid (Bk wc g3 30 #[.int .i64 kd, .bool ng, .string (str S1), .int .i64 0, .string (str S2)]) := K3
  have hlt3 := K3.lt
  have hclc : ∀ w1, Below wc.heap.size wc w1 → w1.cell? ⟨g, 0, none⟩ = some (.int .i64 kd) ∧ w1.cell? ⟨g, 3, none⟩ = some (.string BB) ∧ w1.cell? ⟨g, 4, none⟩ = some (.string XX) ∧ w1.cell? ⟨g3, 3, none⟩ = some (.int .i64 0) ∧ w1.frozen? ⟨g3, 3, none⟩ = false :=
    fun w1 h => ⟨(K0.later h).cell 0 rfl, (K0.later h).cell 3 rfl, (K0.later h).cell 4 rfl, (K3.later h).cell 3 rfl, (K3.later h).frozen 3⟩
  clear K0 K1 K3 x0 x1 x2 x3 x5 hcl HS0 HS1 hS1 hS2 hadd hbl0
  have nq : ¬ g3 = g := by omega
  have nq1 : ¬ g3 = g + 1 := by omega
  rcases hkd with hk | hk | hk | hk
  case inr.inl =>
    subst hk
    obtain ⟨q0, q3, q4, q5, q6⟩ := hclc wc (Below.refl _ _)
    have hw1 : IntKind.i64.wrap (V - (LB : Int)) = V - (LB : Int) := wrapI (by omega) (by omega)
    have hw2 : IntKind.i64.wrap (4 * (LB : Int)) = 4 * (LB : Int) := wrapI (by omega) (by omega)
    have hw3 : IntKind.i64.wrap (V - 4 * (LB : Int)) = V - 4 * (LB : Int) := wrapI (by omega) (by omega)
    go_wp2
    go_region_held3 (fun w1 => w1.cell? ⟨g, 3, none⟩ = some (.string BB) ∧ w1.cell? ⟨g, 4, none⟩ = some (.string XX)) (go_keep) (first | (go_at_call 114; refine (hE2 _).mono ?_; rintro e wX ⟨rfl, hbX⟩; have hBX : Below wc.heap.size wc wX := (by first | exact hbX | exact (below_drewN (Below.refl _ wc) _).trans (hbX.mono (Nat.le_refl _))); obtain ⟨q0, q3, q4, q5, q6⟩ := hclc wX hBX; have B3 := HK3.out.later hBX; have B1 := HK1.out.later hBX; have y0 := B3.cell 0 rfl; have y1 := B3.cell 1 rfl; have y2 := B3.cell 2 rfl; have y3 := B3.cell 3 rfl; have y4 := B3.cell 4 rfl; have z0 := B1.cell 0 rfl; have z1 := B1.cell 1 rfl; have z2 := B1.cell 2 rfl; have z3 := B1.cell 3 rfl; have z4 := B1.cell 4 rfl; have zf0 := B1.frozen 0; have zf1 := B1.frozen 1; have zf2 := B1.frozen 2; have zf3 := B1.frozen 3; have zf4 := B1.frozen 4) | (go_at_call 65; refine (held9_any _ _).mono ?_; rintro e w' ⟨rfl, hw⟩; rw [hw]))
    go_wp2
    have B1' := B1.tn ((Tn.refl g3 wX).set 3 (.int .i64 (heldI (V - LB)))) (by omega)
    refine bodyPost_ret (results_cell_row rfl _ _ (g + 1) 30 #[.int .i64 1, .bool ng, .string (str S1), .int .i64 (heldI (V - LB)), .string (str S2)] (0, 0) _ rfl (Bk.all5 (B1'.later (below_drewN (Below.refl _ _) 0)) _ _ _ _ _) Tryz.underlying30 rfl (by kernel_rfl)) rfl ?_
    refine ⟨rfl, ?_⟩
    rw [HG.out]
    exact Tn.below (Tn.below (HK.trans (hBX.mono (by omega))) ((Tn.refl g3 wX).set 3 _) (by omega) (by rw [HG.out]; exact Nat.le_refl _)) (Tn.all5 ..) (by omega) (by rw [HG.out]; exact Nat.le_refl _)
  case inr.inr.inl =>
    subst hk
    obtain ⟨q0, q3, q4, q5, q6⟩ := hclc wc (Below.refl _ _)
    have hw1 : IntKind.i64.wrap (V - (LB : Int)) = V - (LB : Int) := wrapI (by omega) (by omega)
    have hw2 : IntKind.i64.wrap (4 * (LB : Int)) = 4 * (LB : Int) := wrapI (by omega) (by omega)
    have hw3 : IntKind.i64.wrap (V - 4 * (LB : Int)) = V - 4 * (LB : Int) := wrapI (by omega) (by omega)
    go_wp2
    go_region_held3 (fun w1 => w1.cell? ⟨g, 3, none⟩ = some (.string BB) ∧ w1.cell? ⟨g, 4, none⟩ = some (.string XX)) (go_keep) (first | (go_at_call 114; refine (hE2 _).mono ?_; rintro e wX ⟨rfl, hbX⟩; have hBX : Below wc.heap.size wc wX := (by first | exact hbX | exact (below_drewN (Below.refl _ wc) _).trans (hbX.mono (Nat.le_refl _))); obtain ⟨q0, q3, q4, q5, q6⟩ := hclc wX hBX; have B3 := HK3.out.later hBX; have B1 := HK1.out.later hBX; have y0 := B3.cell 0 rfl; have y1 := B3.cell 1 rfl; have y2 := B3.cell 2 rfl; have y3 := B3.cell 3 rfl; have y4 := B3.cell 4 rfl; have z0 := B1.cell 0 rfl; have z1 := B1.cell 1 rfl; have z2 := B1.cell 2 rfl; have z3 := B1.cell 3 rfl; have z4 := B1.cell 4 rfl; have zf0 := B1.frozen 0; have zf1 := B1.frozen 1; have zf2 := B1.frozen 2; have zf3 := B1.frozen 3; have zf4 := B1.frozen 4) | (go_at_call 65; refine (held9_any _ _).mono ?_; rintro e w' ⟨rfl, hw⟩; rw [hw]))
    go_wp2
    have B1' := B1.tn ((Tn.refl g3 wX).set 3 (.int .i64 (heldI (V - 4 * LB)))) (by omega)
    refine bodyPost_ret (results_cell_row rfl _ _ (g + 1) 30 #[.int .i64 2, .bool ng, .string (str S1), .int .i64 (heldI (V - 4 * LB)), .string (str S2)] (0, 0) _ rfl (Bk.all5 (B1'.later (below_drewN (Below.refl _ _) 0)) _ _ _ _ _) Tryz.underlying30 rfl (by kernel_rfl)) rfl ?_
    refine ⟨rfl, ?_⟩
    rw [HG.out]
    exact Tn.below (Tn.below (HK.trans (hBX.mono (by omega))) ((Tn.refl g3 wX).set 3 _) (by omega) (by rw [HG.out]; exact Nat.le_refl _)) (Tn.all5 ..) (by omega) (by rw [HG.out]; exact Nat.le_refl _)
  case inl =>
    subst hk
    have y0 := (HK3.out).cell 0 rfl
    have y1 := (HK3.out).cell 1 rfl
    have y2 := (HK3.out).cell 2 rfl
    have y3 := (HK3.out).cell 3 rfl
    have y4 := (HK3.out).cell 4 rfl
    have z0 := (HK1.out).cell 0 rfl
    have z1 := (HK1.out).cell 1 rfl
    have z2 := (HK1.out).cell 2 rfl
    have z3 := (HK1.out).cell 3 rfl
    have z4 := (HK1.out).cell 4 rfl
    have zf0 := (HK1.out).frozen 0
    have zf1 := (HK1.out).frozen 1
    have zf2 := (HK1.out).frozen 2
    have zf3 := (HK1.out).frozen 3
    have zf4 := (HK1.out).frozen 4
    go_wp2
    refine bodyPost_ret (results_cell_row rfl _ _ (g + 1) 30 #[.int .i64 0, .bool ng, .string (str S1), .int .i64 0, .string (str S2)] (0, 0) _ rfl (Bk.all5 HK1.out _ _ _ _ _) Tryz.underlying30 rfl (by kernel_rfl)) rfl ?_
    refine ⟨rfl, ?_⟩
    rw [HG.out]
    exact Tn.below HK (Tn.all5 ..) (by omega) (by rw [HG.out]; exact Nat.le_refl _)
  case inr.inr.inr =>
    subst hk
    have y0 := (HK3.out).cell 0 rfl
    have y1 := (HK3.out).cell 1 rfl
    have y2 := (HK3.out).cell 2 rfl
    have y3 := (HK3.out).cell 3 rfl
    have y4 := (HK3.out).cell 4 rfl
    have z0 := (HK1.out).cell 0 rfl
    have z1 := (HK1.out).cell 1 rfl
    have z2 := (HK1.out).cell 2 rfl
    have z3 := (HK1.out).cell 3 rfl
    have z4 := (HK1.out).cell 4 rfl
    have zf0 := (HK1.out).frozen 0
    have zf1 := (HK1.out).frozen 1
    have zf2 := (HK1.out).frozen 2
    have zf3 := (HK1.out).frozen 3
    have zf4 := (HK1.out).frozen 4
    go_wp2
    refine bodyPost_ret (results_cell_row rfl _ _ (g + 1) 30 #[.int .i64 3, .bool ng, .string (str S1), .int .i64 0, .string (str S2)] (0, 0) _ rfl (Bk.all5 HK1.out _ _ _ _ _) Tryz.underlying30 rfl (by kernel_rfl)) rfl ?_
    refine ⟨rfl, ?_⟩
    rw [HG.out]
    exact Tn.below HK (Tn.all5 ..) (by omega) (by rw [HG.out]; exact Nat.le_refl _)
end Go.Proofs.YtfgpjplfplbcdaaGreatDoor

/- Layer 9: lex.Check. -/
namespace Go.Proofs.YtfgpjplfplbcdaaGreatDoor
open Go.ChangeShapes Go.WideShapes Go.ChangeAt Go.RowKit
open Lx
set_option linter.unusedVariables false
namespace Lx
theorem trimmed_empty (cs l : B) : (trimL cs (trimR cs l)).isEmpty = l.all (fun b => cs.contains b) := by
  have h : trimL cs (trimR cs l) = [] ↔ ∀ b ∈ l, cs.contains b = true := by
    unfold trimL trimR
    rw [trim_all]
    constructor
    · intro h
      have hr : l.reverse.dropWhile (fun b => cs.contains b) = [] := by
        cases hq : l.reverse.dropWhile (fun b => cs.contains b) with
        | nil => rfl
        | cons c r =>
          exfalso
          have h1 := h c (by rw [hq]; simp)
          have h2 := List.head_dropWhile_not (fun b => cs.contains b) (l := l.reverse) (by rw [hq]; simp)
          simp only [hq, List.head_cons] at h2
          rw [h1] at h2
          cases h2
      intro b hb
      exact (trim_all cs l.reverse).mp hr b (by simpa using hb)
    · intro h b hb
      apply h b
      have := List.mem_reverse.mp hb
      have := (List.dropWhile_sublist _).mem this
      simpa using this
  cases hd : l.all (fun b => cs.contains b)
  · rw [List.isEmpty_eq_false_iff]
    intro hc
    rw [List.all_eq_true.mpr (h.mp hc)] at hd
    cases hd
  · rw [h.mpr (List.all_eq_true.mp hd)]; rfl
def digs9 : B := [48, 49, 50, 51, 52, 53, 54, 55, 56, 57]
def smal9 : B := [48, 49, 50, 51, 52, 53, 54, 55, 56, 57, 97, 98, 99, 100, 101, 102]
/-- digits as a Numeral keeps them -/
def keptB (cs l : B) : Bool := decide (l.length ≤ 65536) && (!fst [48] l && l.all (fun b => cs.contains b))
def withB (e : Int) : Bool := decide (-1073741824 ≤ e) && decide (e ≤ 1073741824)
/-- is it a right one? -/
def rightB (k : Int) (num : B) (e : Int) (den : B) : Bool :=
  if k = 1 then keptB digs9 num && (den.isEmpty && withB e) else if k = 2 then keptB smal9 num && (den.isEmpty && withB e) else if k = 3 then keptB digs9 num && (keptB digs9 den && decide (e = 0)) else false
theorem held_same (e : Int) : (e == heldI e) = withB e := by
  unfold heldI withB
  by_cases h1 : e < 1073741824
  · simp only [if_pos h1]
    by_cases h2 : e < -1073741824
    · rw [if_pos h2]
      have : ¬ (-1073741824 ≤ e) := by omega
      have h3 : e ≠ -1073741824 := by omega
      simp [this, h3]
    · rw [if_neg h2]
      have : -1073741824 ≤ e := by omega
      have : e ≤ 1073741824 := by omega
      simp [*]
  · simp only [if_neg h1]
    rw [if_neg (by omega)]
    by_cases h2 : e = 1073741824
    · subst h2; decide
    · have : ¬ (e ≤ 1073741824) := by omega
      simp [this, h2]
end Lx
theorem within9_any (e : Int) (w : World) :
    Calls Tryz.prog 46 #[.int .i64 e] w fun r w' => r = .returned (.bool (withB e)) ∧ w' = w := by
  rw [← held_same]
  have h := fun w => held9_any e w
  generalize heldI e = H at *
  go_enter Tryz.func46, Tryz.ntmps46
  go_wp2_with (go_at_call 65; refine (h _).mono ?_; rintro r w' ⟨rfl, rfl⟩)
  go_ret
  exact ⟨rfl, rfl⟩
set_option maxHeartbeats 1600000 in
set_option maxRecDepth 100000 in
theorem kept9_any (cs : B) (s : ByteArray) (hs : s.size ≤ 9223372036854775807) (h2 : 2 ≤ cs.length) (hz : cs.length < 1000) (hascii : cs.all (fun b => decide (b.toNat < 128)) = true) (w : World) :
    Calls Tryz.prog 45 #[.string s, .string ⟨cs.toArray⟩] w fun r w' => r = .returned (.bool (keptB cs s.data.toList)) ∧ Below w.heap.size w w' := by
  have hP := fun w => prefix_any s 48 w
  have hT := fun w => trim_set cs s hs w h2 hz hascii
  have he : (str (trimL cs (trimR cs s.data.toList))).toList.isEmpty = s.data.toList.all (fun b => cs.contains b) := by
    rw [Lib.toList_data, str_list, trimmed_empty]
  have hk : keptB cs s.data.toList = (decide ((s.size : Int) ≤ 65536) && (!fst [48] s.data.toList && s.data.toList.all (fun b => cs.contains b))) := by
    unfold keptB
    rw [← Lib.size_eq]
    congr 1
    apply decide_eq_decide.mpr
    omega
  rw [hk]
  clear hk
  generalize fst [48] s.data.toList = pf at *
  generalize s.data.toList.all (fun b => cs.contains b) = al at *
  generalize str (trimL cs (trimR cs s.data.toList)) = T at *
  generalize (ByteArray.mk cs.toArray) = z at *
  by_cases hl : (s.size : Int) ≤ 65536
  · have d : decide ((s.size : Int) ≤ 65536) = true := by simp; omega
    rw [d]
    clear hl
    cases pf
    · go_enter Tryz.func45, Tryz.ntmps45
      go_wp2_with fail
      refine (hP _).mono ?_
      rintro r w1 ⟨rfl, rfl⟩
      go_wp2_with fail
      refine (hT _).mono ?_
      rintro r w2 ⟨rfl, hb⟩
      clear hP hT
      go_wp2
      go_ret
      exact ⟨by simp, hb⟩
    · go_enter Tryz.func45, Tryz.ntmps45
      go_wp2_with fail
      refine (hP _).mono ?_
      rintro r w1 ⟨rfl, rfl⟩
      clear hP hT
      go_wp2
      go_ret
      exact ⟨rfl, Below.refl _ _⟩
  · have d : decide ((s.size : Int) ≤ 65536) = false := by simp; omega
    rw [d]
    go_enter Tryz.func45, Tryz.ntmps45
    go_wp2
    go_ret
    exact ⟨rfl, Below.refl _ _⟩
/-- a Numeral's cells -/
def Lx.numC (k : Int) (ng : Bool) (num : ByteArray) (e : Int) (den : ByteArray) : Array Value := #[.int .i64 k, .bool ng, .string num, .int .i64 e, .string den]
set_option maxHeartbeats 3200000 in
set_option maxRecDepth 100000 in
theorem check9_any (k : Int) (ng : Bool) (num : ByteArray) (e : Int) (den : ByteArray) (hn : num.size ≤ 9223372036854775807) (hd : den.size ≤ 9223372036854775807) (w : World) :
    Calls Tryz.prog 34 #[.agg (numC k ng num e den)] w fun r w' => r = .returned (.int .i64 (if rightB k num.data.toList e den.data.toList = true then 0 else 90)) ∧ Below w.heap.size w w' := by
  have hb0 : Below w.heap.size w (w.alloc (.cells (numC k ng num e den) 30)) := (Below.refl _ w).alloc (Nat.le_refl _) _
  have HB : Hid (Bk (w.alloc (.cells (numC k ng num e den) 30)) w.heap.size 30 (numC k ng num e den)) := Bk.new _ _ _
  have hK1 := fun w => kept9_any digs9 num hn (by decide) (by decide) (by decide) w
  have hK2 := fun w => kept9_any smal9 num hn (by decide) (by decide) (by decide) w
  have hK3 := fun w => kept9_any digs9 den hd (by decide) (by decide) (by decide) w
  have e1 : digs9.toArray = #[48, 49, 50, 51, 52, 53, 54, 55, 56, 57] := rfl
  have e2 : smal9.toArray = #[48, 49, 50, 51, 52, 53, 54, 55, 56, 57, 97, 98, 99, 100, 101, 102] := rfl
  rw [e1] at hK1 hK3
  rw [e2] at hK2
  have hW := fun w => within9_any e w
  have hem : den.toList.isEmpty = den.data.toList.isEmpty := by rw [Lib.toList_data]
  unfold rightB
  generalize keptB digs9 num.data.toList = a1 at *
  generalize keptB smal9 num.data.toList = a2 at *
  generalize keptB digs9 den.data.toList = a3 at *
  generalize withB e = a4 at *
  generalize den.data.toList.isEmpty = a5 at *
  unfold numC at hb0 HB ⊢
  clear e1 e2
  by_cases k1 : k = 1
  · subst k1
    rw [if_pos rfl]
    clear hK2 hK3
    cases a1
    · go_enter Tryz.func34, Tryz.ntmps34
      go_wp2_with fail
      refine (hK1 _).mono ?_
      rintro r w1 ⟨rfl, hb1⟩
      have hB := hb0.trans (hb1.mono hb0.size)
      have B1 := HB.out.later hb1
      have z0 := B1.cell 0 rfl
      have z2 := B1.cell 2 rfl
      have z3 := B1.cell 3 rfl
      have z4 := B1.cell 4 rfl
      clear hK1 hb1 B1
      clear hW
      go_wp2
      go_ret
      exact ⟨rfl, hB⟩
    · cases a5
      · go_enter Tryz.func34, Tryz.ntmps34
        go_wp2_with fail
        refine (hK1 _).mono ?_
        rintro r w1 ⟨rfl, hb1⟩
        have hB := hb0.trans (hb1.mono hb0.size)
        have B1 := HB.out.later hb1
        have z0 := B1.cell 0 rfl
        have z2 := B1.cell 2 rfl
        have z3 := B1.cell 3 rfl
        have z4 := B1.cell 4 rfl
        clear hK1 hb1 B1
        clear hW
        go_wp2
        go_ret
        exact ⟨rfl, hB⟩
      · cases a4
        · go_enter Tryz.func34, Tryz.ntmps34
          go_wp2_with fail
          refine (hK1 _).mono ?_
          rintro r w1 ⟨rfl, hb1⟩
          have hB := hb0.trans (hb1.mono hb0.size)
          have B1 := HB.out.later hb1
          have z0 := B1.cell 0 rfl
          have z2 := B1.cell 2 rfl
          have z3 := B1.cell 3 rfl
          have z4 := B1.cell 4 rfl
          clear hK1 hb1 B1
          go_wp2_with fail
          refine (hW _).mono ?_
          rintro r w2 ⟨rfl, rfl⟩
          clear hW
          go_wp2
          go_ret
          exact ⟨rfl, hB⟩
        · go_enter Tryz.func34, Tryz.ntmps34
          go_wp2_with fail
          refine (hK1 _).mono ?_
          rintro r w1 ⟨rfl, hb1⟩
          have hB := hb0.trans (hb1.mono hb0.size)
          have B1 := HB.out.later hb1
          have z0 := B1.cell 0 rfl
          have z2 := B1.cell 2 rfl
          have z3 := B1.cell 3 rfl
          have z4 := B1.cell 4 rfl
          clear hK1 hb1 B1
          go_wp2_with fail
          refine (hW _).mono ?_
          rintro r w2 ⟨rfl, rfl⟩
          clear hW
          go_wp2
          go_ret
          exact ⟨rfl, hB⟩
  · have t1 : (k == 1) = false := by simpa using k1
    rw [if_neg k1]
    by_cases k2 : k = 2
    · subst k2
      rw [if_pos rfl]
      clear hK1 hK3 t1 k1
      cases a2
      · go_enter Tryz.func34, Tryz.ntmps34
        go_wp2_with fail
        refine (hK2 _).mono ?_
        rintro r w1 ⟨rfl, hb1⟩
        have hB := hb0.trans (hb1.mono hb0.size)
        have B1 := HB.out.later hb1
        have z0 := B1.cell 0 rfl
        have z2 := B1.cell 2 rfl
        have z3 := B1.cell 3 rfl
        have z4 := B1.cell 4 rfl
        clear hK2 hb1 B1
        clear hW
        go_wp2
        go_ret
        exact ⟨rfl, hB⟩
      · cases a5
        · go_enter Tryz.func34, Tryz.ntmps34
          go_wp2_with fail
          refine (hK2 _).mono ?_
          rintro r w1 ⟨rfl, hb1⟩
          have hB := hb0.trans (hb1.mono hb0.size)
          have B1 := HB.out.later hb1
          have z0 := B1.cell 0 rfl
          have z2 := B1.cell 2 rfl
          have z3 := B1.cell 3 rfl
          have z4 := B1.cell 4 rfl
          clear hK2 hb1 B1
          clear hW
          go_wp2
          go_ret
          exact ⟨rfl, hB⟩
        · cases a4
          · go_enter Tryz.func34, Tryz.ntmps34
            go_wp2_with fail
            refine (hK2 _).mono ?_
            rintro r w1 ⟨rfl, hb1⟩
            have hB := hb0.trans (hb1.mono hb0.size)
            have B1 := HB.out.later hb1
            have z0 := B1.cell 0 rfl
            have z2 := B1.cell 2 rfl
            have z3 := B1.cell 3 rfl
            have z4 := B1.cell 4 rfl
            clear hK2 hb1 B1
            go_wp2_with fail
            refine (hW _).mono ?_
            rintro r w2 ⟨rfl, rfl⟩
            clear hW
            go_wp2
            go_ret
            exact ⟨rfl, hB⟩
          · go_enter Tryz.func34, Tryz.ntmps34
            go_wp2_with fail
            refine (hK2 _).mono ?_
            rintro r w1 ⟨rfl, hb1⟩
            have hB := hb0.trans (hb1.mono hb0.size)
            have B1 := HB.out.later hb1
            have z0 := B1.cell 0 rfl
            have z2 := B1.cell 2 rfl
            have z3 := B1.cell 3 rfl
            have z4 := B1.cell 4 rfl
            clear hK2 hb1 B1
            go_wp2_with fail
            refine (hW _).mono ?_
            rintro r w2 ⟨rfl, rfl⟩
            clear hW
            go_wp2
            go_ret
            exact ⟨rfl, hB⟩
    · have t2 : (k == 2) = false := by simpa using k2
      rw [if_neg k2]
      by_cases k3 : k = 3
      · subst k3
        rw [if_pos rfl]
        clear hK2 hW t1 t2 k1 k2 hem
        cases a1
        · go_enter Tryz.func34, Tryz.ntmps34
          go_wp2_with fail
          refine (hK1 _).mono ?_
          rintro r w1 ⟨rfl, hb1⟩
          have hB := hb0.trans (hb1.mono hb0.size)
          have B1 := HB.out.later hb1
          have z0 := B1.cell 0 rfl
          have z2 := B1.cell 2 rfl
          have z3 := B1.cell 3 rfl
          have z4 := B1.cell 4 rfl
          clear hK1 hb1 B1
          clear hK3
          go_wp2
          go_ret
          exact ⟨rfl, hB⟩
        · cases a3
          · go_enter Tryz.func34, Tryz.ntmps34
            go_wp2_with fail
            refine (hK1 _).mono ?_
            rintro r w1 ⟨rfl, hb1⟩
            have hB := hb0.trans (hb1.mono hb0.size)
            have B1 := HB.out.later hb1
            have z0 := B1.cell 0 rfl
            have z2 := B1.cell 2 rfl
            have z3 := B1.cell 3 rfl
            have z4 := B1.cell 4 rfl
            have hlt1 := B1.lt
            clear hK1 hb1 B1
            go_wp2_with fail
            refine (hK3 _).mono ?_
            rintro r w2 ⟨rfl, hb⟩
            have hB := hB.trans (hb.mono hB.size)
            have z3 := (hb.cell (p := ⟨w.heap.size, 3, none⟩) hlt1).trans z3
            clear hK3 hb
            go_wp2
            go_ret
            exact ⟨rfl, hB⟩
          · by_cases he : e = 0
            · have q : (e == 0) = true := by simpa using he
              have q2 : decide (e = 0) = true := by simpa using he
              rw [q2]
              clear he q2
              go_enter Tryz.func34, Tryz.ntmps34
              go_wp2_with fail
              refine (hK1 _).mono ?_
              rintro r w1 ⟨rfl, hb1⟩
              have hB := hb0.trans (hb1.mono hb0.size)
              have B1 := HB.out.later hb1
              have z0 := B1.cell 0 rfl
              have z2 := B1.cell 2 rfl
              have z3 := B1.cell 3 rfl
              have z4 := B1.cell 4 rfl
              have hlt1 := B1.lt
              clear hK1 hb1 B1
              go_wp2_with fail
              refine (hK3 _).mono ?_
              rintro r w2 ⟨rfl, hb⟩
              have hB := hB.trans (hb.mono hB.size)
              have z3 := (hb.cell (p := ⟨w.heap.size, 3, none⟩) hlt1).trans z3
              clear hK3 hb
              go_wp2
              go_ret
              exact ⟨rfl, hB⟩
            · have q : (e == 0) = false := by simpa using he
              have q2 : decide (e = 0) = false := by simpa using he
              rw [q2]
              clear he q2
              go_enter Tryz.func34, Tryz.ntmps34
              go_wp2_with fail
              refine (hK1 _).mono ?_
              rintro r w1 ⟨rfl, hb1⟩
              have hB := hb0.trans (hb1.mono hb0.size)
              have B1 := HB.out.later hb1
              have z0 := B1.cell 0 rfl
              have z2 := B1.cell 2 rfl
              have z3 := B1.cell 3 rfl
              have z4 := B1.cell 4 rfl
              have hlt1 := B1.lt
              clear hK1 hb1 B1
              go_wp2_with fail
              refine (hK3 _).mono ?_
              rintro r w2 ⟨rfl, hb⟩
              have hB := hB.trans (hb.mono hB.size)
              have z3 := (hb.cell (p := ⟨w.heap.size, 3, none⟩) hlt1).trans z3
              clear hK3 hb
              go_wp2
              go_ret
              exact ⟨rfl, hB⟩
      · have t3 : (k == 3) = false := by simpa using k3
        rw [if_neg k3]
        clear hK1 hK2 hK3 hW k1 k2 k3
        go_enter Tryz.func34, Tryz.ntmps34
        go_wp2
        go_ret
        exact ⟨rfl, hb0⟩
end Go.Proofs.YtfgpjplfplbcdaaGreatDoor

/- Layer 9, for longer texts: the document's plain. -/
namespace Go.Proofs.YtfgpjplfplbcdaaGreatDoor
open Go.ChangeShapes Go.WideShapes Go.ChangeAt Go.RowKit
open Lx
set_option linter.unusedVariables false
namespace Lx
/-- the digits that are asked for -/
def setX (hex : Bool) : B := if hex = true then smal9 else digs9
/-- is it one of them, as the document asks? -/
def lowX (hex : Bool) (c : UInt8) : Bool := isD c || (hex && (decide ((97 : Int) ≤ (c.toNat : Int)) && decide ((c.toNat : Int) ≤ 102)))
set_option maxRecDepth 100000 in
theorem lowX_fin : ∀ (b : Fin 256), (setX false).contains (UInt8.ofNat b.val) = lowX false (UInt8.ofNat b.val) ∧ (setX true).contains (UInt8.ofNat b.val) = lowX true (UInt8.ofNat b.val) := by decide
theorem lowX_eq (hex : Bool) (c : UInt8) : (setX hex).contains c = lowX hex c := by
  have := lowX_fin ⟨c.toNat, c.toNat_lt⟩
  simp only [UInt8.ofNat_toNat] at this
  cases hex
  · exact this.1
  · exact this.2
theorem kept_first {cs l : B} (h : fst [48] l = true) : keptB cs l = false := by
  unfold keptB
  rw [h]
  simp
theorem kept_yes {hex : Bool} {l : B} (hl : l.length ≤ 65536) (h : fst [48] l = false) (ha : ∀ (j : Nat) b, j < l.length → l[j]? = some b → lowX hex b = true) : keptB (setX hex) l = true := by
  unfold keptB
  rw [decide_eq_true hl, h, Bool.not_false, Bool.true_and, Bool.true_and, List.all_eq_true]
  intro b hb
  obtain ⟨j, hj, e⟩ := List.getElem_of_mem hb
  rw [lowX_eq]
  exact ha j b hj (by rw [List.getElem?_eq_getElem hj, e])
theorem kept_no {hex : Bool} {l : B} {j : Nat} {b : UInt8} (hb : l[j]? = some b) (h : lowX hex b = false) : keptB (setX hex) l = false := by
  cases hk : keptB (setX hex) l with
  | false => rfl
  | true =>
    unfold keptB at hk
    simp only [Bool.and_eq_true, List.all_eq_true] at hk
    have := hk.2.2 b (List.mem_of_getElem? hb)
    rw [lowX_eq, h] at this
    cases this
theorem fst_get {s : ByteArray} (hp : 0 < s.size) : fst [48] s.data.toList = (s[0] == 48) := by
  have h := Lib.data_getElem? s 0 hp
  cases hl : s.data.toList with
  | nil => rw [hl] at h; cases h
  | cons c r =>
    rw [hl] at h
    have := Option.some.inj h
    rw [fst_cons, ← this]
    simp only [List.contains_cons, List.contains_nil, Bool.or_false]
theorem beq_u8x (x : UInt8) (k : UInt8) : ((x.toNat : Int) == (k.toNat : Int)) = (x == k) := by
  by_cases h : x = k
  · subst h; simp
  · have h2 : (x == k) = false := by simpa using h
    rw [h2]
    exact beq_eq_false_iff_ne.2 fun e => h (UInt8.toNat_inj.1 (by exact_mod_cast e))
end Lx
set_option maxRecDepth 100000 in
theorem digit11_any (x : UInt8) (w : World) :
    Calls Tryz.prog 93 #[.int .u8 x.toNat] w fun e w' => e = .returned (.bool (isD x)) ∧ w' = w := by
  have e : isD x = (decide ((48 : Int) ≤ (x.toNat : Int)) && decide ((x.toNat : Int) ≤ 57)) := by
    unfold isD
    congr 1 <;> (rw [decide_eq_decide]; omega)
  rw [e]
  clear e
  by_cases h1 : (48 : Int) ≤ (x.toNat : Int) <;> by_cases h2 : (x.toNat : Int) ≤ 57
  all_goals
    go_enter Tryz.func93, Tryz.ntmps93
    go_wp2
    go_ret
    refine ⟨?_, rfl⟩
    show Ending.returned (Value.bool _) = Ending.returned (Value.bool _)
    congr 2
    simp
    try omega
set_option maxHeartbeats 1600000 in
set_option maxRecDepth 100000 in
theorem rplain_any (s : ByteArray) (hex : Bool) (hs : s.size ≤ 65536) (w : World) :
    Calls Tryz.prog 71 #[.string s, .bool hex] w fun e w' => e = .returned (.bool (keptB (setX hex) s.data.toList)) ∧ w' = w := by
  have sz : s.data.toList.length = s.size := (Lib.size_eq s).symm
  have d0 : decide ((s.size : Int) > 65536) = false := by simp; omega
  have d0' : decide ((65536 : Int) < (s.size : Int)) = false := by simp; omega
  have hem : s.toList.isEmpty = s.data.toList.isEmpty := by rw [Lib.toList_data]
  by_cases hp : 0 < s.size
  · have hne : s.data.toList.isEmpty = false := by
      cases hl : s.data.toList with
      | nil => rw [hl] at sz; simp at sz; omega
      | cons c r => rfl
    rw [hne] at hem
    have hf := fst_get hp
    have hq : (((s[0]'hp).toNat : Int) == 48) = ((s[0]'hp) == 48) := beq_u8x (s[0]'hp) 48
    cases hz : ((s[0]'hp) == 48)
    · rw [hz] at hf hq
      have HF : Hid (fst [48] s.data.toList = false) := hf
      clear hf hz hne
      go_enter Tryz.func71, Tryz.ntmps71
      go_wp2
      go_loop [5] (fun v => ∃ i : Nat, v = .int .i64 (i : Int) ∧ i ≤ s.size ∧ Hid (∀ (j : Nat) b, j < i → s.data.toList[j]? = some b → lowX hex b = true)) (fun v => s.size - (match v with | .int _ x => x.toNat | _ => 0))
      case atStart => exact ⟨0, rfl, by omega, fun j b hj => by omega⟩
      case round =>
        obtain ⟨i, rfl, hi, hc⟩ := hrel
        by_cases hlt : i < s.size
        · have hpi : (i : Int) < (s.size : Int) := by omega
          have HX : Hid (s.data.toList[i]? = some (s[i]'hlt)) := Lib.data_getElem? s i hlt
          have c1 := digit11_any (s[i]'hlt)
          have HN : Hid (lowX hex (s[i]'hlt) = true → ∀ (j : Nat) b, j < i + 1 → s.data.toList[j]? = some b → lowX hex b = true) := by
            intro hb j b hj hb'
            by_cases q : j = i
            · subst q; rw [HX.out] at hb'; rw [← Option.some.inj hb']; exact hb
            · exact hc.out j b (by omega) hb'
          have HM : Hid (lowX hex (s[i]'hlt) = false → keptB (setX hex) s.data.toList = false) := fun h => kept_no HX.out h
          have hlo : lowX hex (s[i]'hlt) = (isD (s[i]'hlt) || (hex && (decide ((97 : Int) ≤ ((s[i]'hlt).toNat : Int)) && decide (((s[i]'hlt).toNat : Int) ≤ 102)))) := rfl
          cases hd : isD (s[i]'hlt)
          · rw [hd, Bool.false_or] at hlo
            rw [hd] at c1
            cases hex
            · have HK : Hid (keptB (setX false) s.data.toList = false) := HM.out (by rw [hlo]; rfl)
              clear hlo hd HN HM hc HX
              go_wp2_with (go_at_call 93; refine (c1 _).mono ?_; rintro e w' ⟨rfl, rfl⟩)
              go_ret
              exact ⟨by rw [HK.out]; rfl, rfl⟩
            · by_cases k1 : (97 : Int) ≤ ((s[i]'hlt).toNat : Int)
              · by_cases k2 : ((s[i]'hlt).toNat : Int) ≤ 102
                · have HK := HN.out (by rw [hlo]; simp [k1, k2])
                  have HK' : Hid (∀ (j : Nat) b, j < i + 1 → s.data.toList[j]? = some b → lowX true b = true) := HK
                  clear hlo hd HN HM hc HX HK
                  go_wp2_with (go_at_call 93; refine (c1 _).mono ?_; rintro e w' ⟨rfl, rfl⟩)
                  go_round
                  · refine ⟨i + 1, ?_, by omega, HK'.out⟩
                    simp
                  · simp; omega
                · have HK : Hid (keptB (setX true) s.data.toList = false) := HM.out (by rw [hlo]; simp [k2])
                  have t1 : decide (((s[i]'hlt).toNat : Int) ≥ 97) = true := by simp; omega
                  have t1' : decide ((97 : Int) ≤ ((s[i]'hlt).toNat : Int)) = true := by simp; omega
                  have t2 : decide (((s[i]'hlt).toNat : Int) ≤ 102) = false := by simp; omega
                  clear k1 k2
                  clear hlo hd HN HM hc HX
                  go_wp2_with (go_at_call 93; refine (c1 _).mono ?_; rintro e w' ⟨rfl, rfl⟩)
                  go_ret
                  exact ⟨by rw [HK.out]; rfl, rfl⟩
              · have HK : Hid (keptB (setX true) s.data.toList = false) := HM.out (by rw [hlo]; simp [k1])
                have k1' : ((s[i]'hlt).toNat : Int) < 97 := by omega
                clear hlo hd HN HM hc HX
                go_wp2_with (go_at_call 93; refine (c1 _).mono ?_; rintro e w' ⟨rfl, rfl⟩)
                go_ret
                exact ⟨by rw [HK.out]; rfl, rfl⟩
          · rw [hd] at c1
            have HK := HN.out (by rw [hlo, hd]; rfl)
            have HK' : Hid (∀ (j : Nat) b, j < i + 1 → s.data.toList[j]? = some b → lowX hex b = true) := HK
            clear hlo hd HN HM hc HX HK
            go_wp2_with (go_at_call 93; refine (c1 _).mono ?_; rintro e w' ⟨rfl, rfl⟩)
            go_round
            · refine ⟨i + 1, ?_, by omega, HK'.out⟩
              simp
            · simp; omega
        · have hi' : i = s.size := by omega
          have HK : Hid (keptB (setX hex) s.data.toList = true) := kept_yes (by omega) HF.out (fun j b hj hb => hc.out j b (by omega) hb)
          have hpi : ¬ (i : Int) < (s.size : Int) := by omega
          clear hc HF
          subst hi'
          go_wp2
          go_ret
          exact ⟨by rw [HK.out]; rfl, rfl⟩
    · rw [hz] at hf hq
      have HK : Hid (keptB (setX hex) s.data.toList = false) := kept_first hf
      clear hf hz hne
      go_enter Tryz.func71, Tryz.ntmps71
      go_wp2
      go_ret
      exact ⟨by rw [HK.out]; rfl, rfl⟩
  · have hnil : s.data.toList = [] := List.length_eq_zero_iff.mp (by omega)
    have HK : Hid (keptB (setX hex) s.data.toList = true) := by show _ = _; rw [hnil]; rfl
    have s0 : s.size = 0 := by omega
    rw [hnil] at hem
    clear hnil
    have hem' : s.toList.isEmpty = true := hem
    clear hem
    go_enter Tryz.func71, Tryz.ntmps71
    go_wp2
    go_loop [5] (fun v => v = .int .i64 0) (fun v => 0)
    case atStart => rfl
    case round =>
      subst hrel
      have hpi : ¬ (0 : Int) < (s.size : Int) := by omega
      go_wp2
      go_ret
      exact ⟨by rw [HK.out]; rfl, rfl⟩
set_option maxHeartbeats 1600000 in
set_option maxRecDepth 100000 in
theorem rplain18_any (s : ByteArray) (hex : Bool) (hs : s.size ≤ 1000000000) (w : World) :
    Calls Tryz.prog 71 #[.string s, .bool hex] w fun e w' => e = .returned (.bool (keptB (setX hex) s.data.toList)) ∧ w' = w := by
  by_cases h : s.size ≤ 65536
  · exact rplain_any s hex h w
  · have HK : Hid (keptB (setX hex) s.data.toList = false) := by
      show _ = _
      unfold keptB
      have : decide (s.data.toList.length ≤ 65536) = false := by rw [← Lib.size_eq]; simpa using h
      rw [this]
      rfl
    have d0 : decide ((s.size : Int) > 65536) = true := by simp; omega
    have d0' : (65536 : Int) < (s.size : Int) := by omega
    clear h
    go_enter Tryz.func71, Tryz.ntmps71
    go_wp2
    go_ret
    exact ⟨by rw [HK.out]; rfl, rfl⟩
end Go.Proofs.YtfgpjplfplbcdaaGreatDoor

/- Layer 9, for longer texts: the document's Check. -/
namespace Go.Proofs.YtfgpjplfplbcdaaGreatDoor
open Go.ChangeShapes Go.WideShapes Go.ChangeAt Go.RowKit
open Lx
set_option linter.unusedVariables false
set_option maxHeartbeats 6400000 in
set_option maxRecDepth 100000 in
theorem r9check_any (k : Int) (ng : Bool) (num : ByteArray) (e : Int) (den : ByteArray) (hn : num.size ≤ 1000000000) (hd : den.size ≤ 1000000000) (w : World) :
    Calls Tryz.prog 55 #[.agg (numC k ng num e den)] w fun r w' => r = .returned (.int .i64 (if rightB k num.data.toList e den.data.toList = true then 0 else 90)) ∧ Below w.heap.size w w' := by
  have hb0 : Below w.heap.size w (w.alloc (.cells (numC k ng num e den) 30)) := (Below.refl _ w).alloc (Nat.le_refl _) _
  have hK1 : ∀ w, Calls Tryz.prog 71 #[.string num, .bool false] w fun r w' => r = .returned (.bool (keptB digs9 num.data.toList)) ∧ w' = w := fun w => rplain18_any num false hn w
  have hK2 : ∀ w, Calls Tryz.prog 71 #[.string num, .bool true] w fun r w' => r = .returned (.bool (keptB smal9 num.data.toList)) ∧ w' = w := fun w => rplain18_any num true hn w
  have hK3 : ∀ w, Calls Tryz.prog 71 #[.string den, .bool false] w fun r w' => r = .returned (.bool (keptB digs9 den.data.toList)) ∧ w' = w := fun w => rplain18_any den false hd w
  have hem : den.toList.isEmpty = den.data.toList.isEmpty := by rw [Lib.toList_data]
  have h35 : den.data.toList.isEmpty = true → keptB digs9 den.data.toList = true := fun h => by rw [List.isEmpty_iff.mp h]; rfl
  unfold rightB
  generalize keptB digs9 num.data.toList = a1 at *
  generalize keptB smal9 num.data.toList = a2 at *
  generalize keptB digs9 den.data.toList = a3 at *
  generalize den.data.toList.isEmpty = a5 at *
  unfold numC at hb0 ⊢
  clear hn hd
  by_cases k1 : k = 1
  · subst k1
    rw [if_pos rfl]
    clear hK2
    cases a1
    · clear h35
      go_enter Tryz.func55, Tryz.ntmps55
      go_wp2_with fail
      refine (hK1 _).mono ?_
      rintro r w1 ⟨rfl, rfl⟩
      clear hK1
      go_wp2
      go_ret
      exact ⟨rfl, hb0⟩
    · cases a3
      · have h5 : a5 = false := by cases a5 with | false => rfl | true => exact absurd (h35 rfl) (by decide)
        subst h5
        clear h35
        go_enter Tryz.func55, Tryz.ntmps55
        go_wp2_with fail
        refine (hK1 _).mono ?_
        rintro r w1 ⟨rfl, rfl⟩
        clear hK1
        go_wp2_with fail
        refine (hK3 _).mono ?_
        rintro r w1 ⟨rfl, rfl⟩
        clear hK3
        go_wp2
        go_ret
        exact ⟨rfl, hb0⟩
      · clear h35
        cases a5
        · skip
          go_enter Tryz.func55, Tryz.ntmps55
          go_wp2_with fail
          refine (hK1 _).mono ?_
          rintro r w1 ⟨rfl, rfl⟩
          clear hK1
          go_wp2_with fail
          refine (hK3 _).mono ?_
          rintro r w1 ⟨rfl, rfl⟩
          clear hK3
          go_wp2
          go_ret
          exact ⟨rfl, hb0⟩
        · by_cases g1 : -1073741824 ≤ e
          · have t1 : decide (e ≥ -1073741824) = true := by simp; omega
            have t1' : decide (-1073741824 ≤ e) = true := by simp; omega
            by_cases g2 : e ≤ 1073741824
            · have t2 : decide (e ≤ 1073741824) = true := by simp; omega
              have hw : withB e = true := by unfold withB; simp; omega
              rw [hw]
              clear hw
              go_enter Tryz.func55, Tryz.ntmps55
              go_wp2_with fail
              refine (hK1 _).mono ?_
              rintro r w1 ⟨rfl, rfl⟩
              clear hK1
              go_wp2_with fail
              refine (hK3 _).mono ?_
              rintro r w1 ⟨rfl, rfl⟩
              clear hK3
              go_wp2
              go_ret
              exact ⟨rfl, hb0⟩
            · have t2 : decide (e ≤ 1073741824) = false := by simp; omega
              have hw : withB e = false := by unfold withB; simp; omega
              rw [hw]
              clear hw
              go_enter Tryz.func55, Tryz.ntmps55
              go_wp2_with fail
              refine (hK1 _).mono ?_
              rintro r w1 ⟨rfl, rfl⟩
              clear hK1
              go_wp2_with fail
              refine (hK3 _).mono ?_
              rintro r w1 ⟨rfl, rfl⟩
              clear hK3
              go_wp2
              go_ret
              exact ⟨rfl, hb0⟩
          · have t1 : decide (e ≥ -1073741824) = false := by simp; omega
            have t1' : decide (-1073741824 ≤ e) = false := by simp; omega
            have hw : withB e = false := by unfold withB; simp; omega
            rw [hw]
            clear hw
            go_enter Tryz.func55, Tryz.ntmps55
            go_wp2_with fail
            refine (hK1 _).mono ?_
            rintro r w1 ⟨rfl, rfl⟩
            clear hK1
            go_wp2_with fail
            refine (hK3 _).mono ?_
            rintro r w1 ⟨rfl, rfl⟩
            clear hK3
            go_wp2
            go_ret
            exact ⟨rfl, hb0⟩
  · have t1 : (k == 1) = false := by simpa using k1
    rw [if_neg k1]
    by_cases k2 : k = 2
    · subst k2
      rw [if_pos rfl]
      clear hK1 t1 k1
      cases a2
      · clear h35
        go_enter Tryz.func55, Tryz.ntmps55
        go_wp2_with fail
        refine (hK2 _).mono ?_
        rintro r w1 ⟨rfl, rfl⟩
        clear hK2
        go_wp2
        go_ret
        exact ⟨rfl, hb0⟩
      · cases a3
        · have h5 : a5 = false := by cases a5 with | false => rfl | true => exact absurd (h35 rfl) (by decide)
          subst h5
          clear h35
          go_enter Tryz.func55, Tryz.ntmps55
          go_wp2_with fail
          refine (hK2 _).mono ?_
          rintro r w1 ⟨rfl, rfl⟩
          clear hK2
          go_wp2_with fail
          refine (hK3 _).mono ?_
          rintro r w1 ⟨rfl, rfl⟩
          clear hK3
          go_wp2
          go_ret
          exact ⟨rfl, hb0⟩
        · clear h35
          cases a5
          · skip
            go_enter Tryz.func55, Tryz.ntmps55
            go_wp2_with fail
            refine (hK2 _).mono ?_
            rintro r w1 ⟨rfl, rfl⟩
            clear hK2
            go_wp2_with fail
            refine (hK3 _).mono ?_
            rintro r w1 ⟨rfl, rfl⟩
            clear hK3
            go_wp2
            go_ret
            exact ⟨rfl, hb0⟩
          · by_cases g1 : -1073741824 ≤ e
            · have t1 : decide (e ≥ -1073741824) = true := by simp; omega
              have t1' : decide (-1073741824 ≤ e) = true := by simp; omega
              by_cases g2 : e ≤ 1073741824
              · have t2 : decide (e ≤ 1073741824) = true := by simp; omega
                have hw : withB e = true := by unfold withB; simp; omega
                rw [hw]
                clear hw
                go_enter Tryz.func55, Tryz.ntmps55
                go_wp2_with fail
                refine (hK2 _).mono ?_
                rintro r w1 ⟨rfl, rfl⟩
                clear hK2
                go_wp2_with fail
                refine (hK3 _).mono ?_
                rintro r w1 ⟨rfl, rfl⟩
                clear hK3
                go_wp2
                go_ret
                exact ⟨rfl, hb0⟩
              · have t2 : decide (e ≤ 1073741824) = false := by simp; omega
                have hw : withB e = false := by unfold withB; simp; omega
                rw [hw]
                clear hw
                go_enter Tryz.func55, Tryz.ntmps55
                go_wp2_with fail
                refine (hK2 _).mono ?_
                rintro r w1 ⟨rfl, rfl⟩
                clear hK2
                go_wp2_with fail
                refine (hK3 _).mono ?_
                rintro r w1 ⟨rfl, rfl⟩
                clear hK3
                go_wp2
                go_ret
                exact ⟨rfl, hb0⟩
            · have t1 : decide (e ≥ -1073741824) = false := by simp; omega
              have t1' : decide (-1073741824 ≤ e) = false := by simp; omega
              have hw : withB e = false := by unfold withB; simp; omega
              rw [hw]
              clear hw
              go_enter Tryz.func55, Tryz.ntmps55
              go_wp2_with fail
              refine (hK2 _).mono ?_
              rintro r w1 ⟨rfl, rfl⟩
              clear hK2
              go_wp2_with fail
              refine (hK3 _).mono ?_
              rintro r w1 ⟨rfl, rfl⟩
              clear hK3
              go_wp2
              go_ret
              exact ⟨rfl, hb0⟩
    · have t2 : (k == 2) = false := by simpa using k2
      rw [if_neg k2]
      clear hK2 h35
      by_cases k3 : k = 3
      · subst k3
        rw [if_pos rfl]
        clear k1 k2 t1 t2
        cases a1
        · skip
          go_enter Tryz.func55, Tryz.ntmps55
          go_wp2_with fail
          refine (hK1 _).mono ?_
          rintro r w1 ⟨rfl, rfl⟩
          clear hK1
          go_wp2
          go_ret
          exact ⟨rfl, hb0⟩
        · cases a3
          · skip
            go_enter Tryz.func55, Tryz.ntmps55
            go_wp2_with fail
            refine (hK1 _).mono ?_
            rintro r w1 ⟨rfl, rfl⟩
            clear hK1
            go_wp2_with fail
            refine (hK3 _).mono ?_
            rintro r w1 ⟨rfl, rfl⟩
            clear hK3
            go_wp2
            go_ret
            exact ⟨rfl, hb0⟩
          · by_cases g : e = 0
            · subst g
              go_enter Tryz.func55, Tryz.ntmps55
              go_wp2_with fail
              refine (hK1 _).mono ?_
              rintro r w1 ⟨rfl, rfl⟩
              clear hK1
              go_wp2_with fail
              refine (hK3 _).mono ?_
              rintro r w1 ⟨rfl, rfl⟩
              clear hK3
              go_wp2
              go_ret
              exact ⟨rfl, hb0⟩
            · have t3 : (e == 0) = false := by simpa using g
              have t4 : decide (e = 0) = false := by simpa using g
              rw [t4]
              clear t4 g
              go_enter Tryz.func55, Tryz.ntmps55
              go_wp2_with fail
              refine (hK1 _).mono ?_
              rintro r w1 ⟨rfl, rfl⟩
              clear hK1
              go_wp2_with fail
              refine (hK3 _).mono ?_
              rintro r w1 ⟨rfl, rfl⟩
              clear hK3
              go_wp2
              go_ret
              exact ⟨rfl, hb0⟩
      · have t3 : (k == 3) = false := by simpa using k3
        rw [if_neg k3]
        cases a1
        · skip
          clear k1 k2 k3
          go_enter Tryz.func55, Tryz.ntmps55
          go_wp2_with fail
          refine (hK1 _).mono ?_
          rintro r w1 ⟨rfl, rfl⟩
          clear hK1
          go_wp2
          go_ret
          exact ⟨rfl, hb0⟩
        · skip
          clear k1 k2 k3
          go_enter Tryz.func55, Tryz.ntmps55
          go_wp2_with fail
          refine (hK1 _).mono ?_
          rintro r w1 ⟨rfl, rfl⟩
          clear hK1
          go_wp2_with fail
          refine (hK3 _).mono ?_
          rintro r w1 ⟨rfl, rfl⟩
          clear hK3
          go_wp2
          go_ret
          exact ⟨rfl, hb0⟩
end Go.Proofs.YtfgpjplfplbcdaaGreatDoor

/- Layer 9: lex.Scan, lex.Parse. -/
namespace Go.Proofs.YtfgpjplfplbcdaaGreatDoor
open Go.ChangeShapes Go.WideShapes Go.ChangeAt Go.RowKit
open Lx
set_option linter.unusedVariables false
namespace Lx
/-- the numeral's pieces at a place of a text -/
def scanP (l : B) (k : Nat) : Pc := longestL ((l.drop k).take 65536)
/-- an error at its place -/
def Flt (w : World) (g : Nat) (p c : Int) : Prop := w.cell? ⟨g, 0, none⟩ = some (.int .i64 p) ∧ w.cell? ⟨g, 1, none⟩ = some (.iface 37 (.int .i64 c))
theorem Flt.later {w w' : World} {g : Nat} {p c : Int} (h : Flt w g p c) (hg : g < w.heap.size) (hb : Below w.heap.size w w') : Flt w' g p c :=
  ⟨(hb.cell hg).trans h.1, (hb.cell hg).trans h.2⟩
/-- what Scan answers: the numeral and the place behind it, or an error -/
def ScanR (w : World) (s : ByteArray) (fr : Int) (e : Ending) (w' : World) : Prop :=
  ((∃ g, e = .returned (.tuple #[.agg (nmA nmZ), .int .i64 0, .iface 52 (.pointer (some ⟨g, 0, none⟩))]) ∧ Flt w' g fr 90 ∧ w.heap.size ≤ g ∧ g < w'.heap.size ∧ (fr < 0 ∨ (s.size : Int) < fr ∨ (scanP s.data.toList fr.toNat).kind = 0)) ∨
   (0 ≤ fr ∧ fr ≤ (s.size : Int) ∧ (scanP s.data.toList fr.toNat).kind ≠ 0 ∧ e = .returned (.tuple #[.agg (nmA (Lx.numOf (scanP s.data.toList fr.toNat))), .int .i64 (fr + (scanP s.data.toList fr.toNat).stop), .nilIface]))) ∧ Below w.heap.size w w'
theorem Tn.cell {g : Nat} {w w' : World} (h : Tn g w w') {a : Addr} (ha : a.block < w.heap.size) (hn : a.block ≠ g) : w'.cell? a = w.cell? a := by
  unfold World.cell?
  rw [h.block a.block ha hn]
theorem results_c2 {P : Program} {fn : Func} {p u v : Tmp} {ty : TypeId} (h : fn.results = #[.cell p ty, .tmp u, .tmp v]) (tmps : Array Value) (w : World) (g : Nat) (t : TypeId) (cs : Array Value) (d : TypeDesc)
    (hp : tmps.getD p undef = .pointer (some ⟨g, 0, none⟩)) (hg : Bk w g t cs)
    (hu : P.underlying ty = some d) (hd : (match d with | .struct _ | .array _ _ => true | _ => false) = true) (hi : (P.info? ty).map (·.size) = some cs.size) :
    (results fn tmps).run P w = .ok (.tuple #[.agg cs, tmps.getD u undef, tmps.getD v undef]) w := by
  have hp' : tmps[p]?.getD undef = .pointer (some ⟨g, 0, none⟩) := by simpa using hp
  simp [results, h, hp', asAddr, run_loadVar_row w g t ty cs (0, 0) d hg hu hd hi, Result.andThen]
theorem results_c1 {P : Program} {fn : Func} {p u : Tmp} {ty : TypeId} (h : fn.results = #[.cell p ty, .tmp u]) (tmps : Array Value) (w : World) (g : Nat) (t : TypeId) (cs : Array Value) (d : TypeDesc)
    (hp : tmps.getD p undef = .pointer (some ⟨g, 0, none⟩)) (hg : Bk w g t cs)
    (hu : P.underlying ty = some d) (hd : (match d with | .struct _ | .array _ _ => true | _ => false) = true) (hi : (P.info? ty).map (·.size) = some cs.size) :
    (results fn tmps).run P w = .ok (.tuple #[.agg cs, tmps.getD u undef]) w := by
  have hp' : tmps[p]?.getD undef = .pointer (some ⟨g, 0, none⟩) := by simpa using hp
  simp [results, h, hp', asAddr, run_loadVar_row w g t ty cs (0, 0) d hg hu hd hi, Result.andThen]
end Lx
set_option maxRecDepth 100000 in
theorem wrap9_any (p c : Int) (w : World) :
    Calls Tryz.prog 90 #[.int .i64 p, .int .i64 c] w fun e w' => ∃ g, e = .returned (.iface 52 (.pointer (some ⟨g, 0, none⟩))) ∧ Flt w' g p c ∧ w.heap.size ≤ g ∧ g < w'.heap.size ∧ Below w.heap.size w w' := by
  go_enter Tryz.func90, Tryz.ntmps90
  go_wp2
  go_ret
  have b := Bk.new w 58 #[.int .i64 p, .iface 37 (.int .i64 c)]
  refine ⟨w.heap.size, rfl, ⟨b.cell 0 rfl, b.cell 1 rfl⟩, Nat.le_refl _, b.lt, (Below.refl _ w).alloc (Nat.le_refl _) _⟩
set_option maxHeartbeats 1600000 in
set_option maxRecDepth 100000 in
theorem scan_out (s : ByteArray) (fr : Int) (h : fr < 0 ∨ (s.size : Int) < fr) (w : World) :
    Calls Tryz.prog 70 #[.string s, .int .i64 fr] w (ScanR w s fr) := by
  have b0 := Bk.new w 30 zero5
  have HB : Hid (Bk (w.alloc (.cells zero5 30)) w.heap.size 30 zero5) := b0
  clear b0
  have hb0 : Below w.heap.size w (w.alloc (.cells zero5 30)) := (Below.refl _ w).alloc (Nat.le_refl _) _
  have hc := fun w => wrap9_any fr 90 w
  by_cases h1 : fr < 0
  · go_enter Tryz.func70, Tryz.ntmps70
    go_wp2_with fail
    refine (hc _).mono ?_
    rintro e w1 ⟨g, rfl, hF, hg1, hg2, hb1⟩
    have B1 := HB.out.later hb1
    have z0 := B1.cell 0 rfl
    have zf0 := B1.frozen 0
    have z1 := B1.cell 1 rfl
    have zf1 := B1.frozen 1
    have z2 := B1.cell 2 rfl
    have zf2 := B1.frozen 2
    have z3 := B1.cell 3 rfl
    have zf3 := B1.frozen 3
    have z4 := B1.cell 4 rfl
    have zf4 := B1.frozen 4
    have HB1 : Hid (Bk w1 w.heap.size 30 zero5) := B1
    clear B1
    go_wp2
    refine bodyPost_ret (results_c2 rfl _ _ w.heap.size 30 (nmA nmZ) _ rfl (Bk.all5 HB1.out _ _ _ _ _) Tryz.underlying30 rfl (by kernel_rfl)) rfl ?_
    have hs := hb0.size
    have hq : w.heap.size < g := by simp at hg1; omega
    have T := Tn.all5 w1 w.heap.size (.int .i64 0) (.bool false) (.string ⟨#[]⟩) (.int .i64 0) (.string ⟨#[]⟩)
    refine ⟨Or.inl ⟨g, rfl, ⟨?_, ?_⟩, by omega, Nat.lt_of_lt_of_le hg2 T.size, by omega⟩, Tn.below (hb0.trans (hb1.mono hs)) T (Nat.le_refl _) (Nat.le_refl _)⟩
    · exact (T.cell hg2 (Nat.ne_of_gt hq)).trans hF.1
    · exact (T.cell hg2 (Nat.ne_of_gt hq)).trans hF.2
  · have h2 : (s.size : Int) < fr := by omega
    clear h
    go_enter Tryz.func70, Tryz.ntmps70
    go_wp2_with fail
    refine (hc _).mono ?_
    rintro e w1 ⟨g, rfl, hF, hg1, hg2, hb1⟩
    have B1 := HB.out.later hb1
    have z0 := B1.cell 0 rfl
    have zf0 := B1.frozen 0
    have z1 := B1.cell 1 rfl
    have zf1 := B1.frozen 1
    have z2 := B1.cell 2 rfl
    have zf2 := B1.frozen 2
    have z3 := B1.cell 3 rfl
    have zf3 := B1.frozen 3
    have z4 := B1.cell 4 rfl
    have zf4 := B1.frozen 4
    have HB1 : Hid (Bk w1 w.heap.size 30 zero5) := B1
    clear B1
    go_wp2
    refine bodyPost_ret (results_c2 rfl _ _ w.heap.size 30 (nmA nmZ) _ rfl (Bk.all5 HB1.out _ _ _ _ _) Tryz.underlying30 rfl (by kernel_rfl)) rfl ?_
    have hs := hb0.size
    have hq : w.heap.size < g := by simp at hg1; omega
    have T := Tn.all5 w1 w.heap.size (.int .i64 0) (.bool false) (.string ⟨#[]⟩) (.int .i64 0) (.string ⟨#[]⟩)
    refine ⟨Or.inl ⟨g, rfl, ⟨?_, ?_⟩, by omega, Nat.lt_of_lt_of_le hg2 T.size, Or.inr (Or.inl h2)⟩, Tn.below (hb0.trans (hb1.mono hs)) T (Nat.le_refl _) (Nat.le_refl _)⟩
    · exact (T.cell hg2 (Nat.ne_of_gt hq)).trans hF.1
    · exact (T.cell hg2 (Nat.ne_of_gt hq)).trans hF.2
namespace Lx
theorem take_str {s : ByteArray} {f : Nat} (hf : f ≤ s.size) : ∃ (R T : ByteArray) (L M : Nat), s.extract f s.size = R ∧ R.size = L ∧ min (L : Int) 65536 = (M : Int) ∧ (M : Int) ≤ (L : Int) ∧ R.extract 0 M = T ∧ T.size = M ∧ M ≤ 65536 ∧ f + M ≤ s.size ∧ T.data.toList = (s.data.toList.drop f).take 65536 := by
  refine ⟨str (s.data.toList.drop f), str ((s.data.toList.drop f).take 65536), s.size - f, min (s.size - f) 65536, ?_, ?_, by omega, by omega, ?_, ?_, by omega, by omega, str_list _⟩
  · exact ext_all
  · rw [str_size, List.length_drop, ← Lib.size_eq]
  · rw [ext_str, str_list, List.drop_zero, Nat.sub_zero]
    congr 1
    by_cases h : s.size - f ≤ 65536
    · rw [Nat.min_eq_left h, List.take_of_length_le (by rw [List.length_drop, ← Lib.size_eq]; exact Nat.le_refl _), List.take_of_length_le (by rw [List.length_drop, ← Lib.size_eq]; exact h)]
    · rw [Nat.min_eq_right (by omega)]
  · rw [str_size, List.length_take, List.length_drop, ← Lib.size_eq]; omega
end Lx
set_option maxHeartbeats 3200000 in
set_option maxRecDepth 100000 in
theorem scan_in (s : ByteArray) (hs : s.size ≤ maxLen) (f : Nat) (hf : f ≤ s.size) (w : World) :
    Calls Tryz.prog 70 #[.string s, .int .i64 f] w (ScanR w s f) := by
  obtain ⟨R, T, L, M, e1, e2, e3, e4, e5, e6, e7, e8, e9⟩ := take_str hf
  have hL := fun w => longest_any T (by omega) w
  have hok := ok_longest T.data.toList
  have hSay := fun w => says_any (longestL T.data.toList) _ hok (by rw [← Lib.size_eq]; omega) w
  have hst := hok.st
  rw [← Lib.size_eq, e6] at hst
  have hP : scanP s.data.toList f = longestL T.data.toList := by unfold scanP; rw [e9]
  unfold maxLen at hs
  have hR : ScanR w s f = fun e w' => ((∃ g, e = .returned (.tuple #[.agg (nmA nmZ), .int .i64 0, .iface 52 (.pointer (some ⟨g, 0, none⟩))]) ∧ Flt w' g f 90 ∧ w.heap.size ≤ g ∧ g < w'.heap.size ∧ ((f : Int) < 0 ∨ (s.size : Int) < f ∨ (longestL T.data.toList).kind = 0)) ∨
   (0 ≤ (f : Int) ∧ (f : Int) ≤ (s.size : Int) ∧ (longestL T.data.toList).kind ≠ 0 ∧ e = .returned (.tuple #[.agg (nmA (Lx.numOf (longestL T.data.toList))), .int .i64 ((f : Int) + (longestL T.data.toList).stop), .nilIface]))) ∧ Below w.heap.size w w' := by
    funext e w'
    unfold ScanR
    rw [Int.toNat_natCast, hP]
  rw [hR]
  clear hR hP hok e9
  have hfi : (f : Int) ≤ (s.size : Int) := by omega
  have hf0 : ¬ (f : Int) < 0 := by omega
  have hf1 : ¬ (s.size : Int) < (f : Int) := by omega
  have b0 := Bk.new w 30 zero5
  have HB : Hid (Bk (w.alloc (.cells zero5 30)) w.heap.size 30 zero5) := b0
  clear b0
  have hb0 : Below w.heap.size w (w.alloc (.cells zero5 30)) := (Below.refl _ w).alloc (Nat.le_refl _) _
  have hc := fun w => wrap9_any f 90 w
  generalize longestL T.data.toList = p at *
  have hwr : IntKind.i64.wrap ((f : Int) + (p.stop : Int)) = (f : Int) + (p.stop : Int) := wrapI (by omega) (by omega)
  by_cases hk : p.kind = 0
  · have hkb : (p.kind == 0) = true := by rw [hk]; rfl
    have HK : Hid (p.kind = 0) := hk
    clear hk
    unfold pcA at hL
    go_enter Tryz.func70, Tryz.ntmps70
    go_wp2_with fail
    refine (hL _).mono ?_
    rintro e w1 ⟨rfl, hb1⟩
    have hb1' : Below w1.heap.size w1 (w1.alloc (.cells (pcA p) 151)) := (Below.refl _ w1).alloc (Nat.le_refl _) _
    have B1 := HB.out.later hb1
    have B2 := B1.later hb1'
    clear hL
    go_wp2_with fail
    refine (hc _).mono ?_
    rintro e w2 ⟨g, rfl, hF, hg1, hg2, hb2⟩
    have B3 := B2.later hb2
    have z0 := B3.cell 0 rfl
    have z1 := B3.cell 1 rfl
    have z2 := B3.cell 2 rfl
    have z3 := B3.cell 3 rfl
    have z4 := B3.cell 4 rfl
    have zf0 := B3.frozen 0
    have zf1 := B3.frozen 1
    have zf2 := B3.frozen 2
    have zf3 := B3.frozen 3
    have zf4 := B3.frozen 4
    have HB1 : Hid (Bk w2 w.heap.size 30 zero5) := B3
    clear B1 B2 B3
    go_wp2
    refine bodyPost_ret (results_c2 rfl _ _ w.heap.size 30 (nmA nmZ) _ rfl (Bk.all5 HB1.out _ _ _ _ _) Tryz.underlying30 rfl (by kernel_rfl)) rfl ?_
    have hs0 := hb0.size
    have hs1 := hb1.size
    have hq : w.heap.size < g := by
      have h1 : (w1.alloc (.cells (pcA p) 151)).heap.size ≤ g := hg1
      have h2 : (w.alloc (.cells zero5 30)).heap.size ≤ w1.heap.size := hs1
      simp at h1 h2; omega
    have TT := Tn.all5 w2 w.heap.size (.int .i64 0) (.bool false) (.string ⟨#[]⟩) (.int .i64 0) (.string ⟨#[]⟩)
    have hbA := (hb0.trans (hb1.mono hs0))
    have hbB := hbA.trans (hb1'.mono hbA.size)
    refine ⟨Or.inl ⟨g, rfl, ⟨?_, ?_⟩, by omega, Nat.lt_of_lt_of_le hg2 TT.size, Or.inr (Or.inr HK.out)⟩, Tn.below (hbB.trans (hb2.mono hbB.size)) TT (Nat.le_refl _) (Nat.le_refl _)⟩
    · exact (TT.cell hg2 (Nat.ne_of_gt hq)).trans hF.1
    · exact (TT.cell hg2 (Nat.ne_of_gt hq)).trans hF.2
  · have hkb : (p.kind == 0) = false := beq_eq_false_iff_ne.2 hk
    have HK : Hid (p.kind ≠ 0) := hk
    clear hk hc
    generalize Lx.numOf p = nn at *
    unfold pcA at hL
    unfold pcA nmA at hSay
    go_enter Tryz.func70, Tryz.ntmps70
    go_wp2_with fail
    refine (hL _).mono ?_
    rintro e w1 ⟨rfl, hb1⟩
    have hb1' : Below w1.heap.size w1 (w1.alloc (.cells (pcA p) 151)) := (Below.refl _ w1).alloc (Nat.le_refl _) _
    have B1 := HB.out.later hb1
    have B2 := B1.later hb1'
    have C2 := Bk.new w1 151 (pcA p)
    have hs0 := hb0.size
    have hbA := (hb0.trans (hb1.mono hs0))
    have hbB := hbA.trans (hb1'.mono hbA.size)
    have hlt : w.heap.size < w1.heap.size := by
      have h2 : (w.alloc (.cells zero5 30)).heap.size ≤ w1.heap.size := hb1.size
      simp at h2; omega
    clear hL
    go_wp2_with fail
    obtain ⟨w2, hw2⟩ : ∃ w2, w2 = w1.alloc (.cells (pcA p) 151) := ⟨_, rfl⟩
    unfold pcA at hw2
    rw [← hw2]
    unfold pcA at B2 C2 hbB
    rw [← hw2] at B2 C2 hbB
    obtain ⟨g8, hg8⟩ : ∃ g8, g8 = w1.heap.size := ⟨_, rfl⟩
    rw [← hg8] at C2 hlt ⊢
    obtain ⟨g4, hg4⟩ : ∃ g4, g4 = w.heap.size := ⟨_, rfl⟩
    have HG : Hid (w.heap.size = g4) := hg4.symm
    rw [← hg4] at B2 hbB hlt ⊢
    have hC2 := C2.lt
    have hB2 := B2.lt
    have HB2 : Hid (Bk w2 g4 30 zero5) := B2
    clear hw2 hg8 hg4 HB B1 hb1 hb1' hbA hs0 hb0
    have hcl : ∀ w1, Below w2.heap.size w2 w1 → w1.cell? ⟨g8, 0, none⟩ = some (.int .i64 p.kind) ∧ w1.cell? ⟨g8, 1, none⟩ = some (.bool p.neg) ∧ w1.cell? ⟨g8, 2, none⟩ = some (.string (str p.ahead)) ∧ w1.cell? ⟨g8, 3, none⟩ = some (.string (str p.behind)) ∧ w1.cell? ⟨g8, 4, none⟩ = some (.string (str p.expo)) ∧ w1.cell? ⟨g8, 5, none⟩ = some (.string (str p.den)) ∧ w1.cell? ⟨g8, 6, none⟩ = some (.int .i64 p.stop) :=
      fun w1 h => ⟨(C2.later h).cell 0 rfl, (C2.later h).cell 1 rfl, (C2.later h).cell 2 rfl, (C2.later h).cell 3 rfl, (C2.later h).cell 4 rfl, (C2.later h).cell 5 rfl, (C2.later h).cell 6 rfl⟩
    obtain ⟨x0, x1, x2, x3, x4, x5, x6⟩ := hcl w2 (Below.refl _ _)
    have ne1 : ¬ g4 = g8 := by omega
    have ne2 : ¬ g8 = g4 := by omega
    clear C2 B2
    go_region_held3 (fun w1 => w1.cell? ⟨g8, 0, none⟩ = some (.int .i64 p.kind) ∧ w1.cell? ⟨g8, 1, none⟩ = some (.bool p.neg) ∧ w1.cell? ⟨g8, 2, none⟩ = some (.string (str p.ahead)) ∧ w1.cell? ⟨g8, 3, none⟩ = some (.string (str p.behind)) ∧ w1.cell? ⟨g8, 4, none⟩ = some (.string (str p.expo)) ∧ w1.cell? ⟨g8, 5, none⟩ = some (.string (str p.den)) ∧ w1.cell? ⟨g8, 6, none⟩ = some (.int .i64 p.stop)) (go_keep) ((go_at_call 92; refine (hSay _).mono ?_; rintro e wX ⟨rfl, hbX⟩; have hBX : Below w2.heap.size w2 wX := (by first | exact hbX | exact (below_drewN (Below.refl _ w2) _).trans (hbX.mono (Nat.le_refl _))); obtain ⟨x0, x1, x2, x3, x4, x5, x6⟩ := hcl wX hBX; have B3 := HB2.out.later hBX; have z0 := B3.cell 0 rfl; have zf0 := B3.frozen 0; have z1 := B3.cell 1 rfl; have zf1 := B3.frozen 1; have z2 := B3.cell 2 rfl; have zf2 := B3.frozen 2; have z3 := B3.cell 3 rfl; have zf3 := B3.frozen 3; have z4 := B3.cell 4 rfl; have zf4 := B3.frozen 4))
    go_wp2
    refine bodyPost_ret (results_c2 rfl _ _ g4 30 (nmA nn) _ rfl (Bk.all5 (HB2.out.later hBX) _ _ _ _ _) Tryz.underlying30 rfl (by kernel_rfl)) rfl ?_
    refine ⟨Or.inr ⟨by omega, hfi, HK.out, rfl⟩, ?_⟩
    rw [HG.out]
    exact Tn.below (hbB.trans (hBX.mono (by omega))) (Tn.all5 ..) (Nat.le_refl _) (by rw [HG.out]; exact Nat.le_refl _)
end Go.Proofs.YtfgpjplfplbcdaaGreatDoor


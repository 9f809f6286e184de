/- Layer 9: lex.Scan, lex.Parse. -/
import Derived.Test.YtfgpjplfplbcdaaGreatDoorLexSay
namespace Go.Proofs.YtfgpjplfplbcdaaGreatDoor
open Go.ChangeShapes Go.WideShapes Go.ChangeAt Go.RowKit
open Lx
set_option linter.unusedVariables false
namespace Lx
/-- the numeral's pieces at a place of a text -/
def scanP (l : B) (k : Nat) : Pc := longestL ((l.drop k).take 65536)
/-- an error at its place -/
def Flt (w : World) (g : Nat) (p c : Int) : Prop := w.cell? ⟨g, 0, none⟩ = some (.int .i64 p) ∧ w.cell? ⟨g, 1, none⟩ = some (.iface 37 (.int .i64 c))
theorem Flt.later {w w' : World} {g : Nat} {p c : Int} (h : Flt w g p c) (hg : g < w.heap.size) (hb : Below w.heap.size w w') : Flt w' g p c :=
  ⟨(hb.cell hg).trans h.1, (hb.cell hg).trans h.2⟩
/-- what Scan answers: the numeral and the place behind it, or an error -/
def ScanR (w : World) (s : ByteArray) (fr : Int) (e : Ending) (w' : World) : Prop :=
  ((∃ g, e = .returned (.tuple #[.agg (nmA nmZ), .int .i64 0, .iface 52 (.pointer (some ⟨g, 0, none⟩))]) ∧ Flt w' g fr 90 ∧ w.heap.size ≤ g ∧ g < w'.heap.size ∧ (fr < 0 ∨ (s.size : Int) < fr ∨ (scanP s.data.toList fr.toNat).kind = 0)) ∨
   (0 ≤ fr ∧ fr ≤ (s.size : Int) ∧ (scanP s.data.toList fr.toNat).kind ≠ 0 ∧ e = .returned (.tuple #[.agg (nmA (Lx.numOf (scanP s.data.toList fr.toNat))), .int .i64 (fr + (scanP s.data.toList fr.toNat).stop), .nilIface]))) ∧ Below w.heap.size w w'
theorem Tn.cell {g : Nat} {w w' : World} (h : Tn g w w') {a : Addr} (ha : a.block < w.heap.size) (hn : a.block ≠ g) : w'.cell? a = w.cell? a := by
  unfold World.cell?
  rw [h.block a.block ha hn]
theorem results_c2 {P : Program} {fn : Func} {p u v : Tmp} {ty : TypeId} (h : fn.results = #[.cell p ty, .tmp u, .tmp v]) (tmps : Array Value) (w : World) (g : Nat) (t : TypeId) (cs : Array Value) (d : TypeDesc)
    (hp : tmps.getD p undef = .pointer (some ⟨g, 0, none⟩)) (hg : Bk w g t cs)
    (hu : P.underlying ty = some d) (hd : (match d with | .struct _ | .array _ _ => true | _ => false) = true) (hi : (P.info? ty).map (·.size) = some cs.size) :
    (results fn tmps).run P w = .ok (.tuple #[.agg cs, tmps.getD u undef, tmps.getD v undef]) w := by
  have hp' : tmps[p]?.getD undef = .pointer (some ⟨g, 0, none⟩) := by simpa using hp
  simp [results, h, hp', asAddr, run_loadVar_row w g t ty cs (0, 0) d hg hu hd hi, Result.andThen]
theorem results_c1 {P : Program} {fn : Func} {p u : Tmp} {ty : TypeId} (h : fn.results = #[.cell p ty, .tmp u]) (tmps : Array Value) (w : World) (g : Nat) (t : TypeId) (cs : Array Value) (d : TypeDesc)
    (hp : tmps.getD p undef = .pointer (some ⟨g, 0, none⟩)) (hg : Bk w g t cs)
    (hu : P.underlying ty = some d) (hd : (match d with | .struct _ | .array _ _ => true | _ => false) = true) (hi : (P.info? ty).map (·.size) = some cs.size) :
    (results fn tmps).run P w = .ok (.tuple #[.agg cs, tmps.getD u undef]) w := by
  have hp' : tmps[p]?.getD undef = .pointer (some ⟨g, 0, none⟩) := by simpa using hp
  simp [results, h, hp', asAddr, run_loadVar_row w g t ty cs (0, 0) d hg hu hd hi, Result.andThen]
theorem nmZ_eq : nmA nmZ = zero5 := rfl
end Lx
set_option maxRecDepth 100000 in
theorem wrap9_any (p c : Int) (w : World) :
    Calls Tryz.prog 90 #[.int .i64 p, .int .i64 c] w fun e w' => ∃ g, e = .returned (.iface 52 (.pointer (some ⟨g, 0, none⟩))) ∧ Flt w' g p c ∧ w.heap.size ≤ g ∧ g < w'.heap.size ∧ Below w.heap.size w w' := by
  go_enter Tryz.func90, Tryz.ntmps90
  go_wp2
  go_ret
  have b := Bk.new w 58 #[.int .i64 p, .iface 37 (.int .i64 c)]
  refine ⟨w.heap.size, rfl, ⟨b.cell 0 rfl, b.cell 1 rfl⟩, Nat.le_refl _, b.lt, (Below.refl _ w).alloc (Nat.le_refl _) _⟩
set_option maxHeartbeats 1600000 in
set_option maxRecDepth 100000 in
theorem scan_out (s : ByteArray) (fr : Int) (h : fr < 0 ∨ (s.size : Int) < fr) (w : World) :
    Calls Tryz.prog 70 #[.string s, .int .i64 fr] w (ScanR w s fr) := by
  have b0 := Bk.new w 30 zero5
  have HB : Hid (Bk (w.alloc (.cells zero5 30)) w.heap.size 30 zero5) := b0
  clear b0
  have hb0 : Below w.heap.size w (w.alloc (.cells zero5 30)) := (Below.refl _ w).alloc (Nat.le_refl _) _
  have hc := fun w => wrap9_any fr 90 w
  by_cases h1 : fr < 0
  · go_enter Tryz.func70, Tryz.ntmps70
    go_wp2_with fail
    refine (hc _).mono ?_
    rintro e w1 ⟨g, rfl, hF, hg1, hg2, hb1⟩
    have B1 := HB.out.later hb1
    have z0 := B1.cell 0 rfl
    have zf0 := B1.frozen 0
    have z1 := B1.cell 1 rfl
    have zf1 := B1.frozen 1
    have z2 := B1.cell 2 rfl
    have zf2 := B1.frozen 2
    have z3 := B1.cell 3 rfl
    have zf3 := B1.frozen 3
    have z4 := B1.cell 4 rfl
    have zf4 := B1.frozen 4
    have HB1 : Hid (Bk w1 w.heap.size 30 zero5) := B1
    clear B1
    go_wp2
    refine bodyPost_ret (results_c2 rfl _ _ w.heap.size 30 (nmA nmZ) _ rfl (Bk.all5 HB1.out _ _ _ _ _) Tryz.underlying30 rfl (by kernel_rfl)) rfl ?_
    have hs := hb0.size
    have hq : w.heap.size < g := by simp at hg1; omega
    have T := Tn.all5 w1 w.heap.size (.int .i64 0) (.bool false) (.string ⟨#[]⟩) (.int .i64 0) (.string ⟨#[]⟩)
    refine ⟨Or.inl ⟨g, rfl, ⟨?_, ?_⟩, by omega, Nat.lt_of_lt_of_le hg2 T.size, by omega⟩, Tn.below (hb0.trans (hb1.mono hs)) T (Nat.le_refl _) (Nat.le_refl _)⟩
    · exact (T.cell hg2 (Nat.ne_of_gt hq)).trans hF.1
    · exact (T.cell hg2 (Nat.ne_of_gt hq)).trans hF.2
  · have h2 : (s.size : Int) < fr := by omega
    clear h
    go_enter Tryz.func70, Tryz.ntmps70
    go_wp2_with fail
    refine (hc _).mono ?_
    rintro e w1 ⟨g, rfl, hF, hg1, hg2, hb1⟩
    have B1 := HB.out.later hb1
    have z0 := B1.cell 0 rfl
    have zf0 := B1.frozen 0
    have z1 := B1.cell 1 rfl
    have zf1 := B1.frozen 1
    have z2 := B1.cell 2 rfl
    have zf2 := B1.frozen 2
    have z3 := B1.cell 3 rfl
    have zf3 := B1.frozen 3
    have z4 := B1.cell 4 rfl
    have zf4 := B1.frozen 4
    have HB1 : Hid (Bk w1 w.heap.size 30 zero5) := B1
    clear B1
    go_wp2
    refine bodyPost_ret (results_c2 rfl _ _ w.heap.size 30 (nmA nmZ) _ rfl (Bk.all5 HB1.out _ _ _ _ _) Tryz.underlying30 rfl (by kernel_rfl)) rfl ?_
    have hs := hb0.size
    have hq : w.heap.size < g := by simp at hg1; omega
    have T := Tn.all5 w1 w.heap.size (.int .i64 0) (.bool false) (.string ⟨#[]⟩) (.int .i64 0) (.string ⟨#[]⟩)
    refine ⟨Or.inl ⟨g, rfl, ⟨?_, ?_⟩, by omega, Nat.lt_of_lt_of_le hg2 T.size, Or.inr (Or.inl h2)⟩, Tn.below (hb0.trans (hb1.mono hs)) T (Nat.le_refl _) (Nat.le_refl _)⟩
    · exact (T.cell hg2 (Nat.ne_of_gt hq)).trans hF.1
    · exact (T.cell hg2 (Nat.ne_of_gt hq)).trans hF.2
namespace Lx
theorem take_str {s : ByteArray} {f : Nat} (hf : f ≤ s.size) : ∃ (R T : ByteArray) (L M : Nat), s.extract f s.size = R ∧ R.size = L ∧ min (L : Int) 65536 = (M : Int) ∧ (M : Int) ≤ (L : Int) ∧ R.extract 0 M = T ∧ T.size = M ∧ M ≤ 65536 ∧ f + M ≤ s.size ∧ T.data.toList = (s.data.toList.drop f).take 65536 := by
  refine ⟨str (s.data.toList.drop f), str ((s.data.toList.drop f).take 65536), s.size - f, min (s.size - f) 65536, ?_, ?_, by omega, by omega, ?_, ?_, by omega, by omega, str_list _⟩
  · exact ext_all
  · rw [str_size, List.length_drop, ← Lib.size_eq]
  · rw [ext_str, str_list, List.drop_zero, Nat.sub_zero]
    congr 1
    by_cases h : s.size - f ≤ 65536
    · rw [Nat.min_eq_left h, List.take_of_length_le (by rw [List.length_drop, ← Lib.size_eq]; exact Nat.le_refl _), List.take_of_length_le (by rw [List.length_drop, ← Lib.size_eq]; exact h)]
    · rw [Nat.min_eq_right (by omega)]
  · rw [str_size, List.length_take, List.length_drop, ← Lib.size_eq]; omega
end Lx
set_option maxHeartbeats 3200000 in
set_option maxRecDepth 100000 in
theorem scan_in (s : ByteArray) (hs : s.size ≤ maxLen) (f : Nat) (hf : f ≤ s.size) (w : World) :
    Calls Tryz.prog 70 #[.string s, .int .i64 f] w (ScanR w s f) := by
  obtain ⟨R, T, L, M, e1, e2, e3, e4, e5, e6, e7, e8, e9⟩ := take_str hf
  have hL := fun w => longest_any T (by omega) w
  have hok := ok_longest T.data.toList
  have hSay := fun w => says_any (longestL T.data.toList) _ hok (by rw [← Lib.size_eq]; omega) w
  have hst := hok.st
  rw [← Lib.size_eq, e6] at hst
  have hP : scanP s.data.toList f = longestL T.data.toList := by unfold scanP; rw [e9]
  unfold maxLen at hs
  have hR : ScanR w s f = fun e w' => ((∃ g, e = .returned (.tuple #[.agg (nmA nmZ), .int .i64 0, .iface 52 (.pointer (some ⟨g, 0, none⟩))]) ∧ Flt w' g f 90 ∧ w.heap.size ≤ g ∧ g < w'.heap.size ∧ ((f : Int) < 0 ∨ (s.size : Int) < f ∨ (longestL T.data.toList).kind = 0)) ∨
   (0 ≤ (f : Int) ∧ (f : Int) ≤ (s.size : Int) ∧ (longestL T.data.toList).kind ≠ 0 ∧ e = .returned (.tuple #[.agg (nmA (Lx.numOf (longestL T.data.toList))), .int .i64 ((f : Int) + (longestL T.data.toList).stop), .nilIface]))) ∧ Below w.heap.size w w' := by
    funext e w'
    unfold ScanR
    rw [Int.toNat_natCast, hP]
  rw [hR]
  clear hR hP hok e9
  have hfi : (f : Int) ≤ (s.size : Int) := by omega
  have hf0 : ¬ (f : Int) < 0 := by omega
  have hf1 : ¬ (s.size : Int) < (f : Int) := by omega
  have b0 := Bk.new w 30 zero5
  have HB : Hid (Bk (w.alloc (.cells zero5 30)) w.heap.size 30 zero5) := b0
  clear b0
  have hb0 : Below w.heap.size w (w.alloc (.cells zero5 30)) := (Below.refl _ w).alloc (Nat.le_refl _) _
  have hc := fun w => wrap9_any f 90 w
  generalize longestL T.data.toList = p at *
  have hwr : IntKind.i64.wrap ((f : Int) + (p.stop : Int)) = (f : Int) + (p.stop : Int) := wrapI (by omega) (by omega)
  by_cases hk : p.kind = 0
  · have hkb : (p.kind == 0) = true := by rw [hk]; rfl
    have HK : Hid (p.kind = 0) := hk
    clear hk
    unfold pcA at hL
    go_enter Tryz.func70, Tryz.ntmps70
    go_wp2_with fail
    refine (hL _).mono ?_
    rintro e w1 ⟨rfl, hb1⟩
    have hb1' : Below w1.heap.size w1 (w1.alloc (.cells (pcA p) 151)) := (Below.refl _ w1).alloc (Nat.le_refl _) _
    have B1 := HB.out.later hb1
    have B2 := B1.later hb1'
    clear hL
    go_wp2_with fail
    refine (hc _).mono ?_
    rintro e w2 ⟨g, rfl, hF, hg1, hg2, hb2⟩
    have B3 := B2.later hb2
    have z0 := B3.cell 0 rfl
    have z1 := B3.cell 1 rfl
    have z2 := B3.cell 2 rfl
    have z3 := B3.cell 3 rfl
    have z4 := B3.cell 4 rfl
    have zf0 := B3.frozen 0
    have zf1 := B3.frozen 1
    have zf2 := B3.frozen 2
    have zf3 := B3.frozen 3
    have zf4 := B3.frozen 4
    have HB1 : Hid (Bk w2 w.heap.size 30 zero5) := B3
    clear B1 B2 B3
    go_wp2
    refine bodyPost_ret (results_c2 rfl _ _ w.heap.size 30 (nmA nmZ) _ rfl (Bk.all5 HB1.out _ _ _ _ _) Tryz.underlying30 rfl (by kernel_rfl)) rfl ?_
    have hs0 := hb0.size
    have hs1 := hb1.size
    have hq : w.heap.size < g := by
      have h1 : (w1.alloc (.cells (pcA p) 151)).heap.size ≤ g := hg1
      have h2 : (w.alloc (.cells zero5 30)).heap.size ≤ w1.heap.size := hs1
      simp at h1 h2; omega
    have TT := Tn.all5 w2 w.heap.size (.int .i64 0) (.bool false) (.string ⟨#[]⟩) (.int .i64 0) (.string ⟨#[]⟩)
    have hbA := (hb0.trans (hb1.mono hs0))
    have hbB := hbA.trans (hb1'.mono hbA.size)
    refine ⟨Or.inl ⟨g, rfl, ⟨?_, ?_⟩, by omega, Nat.lt_of_lt_of_le hg2 TT.size, Or.inr (Or.inr HK.out)⟩, Tn.below (hbB.trans (hb2.mono hbB.size)) TT (Nat.le_refl _) (Nat.le_refl _)⟩
    · exact (TT.cell hg2 (Nat.ne_of_gt hq)).trans hF.1
    · exact (TT.cell hg2 (Nat.ne_of_gt hq)).trans hF.2
  · have hkb : (p.kind == 0) = false := beq_eq_false_iff_ne.2 hk
    have HK : Hid (p.kind ≠ 0) := hk
    clear hk hc
    generalize Lx.numOf p = nn at *
    unfold pcA at hL
    unfold pcA nmA at hSay
    go_enter Tryz.func70, Tryz.ntmps70
    go_wp2_with fail
    refine (hL _).mono ?_
    rintro e w1 ⟨rfl, hb1⟩
    have hb1' : Below w1.heap.size w1 (w1.alloc (.cells (pcA p) 151)) := (Below.refl _ w1).alloc (Nat.le_refl _) _
    have B1 := HB.out.later hb1
    have B2 := B1.later hb1'
    have C2 := Bk.new w1 151 (pcA p)
    have hs0 := hb0.size
    have hbA := (hb0.trans (hb1.mono hs0))
    have hbB := hbA.trans (hb1'.mono hbA.size)
    have hlt : w.heap.size < w1.heap.size := by
      have h2 : (w.alloc (.cells zero5 30)).heap.size ≤ w1.heap.size := hb1.size
      simp at h2; omega
    clear hL
    go_wp2_with fail
    obtain ⟨w2, hw2⟩ : ∃ w2, w2 = w1.alloc (.cells (pcA p) 151) := ⟨_, rfl⟩
    unfold pcA at hw2
    rw [← hw2]
    unfold pcA at B2 C2 hbB
    rw [← hw2] at B2 C2 hbB
    obtain ⟨g8, hg8⟩ : ∃ g8, g8 = w1.heap.size := ⟨_, rfl⟩
    rw [← hg8] at C2 hlt ⊢
    obtain ⟨g4, hg4⟩ : ∃ g4, g4 = w.heap.size := ⟨_, rfl⟩
    have HG : Hid (w.heap.size = g4) := hg4.symm
    rw [← hg4] at B2 hbB hlt ⊢
    have hC2 := C2.lt
    have hB2 := B2.lt
    have HB2 : Hid (Bk w2 g4 30 zero5) := B2
    clear hw2 hg8 hg4 HB B1 hb1 hb1' hbA hs0 hb0
    have hcl : ∀ w1, Below w2.heap.size w2 w1 → w1.cell? ⟨g8, 0, none⟩ = some (.int .i64 p.kind) ∧ w1.cell? ⟨g8, 1, none⟩ = some (.bool p.neg) ∧ w1.cell? ⟨g8, 2, none⟩ = some (.string (str p.ahead)) ∧ w1.cell? ⟨g8, 3, none⟩ = some (.string (str p.behind)) ∧ w1.cell? ⟨g8, 4, none⟩ = some (.string (str p.expo)) ∧ w1.cell? ⟨g8, 5, none⟩ = some (.string (str p.den)) ∧ w1.cell? ⟨g8, 6, none⟩ = some (.int .i64 p.stop) :=
      fun w1 h => ⟨(C2.later h).cell 0 rfl, (C2.later h).cell 1 rfl, (C2.later h).cell 2 rfl, (C2.later h).cell 3 rfl, (C2.later h).cell 4 rfl, (C2.later h).cell 5 rfl, (C2.later h).cell 6 rfl⟩
    obtain ⟨x0, x1, x2, x3, x4, x5, x6⟩ := hcl w2 (Below.refl _ _)
    have ne1 : ¬ g4 = g8 := by omega
    have ne2 : ¬ g8 = g4 := by omega
    clear C2 B2
    go_region_held3 (fun w1 => w1.cell? ⟨g8, 0, none⟩ = some (.int .i64 p.kind) ∧ w1.cell? ⟨g8, 1, none⟩ = some (.bool p.neg) ∧ w1.cell? ⟨g8, 2, none⟩ = some (.string (str p.ahead)) ∧ w1.cell? ⟨g8, 3, none⟩ = some (.string (str p.behind)) ∧ w1.cell? ⟨g8, 4, none⟩ = some (.string (str p.expo)) ∧ w1.cell? ⟨g8, 5, none⟩ = some (.string (str p.den)) ∧ w1.cell? ⟨g8, 6, none⟩ = some (.int .i64 p.stop)) (go_keep) ((go_at_call 92; refine (hSay _).mono ?_; rintro e wX ⟨rfl, hbX⟩; have hBX : Below w2.heap.size w2 wX := (by first | exact hbX | exact (below_drewN (Below.refl _ w2) _).trans (hbX.mono (Nat.le_refl _))); obtain ⟨x0, x1, x2, x3, x4, x5, x6⟩ := hcl wX hBX; have B3 := HB2.out.later hBX; have z0 := B3.cell 0 rfl; have zf0 := B3.frozen 0; have z1 := B3.cell 1 rfl; have zf1 := B3.frozen 1; have z2 := B3.cell 2 rfl; have zf2 := B3.frozen 2; have z3 := B3.cell 3 rfl; have zf3 := B3.frozen 3; have z4 := B3.cell 4 rfl; have zf4 := B3.frozen 4))
    go_wp2
    refine bodyPost_ret (results_c2 rfl _ _ g4 30 (nmA nn) _ rfl (Bk.all5 (HB2.out.later hBX) _ _ _ _ _) Tryz.underlying30 rfl (by kernel_rfl)) rfl ?_
    refine ⟨Or.inr ⟨by omega, hfi, HK.out, rfl⟩, ?_⟩
    rw [HG.out]
    exact Tn.below (hbB.trans (hBX.mono (by omega))) (Tn.all5 ..) (Nat.le_refl _) (by rw [HG.out]; exact Nat.le_refl _)
end Go.Proofs.YtfgpjplfplbcdaaGreatDoor

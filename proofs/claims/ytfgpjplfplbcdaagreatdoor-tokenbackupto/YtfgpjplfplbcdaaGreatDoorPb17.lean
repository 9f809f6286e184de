import Derived.Below
import Derived.BigQuiet
import Derived.ChangeOld
import Derived.Deep.CutRange
import Derived.Deep.LoopGhost
import Derived.Deep.QuietTactic
import Derived.Deep.RegionHeld3
import Derived.Deep.RegionWith
import Derived.Deep.WholeRow
import Derived.KernelRfl
import Derived.Laws.BitsAllLaws
import Derived.Laws.CopyRow
import Derived.Laws.EntriesVeiled
import Derived.Laws.Externs
import Derived.Laws.IdiomCopy
import Derived.Laws.IdiomRangeMap
import Derived.Laws.RangeString
import Derived.Laws.ResultCell
import Derived.Laws.Runes
import Derived.Laws.Strings3
import Derived.Lib.AsciiSet
import Derived.Lib.BufferRead
import Derived.Lib.Bytealg
import Derived.Lib.IndexBytes
import Derived.Lib.Strings
import Derived.Lib.TrimByte
import Derived.Lib.Walk
import Derived.OpenShut
import Derived.OwnWalk
import Derived.ProofKit
import Derived.Shelf.Strconv.Clone
import Derived.Shelf.Strings.OnBuilder
import Derived.ShutString
import Derived.WalkKit
import Derived.WalkLawsBesides
import Derived.WalkSpells
import Derived.Test.YtfgpjplfplbcdaaGreatDoorPb16
/- Layer 9: the document's Scan of a long text. -/
namespace Go.Proofs.YtfgpjplfplbcdaaGreatDoor
open Go.ChangeShapes Go.WideShapes Go.ChangeAt Go.RowKit
open Lx
set_option linter.unusedVariables false
set_option maxHeartbeats 12800000 in
set_option maxRecDepth 100000 in
theorem rscan9_noL (s0 s : ByteArray) (f : Nat) (hs : s.size ≤ 3000000) (hs0 : s0.size ≤ 3000000) (hbg : f + 65536 < s0.size) (hcut : s0.extract 0 (f + 65536) = s) (hf : f ≤ s.size) (w : World) (hsg : fst [43, 45] (s.data.toList.drop f) = false) :
    Calls Tryz.prog 61 #[.string s0, .int .i64 (f : Int)] w (RScanR w f (refAll false 0 (s.data.toList.drop f))) := by
  have hb0' : Below w.heap.size w (w.alloc (.cells zero5 30)) := (Below.refl _ w).alloc (Nat.le_refl _) _
  have HB0' := Bk.new w 30 zero5
  obtain ⟨w0, hw0⟩ : ∃ w0, w0 = w.alloc (.cells zero5 30) := ⟨_, rfl⟩
  obtain ⟨g4, hg4⟩ : ∃ g4, w.heap.size = g4 := ⟨_, rfl⟩
  have HW0 : Hid (w0 = w.alloc (.cells zero5 30)) := hw0
  have HG4 : Hid (w.heap.size = g4) := hg4
  rw [← hw0] at hb0' HB0'
  rw [hg4] at hb0' HB0'
  have hb0 := hb0'
  have HB0 : Hid (Bk w0 g4 30 zero5) := HB0'
  clear hw0 hg4 hb0' HB0'
  have hfi : ¬ (f : Int) < 0 := by omega
  have hfj : ¬ (s0.size : Int) < (f : Int) := by omega
  have hle0 : (f : Int) + 65536 ≤ (s0.size : Int) := by omega
  have hbig : (65536 : Int) < (s0.size : Int) - (f : Int) := by omega
  have hkk : f ≤ s.size := hf
  have hkb : f = f + 0 := rfl
  by_cases hlt0 : f < s.size
  · have hli : (f : Int) < (s.size : Int) := by omega
    have csg := sign9_any (s[f]'hlt0)
    rw [← fst_at hlt0, hsg] at csg
    clear hsg
    rcases all_three false 0 (s.data.toList.drop f) with ⟨hd, hh, hr, ho⟩ | ⟨p, hd, hh, hr, ho⟩ | ⟨p, q, hd, hh, hr, hlt, ho⟩ | ⟨p, q, hd, hh, hr, hlt, ho⟩
    · skip
      have cD := fun w => (dec9_any s f 0 f false hs hkk hkb w).mono (fun e w' h => h.none hd)
      have cH := fun w => (hexa9_any s f 0 f false hs hkk hkb w).mono (fun e w' h => h.none hh)
      have cR := fun w => (rat9_any s f 0 f false hs hkk hkb w).mono (fun e w' h => h.none hr)
      have HO : Hid _ := ho
      clear ho hd hh hr hkb
      unfold zero5 at cD
      unfold zero5 at cH
      unfold zero5 at cR
      go_enter Tryz.func61, Tryz.ntmps61
      go_wp2_with (go_at_call 72; refine (csg _).mono ?_; rintro e w' ⟨rfl, hw⟩; rw [hw])
      rw [show w.alloc (.cells #[.int .i64 0, .bool false, .string ⟨#[]⟩, .int .i64 0, .string ⟨#[]⟩] 30) = w0 from HW0.out.symm, show w.heap.size = g4 from HG4.out]
      refine (cD _).mono ?_
      rintro e w1 ⟨hb1, rfl⟩
      have B14 := HB0.out.later hb1
      have hbA := hb0.trans (hb1.mono (by rw [← HG4.out]; exact hb0.size))
      have BN := Bk.new w1 30 zero5
      have hbn : Below w1.heap.size w1 (w1.alloc (.cells zero5 30)) := (Below.refl _ w1).alloc (Nat.le_refl _) _
      have B24 := B14.later hbn
      have hl4 := B14.lt
      have hbX : g4 ≤ w1.heap.size := Nat.le_of_lt hl4
      obtain ⟨g10, hg10⟩ : ∃ g10, g10 = w1.heap.size := ⟨_, rfl⟩
      have hbB := hbA.trans (hbn.mono hbX)
      clear hbX
      unfold zero5 at BN hbn hbB B24
      go_wp2_with fail
      obtain ⟨wa, hwa⟩ : ∃ wa, wa = w1.alloc (.cells #[.int .i64 0, .bool false, .string ⟨#[]⟩, .int .i64 0, .string ⟨#[]⟩] 30) := ⟨_, rfl⟩
      rw [← hwa, ← hg10]
      rw [← hwa] at BN hbB B24
      rw [← hg10] at BN hl4
      clear hwa hbn B14 hb1 hg10
      refine (cH _).mono ?_
      rintro e w2 ⟨hb2, rfl⟩
      have C4 := B24.later hb2
      have C10 := BN.later hb2
      have hbC := hbB.trans (hb2.mono (by have := B24.lt; omega))
      have hl10 := C10.lt
      have ne1 : ¬ g4 = g10 := by omega
      have ne2 : ¬ g10 = g4 := by omega
      obtain ⟨g13, hg13⟩ : ∃ g13, g13 = w2.heap.size := ⟨_, rfl⟩
      have ne3 : ¬ g10 = g13 := by omega
      have ne4 : ¬ g13 = g10 := by omega
      have ne5 : ¬ g4 = g13 := by omega
      have ne6 : ¬ g13 = g4 := by omega
      have le13 : g4 ≤ g13 := by omega
      have le10 : g4 ≤ g10 := by omega
      have HG13 : Hid (g13 = w2.heap.size) := hg13
      have h13 : w2.heap.size = g13 := hg13.symm
      clear B24 BN hb2 hbB hg13
      have t0 := C10.cell 0 rfl
      have tf0 := C10.frozen 0
      have t1 := C10.cell 1 rfl
      have tf1 := C10.frozen 1
      have t2 := C10.cell 2 rfl
      have tf2 := C10.frozen 2
      have t3 := C10.cell 3 rfl
      have tf3 := C10.frozen 3
      have t4 := C10.cell 4 rfl
      have tf4 := C10.frozen 4
      clear h13
      go_wp2_with fail
      have hg13 := HG13.out
      try rw [← hg13]
      have D10 := C10
      have D4 := C4
      have hbD := hbC
      obtain ⟨w5, hw5⟩ : ∃ w5, w5 = w2 := ⟨_, rfl⟩
      rw [← hw5]
      rw [← hw5] at D10 D4 hbD hg13
      clear hw5
      have hbm : Below w5.heap.size w5 (w5.alloc (.cells #[.int .i64 0, .bool false, .string ⟨#[]⟩, .int .i64 0, .string ⟨#[]⟩] 30)) := (Below.refl _ w5).alloc (Nat.le_refl _) _
      have E13 := Bk.new w5 30 #[.int .i64 0, .bool false, .string ⟨#[]⟩, .int .i64 0, .string ⟨#[]⟩]
      rw [← hg13] at E13
      clear hg13 HG13
      have E10 := D10.later hbm
      have E4 := D4.later hbm
      have hbE := hbD.trans (hbm.mono (by have := D4.lt; omega))
      generalize w5.alloc (.cells #[.int .i64 0, .bool false, .string ⟨#[]⟩, .int .i64 0, .string ⟨#[]⟩] 30) = w6 at *
      refine (cR _).mono ?_
      rintro e w3 ⟨hb3, rfl⟩
      have F13 := E13.later hb3
      have F10 := E10.later hb3
      have F4 := E4.later hb3
      have hbF := hbE.trans (hb3.mono (by have := E4.lt; omega))
      clear E13 E10 E4 hb3 hbE D10 D4 hbD hbm C10 C4 hbC
      have x0 := F13.cell 0 rfl
      have xf0 := F13.frozen 0
      have x1 := F13.cell 1 rfl
      have xf1 := F13.frozen 1
      have x2 := F13.cell 2 rfl
      have xf2 := F13.frozen 2
      have x3 := F13.cell 3 rfl
      have xf3 := F13.frozen 3
      have x4 := F13.cell 4 rfl
      have xf4 := F13.frozen 4
      have y0 := F10.cell 0 rfl
      have yf0 := F10.frozen 0
      have y1 := F10.cell 1 rfl
      have yf1 := F10.frozen 1
      have y2 := F10.cell 2 rfl
      have yf2 := F10.frozen 2
      have y3 := F10.cell 3 rfl
      have yf3 := F10.frozen 3
      have y4 := F10.cell 4 rfl
      have yf4 := F10.frozen 4
      have z0 := F4.cell 0 rfl
      have zf0 := F4.frozen 0
      have z1 := F4.cell 1 rfl
      have zf1 := F4.frozen 1
      have z2 := F4.cell 2 rfl
      have zf2 := F4.frozen 2
      have z3 := F4.cell 3 rfl
      have zf3 := F4.frozen 3
      have z4 := F4.cell 4 rfl
      have zf4 := F4.frozen 4
      have HF4 : Hid (Bk w3 g4 30 zero5) := F4
      clear F4 F10 F13
      go_wp2
      have HBF : Hid (Below g4 w w3) := hbF
      refine bodyPost_ret (results_c3 rfl _ _ g4 30 (nmA nmZ) _ rfl (Bk.all5 (by (repeat (refine Bk.set_ne ?_ (by assumption))); exact HF4.out) _ _ _ _ _) Tryz.underlying30 rfl (by kernel_rfl)) rfl ?_
      refine ⟨?_, ?_⟩
      · rw [HG4.out]
        refine below_set (below_set (below_set (below_set (below_set ?_ (Nat.le_refl _) (by rw [HG4.out]; exact Nat.le_refl _)) (Nat.le_refl _) (by rw [HG4.out]; exact Nat.le_refl _)) (Nat.le_refl _) (by rw [HG4.out]; exact Nat.le_refl _)) (Nat.le_refl _) (by rw [HG4.out]; exact Nat.le_refl _)) (Nat.le_refl _) (by rw [HG4.out]; exact Nat.le_refl _)
        repeat (refine below_set ?_ (by omega) (by rw [HG4.out]; exact Nat.le_refl _))
        exact HBF.out
      · exact Or.inl ⟨HO.out, rfl⟩
    · skip
      have cD := fun w => (dec9_any s f 0 f false hs hkk hkb w).mono (fun e w' h => h.some hd)
      have cH := fun w => (hexa9_any s f 0 f false hs hkk hkb w).mono (fun e w' h => h.none hh)
      have cR := fun w => (rat9_any s f 0 f false hs hkk hkb w).mono (fun e w' h => h.none hr)
      have hng := dec_neg hd
      generalize hn1 : numR p = n1 at *
      have HN : Hid (nmA (numR p) = nmF n1 false) := by unfold Hid; rw [hn1]; unfold nmA nmF; rw [← hn1]; show _ = #[_, _, _, _, _]; rw [← hng]; rfl
      clear hn1 hng
      have HO : Hid _ := ho
      clear ho hd hh hr hkb
      generalize hE1 : f + p.stop = E1 at *
      have HE1 : Hid (f + p.stop = E1) := hE1
      clear hE1
      unfold nmF at cD
      unfold zero5 at cH
      unfold zero5 at cR
      go_enter Tryz.func61, Tryz.ntmps61
      go_wp2_with (go_at_call 72; refine (csg _).mono ?_; rintro e w' ⟨rfl, hw⟩; rw [hw])
      rw [show w.alloc (.cells #[.int .i64 0, .bool false, .string ⟨#[]⟩, .int .i64 0, .string ⟨#[]⟩] 30) = w0 from HW0.out.symm, show w.heap.size = g4 from HG4.out]
      refine (cD _).mono ?_
      rintro e w1 ⟨hb1, rfl⟩
      have B14 := HB0.out.later hb1
      have hbA := hb0.trans (hb1.mono (by rw [← HG4.out]; exact hb0.size))
      have BN := Bk.new w1 30 (nmF n1 false)
      have hbn : Below w1.heap.size w1 (w1.alloc (.cells (nmF n1 false) 30)) := (Below.refl _ w1).alloc (Nat.le_refl _) _
      have B24 := B14.later hbn
      have hl4 := B14.lt
      have hbX : g4 ≤ w1.heap.size := Nat.le_of_lt hl4
      obtain ⟨g10, hg10⟩ : ∃ g10, g10 = w1.heap.size := ⟨_, rfl⟩
      have hbB := hbA.trans (hbn.mono hbX)
      clear hbX
      unfold nmF at BN hbn hbB B24
      go_wp2_with fail
      obtain ⟨wa, hwa⟩ : ∃ wa, wa = w1.alloc (.cells #[.int .i64 n1.kind, .bool false, .string (str n1.num), .int .i64 n1.exp, .string (str n1.den)] 30) := ⟨_, rfl⟩
      rw [← hwa, ← hg10]
      rw [← hwa] at BN hbB B24
      rw [← hg10] at BN hl4
      clear hwa hbn B14 hb1 hg10
      refine (cH _).mono ?_
      rintro e w2 ⟨hb2, rfl⟩
      have C4 := B24.later hb2
      have C10 := BN.later hb2
      have hbC := hbB.trans (hb2.mono (by have := B24.lt; omega))
      have hl10 := C10.lt
      have ne1 : ¬ g4 = g10 := by omega
      have ne2 : ¬ g10 = g4 := by omega
      obtain ⟨g13, hg13⟩ : ∃ g13, g13 = w2.heap.size := ⟨_, rfl⟩
      have ne3 : ¬ g10 = g13 := by omega
      have ne4 : ¬ g13 = g10 := by omega
      have ne5 : ¬ g4 = g13 := by omega
      have ne6 : ¬ g13 = g4 := by omega
      have le13 : g4 ≤ g13 := by omega
      have le10 : g4 ≤ g10 := by omega
      have HG13 : Hid (g13 = w2.heap.size) := hg13
      have h13 : w2.heap.size = g13 := hg13.symm
      clear B24 BN hb2 hbB hg13
      have t0 := C10.cell 0 rfl
      have tf0 := C10.frozen 0
      have t1 := C10.cell 1 rfl
      have tf1 := C10.frozen 1
      have t2 := C10.cell 2 rfl
      have tf2 := C10.frozen 2
      have t3 := C10.cell 3 rfl
      have tf3 := C10.frozen 3
      have t4 := C10.cell 4 rfl
      have tf4 := C10.frozen 4
      clear h13
      go_wp2_with fail
      have hg13 := HG13.out
      try rw [← hg13]
      have D10 := C10
      have D4 := C4
      have hbD := hbC
      obtain ⟨w5, hw5⟩ : ∃ w5, w5 = w2 := ⟨_, rfl⟩
      rw [← hw5]
      rw [← hw5] at D10 D4 hbD hg13
      clear hw5
      have hbm : Below w5.heap.size w5 (w5.alloc (.cells #[.int .i64 0, .bool false, .string ⟨#[]⟩, .int .i64 0, .string ⟨#[]⟩] 30)) := (Below.refl _ w5).alloc (Nat.le_refl _) _
      have E13 := Bk.new w5 30 #[.int .i64 0, .bool false, .string ⟨#[]⟩, .int .i64 0, .string ⟨#[]⟩]
      rw [← hg13] at E13
      clear hg13 HG13
      have E10 := D10.later hbm
      have E4 := D4.later hbm
      have hbE := hbD.trans (hbm.mono (by have := D4.lt; omega))
      generalize w5.alloc (.cells #[.int .i64 0, .bool false, .string ⟨#[]⟩, .int .i64 0, .string ⟨#[]⟩] 30) = w6 at *
      refine (cR _).mono ?_
      rintro e w3 ⟨hb3, rfl⟩
      have F13 := E13.later hb3
      have F10 := E10.later hb3
      have F4 := E4.later hb3
      have hbF := hbE.trans (hb3.mono (by have := E4.lt; omega))
      clear E13 E10 E4 hb3 hbE D10 D4 hbD hbm C10 C4 hbC
      have x0 := F13.cell 0 rfl
      have xf0 := F13.frozen 0
      have x1 := F13.cell 1 rfl
      have xf1 := F13.frozen 1
      have x2 := F13.cell 2 rfl
      have xf2 := F13.frozen 2
      have x3 := F13.cell 3 rfl
      have xf3 := F13.frozen 3
      have x4 := F13.cell 4 rfl
      have xf4 := F13.frozen 4
      have y0 := F10.cell 0 rfl
      have yf0 := F10.frozen 0
      have y1 := F10.cell 1 rfl
      have yf1 := F10.frozen 1
      have y2 := F10.cell 2 rfl
      have yf2 := F10.frozen 2
      have y3 := F10.cell 3 rfl
      have yf3 := F10.frozen 3
      have y4 := F10.cell 4 rfl
      have yf4 := F10.frozen 4
      have z0 := F4.cell 0 rfl
      have zf0 := F4.frozen 0
      have z1 := F4.cell 1 rfl
      have zf1 := F4.frozen 1
      have z2 := F4.cell 2 rfl
      have zf2 := F4.frozen 2
      have z3 := F4.cell 3 rfl
      have zf3 := F4.frozen 3
      have z4 := F4.cell 4 rfl
      have zf4 := F4.frozen 4
      have HF4 : Hid (Bk w3 g4 30 zero5) := F4
      clear F4 F10 F13
      go_wp2
      have HBF : Hid (Below g4 w w3) := hbF
      refine bodyPost_ret (results_c3 rfl _ _ g4 30 (nmF n1 false) _ rfl (Bk.all5 (by (repeat (refine Bk.set_ne ?_ (by assumption))); exact HF4.out) _ _ _ _ _) Tryz.underlying30 rfl (by kernel_rfl)) rfl ?_
      refine ⟨?_, ?_⟩
      · rw [HG4.out]
        refine below_set (below_set (below_set (below_set (below_set ?_ (Nat.le_refl _) (by rw [HG4.out]; exact Nat.le_refl _)) (Nat.le_refl _) (by rw [HG4.out]; exact Nat.le_refl _)) (Nat.le_refl _) (by rw [HG4.out]; exact Nat.le_refl _)) (Nat.le_refl _) (by rw [HG4.out]; exact Nat.le_refl _)) (Nat.le_refl _) (by rw [HG4.out]; exact Nat.le_refl _)
        repeat (refine below_set ?_ (by omega) (by rw [HG4.out]; exact Nat.le_refl _))
        exact HBF.out
      · exact Or.inr ⟨p, HO.out, by rw [HN.out, HE1.out]; rfl⟩
    · skip
      have cD := fun w => (dec9_any s f 0 f false hs hkk hkb w).mono (fun e w' h => h.some hd)
      have cH := fun w => (hexa9_any s f 0 f false hs hkk hkb w).mono (fun e w' h => h.some hh)
      have cR := fun w => (rat9_any s f 0 f false hs hkk hkb w).mono (fun e w' h => h.none hr)
      have hng := hex_neg hh
      generalize hn0 : numR p = n1 at *
      generalize hn1 : numR q = n2 at *
      have HN : Hid (nmA (numR q) = nmF n2 false) := by unfold Hid; rw [hn1]; unfold nmA nmF; rw [← hn1]; show _ = #[_, _, _, _, _]; rw [← hng]; rfl
      clear hn0
      clear hn1 hng
      have hgt : ((f + p.stop : Nat) : Int) < ((f + q.stop : Nat) : Int) := by omega
      have HO : Hid _ := ho
      clear ho hd hh hr hkb
      generalize hE1 : f + p.stop = E1 at *
      generalize hE2 : f + q.stop = E2 at *
      have HE1 : Hid (f + p.stop = E1) := hE1
      clear hE1
      have HE2 : Hid (f + q.stop = E2) := hE2
      clear hE2
      unfold nmF at cD
      unfold nmF at cH
      unfold zero5 at cR
      go_enter Tryz.func61, Tryz.ntmps61
      go_wp2_with (go_at_call 72; refine (csg _).mono ?_; rintro e w' ⟨rfl, hw⟩; rw [hw])
      rw [show w.alloc (.cells #[.int .i64 0, .bool false, .string ⟨#[]⟩, .int .i64 0, .string ⟨#[]⟩] 30) = w0 from HW0.out.symm, show w.heap.size = g4 from HG4.out]
      refine (cD _).mono ?_
      rintro e w1 ⟨hb1, rfl⟩
      have B14 := HB0.out.later hb1
      have hbA := hb0.trans (hb1.mono (by rw [← HG4.out]; exact hb0.size))
      have BN := Bk.new w1 30 (nmF n1 false)
      have hbn : Below w1.heap.size w1 (w1.alloc (.cells (nmF n1 false) 30)) := (Below.refl _ w1).alloc (Nat.le_refl _) _
      have B24 := B14.later hbn
      have hl4 := B14.lt
      have hbX : g4 ≤ w1.heap.size := Nat.le_of_lt hl4
      obtain ⟨g10, hg10⟩ : ∃ g10, g10 = w1.heap.size := ⟨_, rfl⟩
      have hbB := hbA.trans (hbn.mono hbX)
      clear hbX
      unfold nmF at BN hbn hbB B24
      go_wp2_with fail
      obtain ⟨wa, hwa⟩ : ∃ wa, wa = w1.alloc (.cells #[.int .i64 n1.kind, .bool false, .string (str n1.num), .int .i64 n1.exp, .string (str n1.den)] 30) := ⟨_, rfl⟩
      rw [← hwa, ← hg10]
      rw [← hwa] at BN hbB B24
      rw [← hg10] at BN hl4
      clear hwa hbn B14 hb1 hg10
      refine (cH _).mono ?_
      rintro e w2 ⟨hb2, rfl⟩
      have C4 := B24.later hb2
      have C10 := BN.later hb2
      have hbC := hbB.trans (hb2.mono (by have := B24.lt; omega))
      have hl10 := C10.lt
      have ne1 : ¬ g4 = g10 := by omega
      have ne2 : ¬ g10 = g4 := by omega
      obtain ⟨g13, hg13⟩ : ∃ g13, g13 = w2.heap.size := ⟨_, rfl⟩
      have ne3 : ¬ g10 = g13 := by omega
      have ne4 : ¬ g13 = g10 := by omega
      have ne5 : ¬ g4 = g13 := by omega
      have ne6 : ¬ g13 = g4 := by omega
      have le13 : g4 ≤ g13 := by omega
      have le10 : g4 ≤ g10 := by omega
      have HG13 : Hid (g13 = w2.heap.size) := hg13
      have h13 : w2.heap.size = g13 := hg13.symm
      clear B24 BN hb2 hbB hg13
      have t0 := C10.cell 0 rfl
      have tf0 := C10.frozen 0
      have t1 := C10.cell 1 rfl
      have tf1 := C10.frozen 1
      have t2 := C10.cell 2 rfl
      have tf2 := C10.frozen 2
      have t3 := C10.cell 3 rfl
      have tf3 := C10.frozen 3
      have t4 := C10.cell 4 rfl
      have tf4 := C10.frozen 4
      have D10 := Bk.set (Bk.set (Bk.set (Bk.set (Bk.set C10 0 (.int .i64 n2.kind)) 1 (.bool false)) 2 (.string (str n2.num))) 3 (.int .i64 n2.exp)) 4 (.string (str n2.den))
      have T10 := Tn.all5 w2 g10 (.int .i64 n2.kind) (.bool false) (.string (str n2.num)) (.int .i64 n2.exp) (.string (str n2.den))
      have D4 := C4.tn T10 ne1
      have hbD := Tn.below hbC T10 (by omega) (by rw [HG4.out]; exact Nat.le_refl _)
      have HZ13 : Hid (w2.heap.size = (((((w2.setCell ⟨g10, 0, none⟩ (.int .i64 n2.kind)).setCell ⟨g10, 1, none⟩ (.bool false)).setCell ⟨g10, 2, none⟩ (.string (str n2.num))).setCell ⟨g10, 3, none⟩ (.int .i64 n2.exp)).setCell ⟨g10, 4, none⟩ (.string (str n2.den))).heap.size) := by simp [Hid, World.setCell]
      clear h13
      go_wp2_with fail
      have hg13 := HG13.out
      try rw [← hg13]
      rw [HZ13.out] at hg13
      clear HZ13
      generalize ((((w2.setCell ⟨g10, 0, none⟩ (.int .i64 n2.kind)).setCell ⟨g10, 1, none⟩ (.bool false)).setCell ⟨g10, 2, none⟩ (.string (str n2.num))).setCell ⟨g10, 3, none⟩ (.int .i64 n2.exp)).setCell ⟨g10, 4, none⟩ (.string (str n2.den)) = w5 at *
      have hbm : Below w5.heap.size w5 (w5.alloc (.cells #[.int .i64 n2.kind, .bool false, .string (str n2.num), .int .i64 n2.exp, .string (str n2.den)] 30)) := (Below.refl _ w5).alloc (Nat.le_refl _) _
      have E13 := Bk.new w5 30 #[.int .i64 n2.kind, .bool false, .string (str n2.num), .int .i64 n2.exp, .string (str n2.den)]
      rw [← hg13] at E13
      clear hg13 HG13
      have E10 := D10.later hbm
      have E4 := D4.later hbm
      have hbE := hbD.trans (hbm.mono (by have := D4.lt; omega))
      generalize w5.alloc (.cells #[.int .i64 n2.kind, .bool false, .string (str n2.num), .int .i64 n2.exp, .string (str n2.den)] 30) = w6 at *
      refine (cR _).mono ?_
      rintro e w3 ⟨hb3, rfl⟩
      have F13 := E13.later hb3
      have F10 := E10.later hb3
      have F4 := E4.later hb3
      have hbF := hbE.trans (hb3.mono (by have := E4.lt; omega))
      clear E13 E10 E4 hb3 hbE D10 D4 hbD hbm C10 C4 hbC
      have x0 := F13.cell 0 rfl
      have xf0 := F13.frozen 0
      have x1 := F13.cell 1 rfl
      have xf1 := F13.frozen 1
      have x2 := F13.cell 2 rfl
      have xf2 := F13.frozen 2
      have x3 := F13.cell 3 rfl
      have xf3 := F13.frozen 3
      have x4 := F13.cell 4 rfl
      have xf4 := F13.frozen 4
      have y0 := F10.cell 0 rfl
      have yf0 := F10.frozen 0
      have y1 := F10.cell 1 rfl
      have yf1 := F10.frozen 1
      have y2 := F10.cell 2 rfl
      have yf2 := F10.frozen 2
      have y3 := F10.cell 3 rfl
      have yf3 := F10.frozen 3
      have y4 := F10.cell 4 rfl
      have yf4 := F10.frozen 4
      have z0 := F4.cell 0 rfl
      have zf0 := F4.frozen 0
      have z1 := F4.cell 1 rfl
      have zf1 := F4.frozen 1
      have z2 := F4.cell 2 rfl
      have zf2 := F4.frozen 2
      have z3 := F4.cell 3 rfl
      have zf3 := F4.frozen 3
      have z4 := F4.cell 4 rfl
      have zf4 := F4.frozen 4
      have HF4 : Hid (Bk w3 g4 30 zero5) := F4
      clear F4 F10 F13
      go_wp2
      have HBF : Hid (Below g4 w w3) := hbF
      refine bodyPost_ret (results_c3 rfl _ _ g4 30 (nmF n2 false) _ rfl (Bk.all5 (by (repeat (refine Bk.set_ne ?_ (by assumption))); exact HF4.out) _ _ _ _ _) Tryz.underlying30 rfl (by kernel_rfl)) rfl ?_
      refine ⟨?_, ?_⟩
      · rw [HG4.out]
        refine below_set (below_set (below_set (below_set (below_set ?_ (Nat.le_refl _) (by rw [HG4.out]; exact Nat.le_refl _)) (Nat.le_refl _) (by rw [HG4.out]; exact Nat.le_refl _)) (Nat.le_refl _) (by rw [HG4.out]; exact Nat.le_refl _)) (Nat.le_refl _) (by rw [HG4.out]; exact Nat.le_refl _)) (Nat.le_refl _) (by rw [HG4.out]; exact Nat.le_refl _)
        repeat (refine below_set ?_ (by omega) (by rw [HG4.out]; exact Nat.le_refl _))
        exact HBF.out
      · exact Or.inr ⟨q, HO.out, by rw [HN.out, HE2.out]; rfl⟩
    · skip
      have cD := fun w => (dec9_any s f 0 f false hs hkk hkb w).mono (fun e w' h => h.some hd)
      have cH := fun w => (hexa9_any s f 0 f false hs hkk hkb w).mono (fun e w' h => h.none hh)
      have cR := fun w => (rat9_any s f 0 f false hs hkk hkb w).mono (fun e w' h => h.some hr)
      have hng := rat_neg hr
      generalize hn0 : numR p = n1 at *
      generalize hn1 : numR q = n2 at *
      have HN : Hid (nmA (numR q) = nmF n2 false) := by unfold Hid; rw [hn1]; unfold nmA nmF; rw [← hn1]; show _ = #[_, _, _, _, _]; rw [← hng]; rfl
      clear hn0
      clear hn1 hng
      have hgt : ((f + p.stop : Nat) : Int) < ((f + q.stop : Nat) : Int) := by omega
      have HO : Hid _ := ho
      clear ho hd hh hr hkb
      generalize hE1 : f + p.stop = E1 at *
      generalize hE2 : f + q.stop = E2 at *
      have HE1 : Hid (f + p.stop = E1) := hE1
      clear hE1
      have HE2 : Hid (f + q.stop = E2) := hE2
      clear hE2
      unfold nmF at cD
      unfold zero5 at cH
      unfold nmF at cR
      go_enter Tryz.func61, Tryz.ntmps61
      go_wp2_with (go_at_call 72; refine (csg _).mono ?_; rintro e w' ⟨rfl, hw⟩; rw [hw])
      rw [show w.alloc (.cells #[.int .i64 0, .bool false, .string ⟨#[]⟩, .int .i64 0, .string ⟨#[]⟩] 30) = w0 from HW0.out.symm, show w.heap.size = g4 from HG4.out]
      refine (cD _).mono ?_
      rintro e w1 ⟨hb1, rfl⟩
      have B14 := HB0.out.later hb1
      have hbA := hb0.trans (hb1.mono (by rw [← HG4.out]; exact hb0.size))
      have BN := Bk.new w1 30 (nmF n1 false)
      have hbn : Below w1.heap.size w1 (w1.alloc (.cells (nmF n1 false) 30)) := (Below.refl _ w1).alloc (Nat.le_refl _) _
      have B24 := B14.later hbn
      have hl4 := B14.lt
      have hbX : g4 ≤ w1.heap.size := Nat.le_of_lt hl4
      obtain ⟨g10, hg10⟩ : ∃ g10, g10 = w1.heap.size := ⟨_, rfl⟩
      have hbB := hbA.trans (hbn.mono hbX)
      clear hbX
      unfold nmF at BN hbn hbB B24
      go_wp2_with fail
      obtain ⟨wa, hwa⟩ : ∃ wa, wa = w1.alloc (.cells #[.int .i64 n1.kind, .bool false, .string (str n1.num), .int .i64 n1.exp, .string (str n1.den)] 30) := ⟨_, rfl⟩
      rw [← hwa, ← hg10]
      rw [← hwa] at BN hbB B24
      rw [← hg10] at BN hl4
      clear hwa hbn B14 hb1 hg10
      refine (cH _).mono ?_
      rintro e w2 ⟨hb2, rfl⟩
      have C4 := B24.later hb2
      have C10 := BN.later hb2
      have hbC := hbB.trans (hb2.mono (by have := B24.lt; omega))
      have hl10 := C10.lt
      have ne1 : ¬ g4 = g10 := by omega
      have ne2 : ¬ g10 = g4 := by omega
      obtain ⟨g13, hg13⟩ : ∃ g13, g13 = w2.heap.size := ⟨_, rfl⟩
      have ne3 : ¬ g10 = g13 := by omega
      have ne4 : ¬ g13 = g10 := by omega
      have ne5 : ¬ g4 = g13 := by omega
      have ne6 : ¬ g13 = g4 := by omega
      have le13 : g4 ≤ g13 := by omega
      have le10 : g4 ≤ g10 := by omega
      have HG13 : Hid (g13 = w2.heap.size) := hg13
      have h13 : w2.heap.size = g13 := hg13.symm
      clear B24 BN hb2 hbB hg13
      have t0 := C10.cell 0 rfl
      have tf0 := C10.frozen 0
      have t1 := C10.cell 1 rfl
      have tf1 := C10.frozen 1
      have t2 := C10.cell 2 rfl
      have tf2 := C10.frozen 2
      have t3 := C10.cell 3 rfl
      have tf3 := C10.frozen 3
      have t4 := C10.cell 4 rfl
      have tf4 := C10.frozen 4
      clear h13
      go_wp2_with fail
      have hg13 := HG13.out
      try rw [← hg13]
      have D10 := C10
      have D4 := C4
      have hbD := hbC
      obtain ⟨w5, hw5⟩ : ∃ w5, w5 = w2 := ⟨_, rfl⟩
      rw [← hw5]
      rw [← hw5] at D10 D4 hbD hg13
      clear hw5
      have hbm : Below w5.heap.size w5 (w5.alloc (.cells #[.int .i64 0, .bool false, .string ⟨#[]⟩, .int .i64 0, .string ⟨#[]⟩] 30)) := (Below.refl _ w5).alloc (Nat.le_refl _) _
      have E13 := Bk.new w5 30 #[.int .i64 0, .bool false, .string ⟨#[]⟩, .int .i64 0, .string ⟨#[]⟩]
      rw [← hg13] at E13
      clear hg13 HG13
      have E10 := D10.later hbm
      have E4 := D4.later hbm
      have hbE := hbD.trans (hbm.mono (by have := D4.lt; omega))
      generalize w5.alloc (.cells #[.int .i64 0, .bool false, .string ⟨#[]⟩, .int .i64 0, .string ⟨#[]⟩] 30) = w6 at *
      refine (cR _).mono ?_
      rintro e w3 ⟨hb3, rfl⟩
      have F13 := E13.later hb3
      have F10 := E10.later hb3
      have F4 := E4.later hb3
      have hbF := hbE.trans (hb3.mono (by have := E4.lt; omega))
      clear E13 E10 E4 hb3 hbE D10 D4 hbD hbm C10 C4 hbC
      have x0 := F13.cell 0 rfl
      have xf0 := F13.frozen 0
      have x1 := F13.cell 1 rfl
      have xf1 := F13.frozen 1
      have x2 := F13.cell 2 rfl
      have xf2 := F13.frozen 2
      have x3 := F13.cell 3 rfl
      have xf3 := F13.frozen 3
      have x4 := F13.cell 4 rfl
      have xf4 := F13.frozen 4
      have y0 := F10.cell 0 rfl
      have yf0 := F10.frozen 0
      have y1 := F10.cell 1 rfl
      have yf1 := F10.frozen 1
      have y2 := F10.cell 2 rfl
      have yf2 := F10.frozen 2
      have y3 := F10.cell 3 rfl
      have yf3 := F10.frozen 3
      have y4 := F10.cell 4 rfl
      have yf4 := F10.frozen 4
      have z0 := F4.cell 0 rfl
      have zf0 := F4.frozen 0
      have z1 := F4.cell 1 rfl
      have zf1 := F4.frozen 1
      have z2 := F4.cell 2 rfl
      have zf2 := F4.frozen 2
      have z3 := F4.cell 3 rfl
      have zf3 := F4.frozen 3
      have z4 := F4.cell 4 rfl
      have zf4 := F4.frozen 4
      go_upto_region 17 with (fail)
      have T13 := Tn.all5 w3 g13 (.int .i64 n2.kind) (.bool false) (.string (str n2.num)) (.int .i64 n2.exp) (.string (str n2.den))
      have G13 := Bk.all5 F13 (.int .i64 n2.kind) (.bool false) (.string (str n2.num)) (.int .i64 n2.exp) (.string (str n2.den))
      have G10 := F10.tn T13 ne3
      have G4 := F4.tn T13 ne5
      have hbG := Tn.below hbF T13 le13 (by rw [HG4.out]; exact Nat.le_refl _)
      clear x0 xf0 x1 xf1 x2 xf2 x3 xf3 x4 xf4 y0 yf0 y1 yf1 y2 yf2 y3 yf3 y4 yf4 z0 zf0 z1 zf1 z2 zf2 z3 zf3 z4 zf4 F4 F10 F13 hbF T13
      generalize ((((w3.setCell ⟨g13, 0, none⟩ (.int .i64 n2.kind)).setCell ⟨g13, 1, none⟩ (.bool false)).setCell ⟨g13, 2, none⟩ (.string (str n2.num))).setCell ⟨g13, 3, none⟩ (.int .i64 n2.exp)).setCell ⟨g13, 4, none⟩ (.string (str n2.den)) = w7 at *
      have x0 := G13.cell 0 rfl
      have xf0 := G13.frozen 0
      have x1 := G13.cell 1 rfl
      have xf1 := G13.frozen 1
      have x2 := G13.cell 2 rfl
      have xf2 := G13.frozen 2
      have x3 := G13.cell 3 rfl
      have xf3 := G13.frozen 3
      have x4 := G13.cell 4 rfl
      have xf4 := G13.frozen 4
      have y0 := G10.cell 0 rfl
      have yf0 := G10.frozen 0
      have y1 := G10.cell 1 rfl
      have yf1 := G10.frozen 1
      have y2 := G10.cell 2 rfl
      have yf2 := G10.frozen 2
      have y3 := G10.cell 3 rfl
      have yf3 := G10.frozen 3
      have y4 := G10.cell 4 rfl
      have yf4 := G10.frozen 4
      have z0 := G4.cell 0 rfl
      have zf0 := G4.frozen 0
      have z1 := G4.cell 1 rfl
      have zf1 := G4.frozen 1
      have z2 := G4.cell 2 rfl
      have zf2 := G4.frozen 2
      have z3 := G4.cell 3 rfl
      have zf3 := G4.frozen 3
      have z4 := G4.cell 4 rfl
      have zf4 := G4.frozen 4
      go_upto_region 24 with (fail)
      have T10 := (Tn.all5 w7 g10 (.int .i64 n2.kind) (.bool false) (.string (str n2.num)) (.int .i64 n2.exp) (.string (str n2.den))).set 1 (.bool false)
      have J10 := Bk.six G10 (.int .i64 n2.kind) (.bool false) (.string (str n2.num)) (.int .i64 n2.exp) (.string (str n2.den)) (.bool false)
      have J4 := G4.tn T10 ne1
      have hbJ := Tn.below hbG T10 le10 (by rw [HG4.out]; exact Nat.le_refl _)
      clear x0 xf0 x1 xf1 x2 xf2 x3 xf3 x4 xf4 y0 yf0 y1 yf1 y2 yf2 y3 yf3 y4 yf4 z0 zf0 z1 zf1 z2 zf2 z3 zf3 z4 zf4 G4 G10 G13 hbG T10
      generalize (((((w7.setCell ⟨g10, 0, none⟩ (.int .i64 n2.kind)).setCell ⟨g10, 1, none⟩ (.bool false)).setCell ⟨g10, 2, none⟩ (.string (str n2.num))).setCell ⟨g10, 3, none⟩ (.int .i64 n2.exp)).setCell ⟨g10, 4, none⟩ (.string (str n2.den))).setCell ⟨g10, 1, none⟩ (.bool false) = w8 at *
      have y0 := J10.cell 0 rfl
      have y1 := J10.cell 1 rfl
      have y2 := J10.cell 2 rfl
      have y3 := J10.cell 3 rfl
      have y4 := J10.cell 4 rfl
      have z0 := J4.cell 0 rfl
      have zf0 := J4.frozen 0
      have z1 := J4.cell 1 rfl
      have zf1 := J4.frozen 1
      have z2 := J4.cell 2 rfl
      have zf2 := J4.frozen 2
      have z3 := J4.cell 3 rfl
      have zf3 := J4.frozen 3
      have z4 := J4.cell 4 rfl
      have zf4 := J4.frozen 4
      have HF4 : Hid (Bk w8 g4 30 zero5) := J4
      have hbF := hbJ
      clear J4 J10 hbJ
      go_wp2
      have HBF : Hid (Below g4 w w8) := hbF
      refine bodyPost_ret (results_c3 rfl _ _ g4 30 (nmF n2 false) _ rfl (Bk.all5 (by (repeat (refine Bk.set_ne ?_ (by assumption))); exact HF4.out) _ _ _ _ _) Tryz.underlying30 rfl (by kernel_rfl)) rfl ?_
      refine ⟨?_, ?_⟩
      · rw [HG4.out]
        refine below_set (below_set (below_set (below_set (below_set ?_ (Nat.le_refl _) (by rw [HG4.out]; exact Nat.le_refl _)) (Nat.le_refl _) (by rw [HG4.out]; exact Nat.le_refl _)) (Nat.le_refl _) (by rw [HG4.out]; exact Nat.le_refl _)) (Nat.le_refl _) (by rw [HG4.out]; exact Nat.le_refl _)) (Nat.le_refl _) (by rw [HG4.out]; exact Nat.le_refl _)
        repeat (refine below_set ?_ (by omega) (by rw [HG4.out]; exact Nat.le_refl _))
        exact HBF.out
      · exact Or.inr ⟨q, HO.out, by rw [HN.out, HE2.out]; rfl⟩
  · have hli : ¬ (f : Int) < (s.size : Int) := by omega
    clear hsg
    rcases all_three false 0 (s.data.toList.drop f) with ⟨hd, hh, hr, ho⟩ | ⟨p, hd, hh, hr, ho⟩ | ⟨p, q, hd, hh, hr, hlt, ho⟩ | ⟨p, q, hd, hh, hr, hlt, ho⟩
    · skip
      have cD := fun w => (dec9_any s f 0 f false hs hkk hkb w).mono (fun e w' h => h.none hd)
      have cH := fun w => (hexa9_any s f 0 f false hs hkk hkb w).mono (fun e w' h => h.none hh)
      have cR := fun w => (rat9_any s f 0 f false hs hkk hkb w).mono (fun e w' h => h.none hr)
      have HO : Hid _ := ho
      clear ho hd hh hr hkb
      unfold zero5 at cD
      unfold zero5 at cH
      unfold zero5 at cR
      go_enter Tryz.func61, Tryz.ntmps61
      go_wp2_with fail
      rw [show w.alloc (.cells #[.int .i64 0, .bool false, .string ⟨#[]⟩, .int .i64 0, .string ⟨#[]⟩] 30) = w0 from HW0.out.symm, show w.heap.size = g4 from HG4.out]
      refine (cD _).mono ?_
      rintro e w1 ⟨hb1, rfl⟩
      have B14 := HB0.out.later hb1
      have hbA := hb0.trans (hb1.mono (by rw [← HG4.out]; exact hb0.size))
      have BN := Bk.new w1 30 zero5
      have hbn : Below w1.heap.size w1 (w1.alloc (.cells zero5 30)) := (Below.refl _ w1).alloc (Nat.le_refl _) _
      have B24 := B14.later hbn
      have hl4 := B14.lt
      have hbX : g4 ≤ w1.heap.size := Nat.le_of_lt hl4
      obtain ⟨g10, hg10⟩ : ∃ g10, g10 = w1.heap.size := ⟨_, rfl⟩
      have hbB := hbA.trans (hbn.mono hbX)
      clear hbX
      unfold zero5 at BN hbn hbB B24
      go_wp2_with fail
      obtain ⟨wa, hwa⟩ : ∃ wa, wa = w1.alloc (.cells #[.int .i64 0, .bool false, .string ⟨#[]⟩, .int .i64 0, .string ⟨#[]⟩] 30) := ⟨_, rfl⟩
      rw [← hwa, ← hg10]
      rw [← hwa] at BN hbB B24
      rw [← hg10] at BN hl4
      clear hwa hbn B14 hb1 hg10
      refine (cH _).mono ?_
      rintro e w2 ⟨hb2, rfl⟩
      have C4 := B24.later hb2
      have C10 := BN.later hb2
      have hbC := hbB.trans (hb2.mono (by have := B24.lt; omega))
      have hl10 := C10.lt
      have ne1 : ¬ g4 = g10 := by omega
      have ne2 : ¬ g10 = g4 := by omega
      obtain ⟨g13, hg13⟩ : ∃ g13, g13 = w2.heap.size := ⟨_, rfl⟩
      have ne3 : ¬ g10 = g13 := by omega
      have ne4 : ¬ g13 = g10 := by omega
      have ne5 : ¬ g4 = g13 := by omega
      have ne6 : ¬ g13 = g4 := by omega
      have le13 : g4 ≤ g13 := by omega
      have le10 : g4 ≤ g10 := by omega
      have HG13 : Hid (g13 = w2.heap.size) := hg13
      have h13 : w2.heap.size = g13 := hg13.symm
      clear B24 BN hb2 hbB hg13
      have t0 := C10.cell 0 rfl
      have tf0 := C10.frozen 0
      have t1 := C10.cell 1 rfl
      have tf1 := C10.frozen 1
      have t2 := C10.cell 2 rfl
      have tf2 := C10.frozen 2
      have t3 := C10.cell 3 rfl
      have tf3 := C10.frozen 3
      have t4 := C10.cell 4 rfl
      have tf4 := C10.frozen 4
      clear h13
      go_wp2_with fail
      have hg13 := HG13.out
      try rw [← hg13]
      have D10 := C10
      have D4 := C4
      have hbD := hbC
      obtain ⟨w5, hw5⟩ : ∃ w5, w5 = w2 := ⟨_, rfl⟩
      rw [← hw5]
      rw [← hw5] at D10 D4 hbD hg13
      clear hw5
      have hbm : Below w5.heap.size w5 (w5.alloc (.cells #[.int .i64 0, .bool false, .string ⟨#[]⟩, .int .i64 0, .string ⟨#[]⟩] 30)) := (Below.refl _ w5).alloc (Nat.le_refl _) _
      have E13 := Bk.new w5 30 #[.int .i64 0, .bool false, .string ⟨#[]⟩, .int .i64 0, .string ⟨#[]⟩]
      rw [← hg13] at E13
      clear hg13 HG13
      have E10 := D10.later hbm
      have E4 := D4.later hbm
      have hbE := hbD.trans (hbm.mono (by have := D4.lt; omega))
      generalize w5.alloc (.cells #[.int .i64 0, .bool false, .string ⟨#[]⟩, .int .i64 0, .string ⟨#[]⟩] 30) = w6 at *
      refine (cR _).mono ?_
      rintro e w3 ⟨hb3, rfl⟩
      have F13 := E13.later hb3
      have F10 := E10.later hb3
      have F4 := E4.later hb3
      have hbF := hbE.trans (hb3.mono (by have := E4.lt; omega))
      clear E13 E10 E4 hb3 hbE D10 D4 hbD hbm C10 C4 hbC
      have x0 := F13.cell 0 rfl
      have xf0 := F13.frozen 0
      have x1 := F13.cell 1 rfl
      have xf1 := F13.frozen 1
      have x2 := F13.cell 2 rfl
      have xf2 := F13.frozen 2
      have x3 := F13.cell 3 rfl
      have xf3 := F13.frozen 3
      have x4 := F13.cell 4 rfl
      have xf4 := F13.frozen 4
      have y0 := F10.cell 0 rfl
      have yf0 := F10.frozen 0
      have y1 := F10.cell 1 rfl
      have yf1 := F10.frozen 1
      have y2 := F10.cell 2 rfl
      have yf2 := F10.frozen 2
      have y3 := F10.cell 3 rfl
      have yf3 := F10.frozen 3
      have y4 := F10.cell 4 rfl
      have yf4 := F10.frozen 4
      have z0 := F4.cell 0 rfl
      have zf0 := F4.frozen 0
      have z1 := F4.cell 1 rfl
      have zf1 := F4.frozen 1
      have z2 := F4.cell 2 rfl
      have zf2 := F4.frozen 2
      have z3 := F4.cell 3 rfl
      have zf3 := F4.frozen 3
      have z4 := F4.cell 4 rfl
      have zf4 := F4.frozen 4
      have HF4 : Hid (Bk w3 g4 30 zero5) := F4
      clear F4 F10 F13
      go_wp2
      have HBF : Hid (Below g4 w w3) := hbF
      refine bodyPost_ret (results_c3 rfl _ _ g4 30 (nmA nmZ) _ rfl (Bk.all5 (by (repeat (refine Bk.set_ne ?_ (by assumption))); exact HF4.out) _ _ _ _ _) Tryz.underlying30 rfl (by kernel_rfl)) rfl ?_
      refine ⟨?_, ?_⟩
      · rw [HG4.out]
        refine below_set (below_set (below_set (below_set (below_set ?_ (Nat.le_refl _) (by rw [HG4.out]; exact Nat.le_refl _)) (Nat.le_refl _) (by rw [HG4.out]; exact Nat.le_refl _)) (Nat.le_refl _) (by rw [HG4.out]; exact Nat.le_refl _)) (Nat.le_refl _) (by rw [HG4.out]; exact Nat.le_refl _)) (Nat.le_refl _) (by rw [HG4.out]; exact Nat.le_refl _)
        repeat (refine below_set ?_ (by omega) (by rw [HG4.out]; exact Nat.le_refl _))
        exact HBF.out
      · exact Or.inl ⟨HO.out, rfl⟩
    · skip
      have cD := fun w => (dec9_any s f 0 f false hs hkk hkb w).mono (fun e w' h => h.some hd)
      have cH := fun w => (hexa9_any s f 0 f false hs hkk hkb w).mono (fun e w' h => h.none hh)
      have cR := fun w => (rat9_any s f 0 f false hs hkk hkb w).mono (fun e w' h => h.none hr)
      have hng := dec_neg hd
      generalize hn1 : numR p = n1 at *
      have HN : Hid (nmA (numR p) = nmF n1 false) := by unfold Hid; rw [hn1]; unfold nmA nmF; rw [← hn1]; show _ = #[_, _, _, _, _]; rw [← hng]; rfl
      clear hn1 hng
      have HO : Hid _ := ho
      clear ho hd hh hr hkb
      generalize hE1 : f + p.stop = E1 at *
      have HE1 : Hid (f + p.stop = E1) := hE1
      clear hE1
      unfold nmF at cD
      unfold zero5 at cH
      unfold zero5 at cR
      go_enter Tryz.func61, Tryz.ntmps61
      go_wp2_with fail
      rw [show w.alloc (.cells #[.int .i64 0, .bool false, .string ⟨#[]⟩, .int .i64 0, .string ⟨#[]⟩] 30) = w0 from HW0.out.symm, show w.heap.size = g4 from HG4.out]
      refine (cD _).mono ?_
      rintro e w1 ⟨hb1, rfl⟩
      have B14 := HB0.out.later hb1
      have hbA := hb0.trans (hb1.mono (by rw [← HG4.out]; exact hb0.size))
      have BN := Bk.new w1 30 (nmF n1 false)
      have hbn : Below w1.heap.size w1 (w1.alloc (.cells (nmF n1 false) 30)) := (Below.refl _ w1).alloc (Nat.le_refl _) _
      have B24 := B14.later hbn
      have hl4 := B14.lt
      have hbX : g4 ≤ w1.heap.size := Nat.le_of_lt hl4
      obtain ⟨g10, hg10⟩ : ∃ g10, g10 = w1.heap.size := ⟨_, rfl⟩
      have hbB := hbA.trans (hbn.mono hbX)
      clear hbX
      unfold nmF at BN hbn hbB B24
      go_wp2_with fail
      obtain ⟨wa, hwa⟩ : ∃ wa, wa = w1.alloc (.cells #[.int .i64 n1.kind, .bool false, .string (str n1.num), .int .i64 n1.exp, .string (str n1.den)] 30) := ⟨_, rfl⟩
      rw [← hwa, ← hg10]
      rw [← hwa] at BN hbB B24
      rw [← hg10] at BN hl4
      clear hwa hbn B14 hb1 hg10
      refine (cH _).mono ?_
      rintro e w2 ⟨hb2, rfl⟩
      have C4 := B24.later hb2
      have C10 := BN.later hb2
      have hbC := hbB.trans (hb2.mono (by have := B24.lt; omega))
      have hl10 := C10.lt
      have ne1 : ¬ g4 = g10 := by omega
      have ne2 : ¬ g10 = g4 := by omega
      obtain ⟨g13, hg13⟩ : ∃ g13, g13 = w2.heap.size := ⟨_, rfl⟩
      have ne3 : ¬ g10 = g13 := by omega
      have ne4 : ¬ g13 = g10 := by omega
      have ne5 : ¬ g4 = g13 := by omega
      have ne6 : ¬ g13 = g4 := by omega
      have le13 : g4 ≤ g13 := by omega
      have le10 : g4 ≤ g10 := by omega
      have HG13 : Hid (g13 = w2.heap.size) := hg13
      have h13 : w2.heap.size = g13 := hg13.symm
      clear B24 BN hb2 hbB hg13
      have t0 := C10.cell 0 rfl
      have tf0 := C10.frozen 0
      have t1 := C10.cell 1 rfl
      have tf1 := C10.frozen 1
      have t2 := C10.cell 2 rfl
      have tf2 := C10.frozen 2
      have t3 := C10.cell 3 rfl
      have tf3 := C10.frozen 3
      have t4 := C10.cell 4 rfl
      have tf4 := C10.frozen 4
      clear h13
      go_wp2_with fail
      have hg13 := HG13.out
      try rw [← hg13]
      have D10 := C10
      have D4 := C4
      have hbD := hbC
      obtain ⟨w5, hw5⟩ : ∃ w5, w5 = w2 := ⟨_, rfl⟩
      rw [← hw5]
      rw [← hw5] at D10 D4 hbD hg13
      clear hw5
      have hbm : Below w5.heap.size w5 (w5.alloc (.cells #[.int .i64 0, .bool false, .string ⟨#[]⟩, .int .i64 0, .string ⟨#[]⟩] 30)) := (Below.refl _ w5).alloc (Nat.le_refl _) _
      have E13 := Bk.new w5 30 #[.int .i64 0, .bool false, .string ⟨#[]⟩, .int .i64 0, .string ⟨#[]⟩]
      rw [← hg13] at E13
      clear hg13 HG13
      have E10 := D10.later hbm
      have E4 := D4.later hbm
      have hbE := hbD.trans (hbm.mono (by have := D4.lt; omega))
      generalize w5.alloc (.cells #[.int .i64 0, .bool false, .string ⟨#[]⟩, .int .i64 0, .string ⟨#[]⟩] 30) = w6 at *
      refine (cR _).mono ?_
      rintro e w3 ⟨hb3, rfl⟩
      have F13 := E13.later hb3
      have F10 := E10.later hb3
      have F4 := E4.later hb3
      have hbF := hbE.trans (hb3.mono (by have := E4.lt; omega))
      clear E13 E10 E4 hb3 hbE D10 D4 hbD hbm C10 C4 hbC
      have x0 := F13.cell 0 rfl
      have xf0 := F13.frozen 0
      have x1 := F13.cell 1 rfl
      have xf1 := F13.frozen 1
      have x2 := F13.cell 2 rfl
      have xf2 := F13.frozen 2
      have x3 := F13.cell 3 rfl
      have xf3 := F13.frozen 3
      have x4 := F13.cell 4 rfl
      have xf4 := F13.frozen 4
      have y0 := F10.cell 0 rfl
      have yf0 := F10.frozen 0
      have y1 := F10.cell 1 rfl
      have yf1 := F10.frozen 1
      have y2 := F10.cell 2 rfl
      have yf2 := F10.frozen 2
      have y3 := F10.cell 3 rfl
      have yf3 := F10.frozen 3
      have y4 := F10.cell 4 rfl
      have yf4 := F10.frozen 4
      have z0 := F4.cell 0 rfl
      have zf0 := F4.frozen 0
      have z1 := F4.cell 1 rfl
      have zf1 := F4.frozen 1
      have z2 := F4.cell 2 rfl
      have zf2 := F4.frozen 2
      have z3 := F4.cell 3 rfl
      have zf3 := F4.frozen 3
      have z4 := F4.cell 4 rfl
      have zf4 := F4.frozen 4
      have HF4 : Hid (Bk w3 g4 30 zero5) := F4
      clear F4 F10 F13
      go_wp2
      have HBF : Hid (Below g4 w w3) := hbF
      refine bodyPost_ret (results_c3 rfl _ _ g4 30 (nmF n1 false) _ rfl (Bk.all5 (by (repeat (refine Bk.set_ne ?_ (by assumption))); exact HF4.out) _ _ _ _ _) Tryz.underlying30 rfl (by kernel_rfl)) rfl ?_
      refine ⟨?_, ?_⟩
      · rw [HG4.out]
        refine below_set (below_set (below_set (below_set (below_set ?_ (Nat.le_refl _) (by rw [HG4.out]; exact Nat.le_refl _)) (Nat.le_refl _) (by rw [HG4.out]; exact Nat.le_refl _)) (Nat.le_refl _) (by rw [HG4.out]; exact Nat.le_refl _)) (Nat.le_refl _) (by rw [HG4.out]; exact Nat.le_refl _)) (Nat.le_refl _) (by rw [HG4.out]; exact Nat.le_refl _)
        repeat (refine below_set ?_ (by omega) (by rw [HG4.out]; exact Nat.le_refl _))
        exact HBF.out
      · exact Or.inr ⟨p, HO.out, by rw [HN.out, HE1.out]; rfl⟩
    · skip
      have cD := fun w => (dec9_any s f 0 f false hs hkk hkb w).mono (fun e w' h => h.some hd)
      have cH := fun w => (hexa9_any s f 0 f false hs hkk hkb w).mono (fun e w' h => h.some hh)
      have cR := fun w => (rat9_any s f 0 f false hs hkk hkb w).mono (fun e w' h => h.none hr)
      have hng := hex_neg hh
      generalize hn0 : numR p = n1 at *
      generalize hn1 : numR q = n2 at *
      have HN : Hid (nmA (numR q) = nmF n2 false) := by unfold Hid; rw [hn1]; unfold nmA nmF; rw [← hn1]; show _ = #[_, _, _, _, _]; rw [← hng]; rfl
      clear hn0
      clear hn1 hng
      have hgt : ((f + p.stop : Nat) : Int) < ((f + q.stop : Nat) : Int) := by omega
      have HO : Hid _ := ho
      clear ho hd hh hr hkb
      generalize hE1 : f + p.stop = E1 at *
      generalize hE2 : f + q.stop = E2 at *
      have HE1 : Hid (f + p.stop = E1) := hE1
      clear hE1
      have HE2 : Hid (f + q.stop = E2) := hE2
      clear hE2
      unfold nmF at cD
      unfold nmF at cH
      unfold zero5 at cR
      go_enter Tryz.func61, Tryz.ntmps61
      go_wp2_with fail
      rw [show w.alloc (.cells #[.int .i64 0, .bool false, .string ⟨#[]⟩, .int .i64 0, .string ⟨#[]⟩] 30) = w0 from HW0.out.symm, show w.heap.size = g4 from HG4.out]
      refine (cD _).mono ?_
      rintro e w1 ⟨hb1, rfl⟩
      have B14 := HB0.out.later hb1
      have hbA := hb0.trans (hb1.mono (by rw [← HG4.out]; exact hb0.size))
      have BN := Bk.new w1 30 (nmF n1 false)
      have hbn : Below w1.heap.size w1 (w1.alloc (.cells (nmF n1 false) 30)) := (Below.refl _ w1).alloc (Nat.le_refl _) _
      have B24 := B14.later hbn
      have hl4 := B14.lt
      have hbX : g4 ≤ w1.heap.size := Nat.le_of_lt hl4
      obtain ⟨g10, hg10⟩ : ∃ g10, g10 = w1.heap.size := ⟨_, rfl⟩
      have hbB := hbA.trans (hbn.mono hbX)
      clear hbX
      unfold nmF at BN hbn hbB B24
      go_wp2_with fail
      obtain ⟨wa, hwa⟩ : ∃ wa, wa = w1.alloc (.cells #[.int .i64 n1.kind, .bool false, .string (str n1.num), .int .i64 n1.exp, .string (str n1.den)] 30) := ⟨_, rfl⟩
      rw [← hwa, ← hg10]
      rw [← hwa] at BN hbB B24
      rw [← hg10] at BN hl4
      clear hwa hbn B14 hb1 hg10
      refine (cH _).mono ?_
      rintro e w2 ⟨hb2, rfl⟩
      have C4 := B24.later hb2
      have C10 := BN.later hb2
      have hbC := hbB.trans (hb2.mono (by have := B24.lt; omega))
      have hl10 := C10.lt
      have ne1 : ¬ g4 = g10 := by omega
      have ne2 : ¬ g10 = g4 := by omega
      obtain ⟨g13, hg13⟩ : ∃ g13, g13 = w2.heap.size := ⟨_, rfl⟩
      have ne3 : ¬ g10 = g13 := by omega
      have ne4 : ¬ g13 = g10 := by omega
      have ne5 : ¬ g4 = g13 := by omega
      have ne6 : ¬ g13 = g4 := by omega
      have le13 : g4 ≤ g13 := by omega
      have le10 : g4 ≤ g10 := by omega
      have HG13 : Hid (g13 = w2.heap.size) := hg13
      have h13 : w2.heap.size = g13 := hg13.symm
      clear B24 BN hb2 hbB hg13
      have t0 := C10.cell 0 rfl
      have tf0 := C10.frozen 0
      have t1 := C10.cell 1 rfl
      have tf1 := C10.frozen 1
      have t2 := C10.cell 2 rfl
      have tf2 := C10.frozen 2
      have t3 := C10.cell 3 rfl
      have tf3 := C10.frozen 3
      have t4 := C10.cell 4 rfl
      have tf4 := C10.frozen 4
      have D10 := Bk.set (Bk.set (Bk.set (Bk.set (Bk.set C10 0 (.int .i64 n2.kind)) 1 (.bool false)) 2 (.string (str n2.num))) 3 (.int .i64 n2.exp)) 4 (.string (str n2.den))
      have T10 := Tn.all5 w2 g10 (.int .i64 n2.kind) (.bool false) (.string (str n2.num)) (.int .i64 n2.exp) (.string (str n2.den))
      have D4 := C4.tn T10 ne1
      have hbD := Tn.below hbC T10 (by omega) (by rw [HG4.out]; exact Nat.le_refl _)
      have HZ13 : Hid (w2.heap.size = (((((w2.setCell ⟨g10, 0, none⟩ (.int .i64 n2.kind)).setCell ⟨g10, 1, none⟩ (.bool false)).setCell ⟨g10, 2, none⟩ (.string (str n2.num))).setCell ⟨g10, 3, none⟩ (.int .i64 n2.exp)).setCell ⟨g10, 4, none⟩ (.string (str n2.den))).heap.size) := by simp [Hid, World.setCell]
      clear h13
      go_wp2_with fail
      have hg13 := HG13.out
      try rw [← hg13]
      rw [HZ13.out] at hg13
      clear HZ13
      generalize ((((w2.setCell ⟨g10, 0, none⟩ (.int .i64 n2.kind)).setCell ⟨g10, 1, none⟩ (.bool false)).setCell ⟨g10, 2, none⟩ (.string (str n2.num))).setCell ⟨g10, 3, none⟩ (.int .i64 n2.exp)).setCell ⟨g10, 4, none⟩ (.string (str n2.den)) = w5 at *
      have hbm : Below w5.heap.size w5 (w5.alloc (.cells #[.int .i64 n2.kind, .bool false, .string (str n2.num), .int .i64 n2.exp, .string (str n2.den)] 30)) := (Below.refl _ w5).alloc (Nat.le_refl _) _
      have E13 := Bk.new w5 30 #[.int .i64 n2.kind, .bool false, .string (str n2.num), .int .i64 n2.exp, .string (str n2.den)]
      rw [← hg13] at E13
      clear hg13 HG13
      have E10 := D10.later hbm
      have E4 := D4.later hbm
      have hbE := hbD.trans (hbm.mono (by have := D4.lt; omega))
      generalize w5.alloc (.cells #[.int .i64 n2.kind, .bool false, .string (str n2.num), .int .i64 n2.exp, .string (str n2.den)] 30) = w6 at *
      refine (cR _).mono ?_
      rintro e w3 ⟨hb3, rfl⟩
      have F13 := E13.later hb3
      have F10 := E10.later hb3
      have F4 := E4.later hb3
      have hbF := hbE.trans (hb3.mono (by have := E4.lt; omega))
      clear E13 E10 E4 hb3 hbE D10 D4 hbD hbm C10 C4 hbC
      have x0 := F13.cell 0 rfl
      have xf0 := F13.frozen 0
      have x1 := F13.cell 1 rfl
      have xf1 := F13.frozen 1
      have x2 := F13.cell 2 rfl
      have xf2 := F13.frozen 2
      have x3 := F13.cell 3 rfl
      have xf3 := F13.frozen 3
      have x4 := F13.cell 4 rfl
      have xf4 := F13.frozen 4
      have y0 := F10.cell 0 rfl
      have yf0 := F10.frozen 0
      have y1 := F10.cell 1 rfl
      have yf1 := F10.frozen 1
      have y2 := F10.cell 2 rfl
      have yf2 := F10.frozen 2
      have y3 := F10.cell 3 rfl
      have yf3 := F10.frozen 3
      have y4 := F10.cell 4 rfl
      have yf4 := F10.frozen 4
      have z0 := F4.cell 0 rfl
      have zf0 := F4.frozen 0
      have z1 := F4.cell 1 rfl
      have zf1 := F4.frozen 1
      have z2 := F4.cell 2 rfl
      have zf2 := F4.frozen 2
      have z3 := F4.cell 3 rfl
      have zf3 := F4.frozen 3
      have z4 := F4.cell 4 rfl
      have zf4 := F4.frozen 4
      have HF4 : Hid (Bk w3 g4 30 zero5) := F4
      clear F4 F10 F13
      go_wp2
      have HBF : Hid (Below g4 w w3) := hbF
      refine bodyPost_ret (results_c3 rfl _ _ g4 30 (nmF n2 false) _ rfl (Bk.all5 (by (repeat (refine Bk.set_ne ?_ (by assumption))); exact HF4.out) _ _ _ _ _) Tryz.underlying30 rfl (by kernel_rfl)) rfl ?_
      refine ⟨?_, ?_⟩
      · rw [HG4.out]
        refine below_set (below_set (below_set (below_set (below_set ?_ (Nat.le_refl _) (by rw [HG4.out]; exact Nat.le_refl _)) (Nat.le_refl _) (by rw [HG4.out]; exact Nat.le_refl _)) (Nat.le_refl _) (by rw [HG4.out]; exact Nat.le_refl _)) (Nat.le_refl _) (by rw [HG4.out]; exact Nat.le_refl _)) (Nat.le_refl _) (by rw [HG4.out]; exact Nat.le_refl _)
        repeat (refine below_set ?_ (by omega) (by rw [HG4.out]; exact Nat.le_refl _))
        exact HBF.out
      · exact Or.inr ⟨q, HO.out, by rw [HN.out, HE2.out]; rfl⟩
    · skip
      have cD := fun w => (dec9_any s f 0 f false hs hkk hkb w).mono (fun e w' h => h.some hd)
      have cH := fun w => (hexa9_any s f 0 f false hs hkk hkb w).mono (fun e w' h => h.none hh)
      have cR := fun w => (rat9_any s f 0 f false hs hkk hkb w).mono (fun e w' h => h.some hr)
      have hng := rat_neg hr
      generalize hn0 : numR p = n1 at *
      generalize hn1 : numR q = n2 at *
      have HN : Hid (nmA (numR q) = nmF n2 false) := by unfold Hid; rw [hn1]; unfold nmA nmF; rw [← hn1]; show _ = #[_, _, _, _, _]; rw [← hng]; rfl
      clear hn0
      clear hn1 hng
      have hgt : ((f + p.stop : Nat) : Int) < ((f + q.stop : Nat) : Int) := by omega
      have HO : Hid _ := ho
      clear ho hd hh hr hkb
      generalize hE1 : f + p.stop = E1 at *
      generalize hE2 : f + q.stop = E2 at *
      have HE1 : Hid (f + p.stop = E1) := hE1
      clear hE1
      have HE2 : Hid (f + q.stop = E2) := hE2
      clear hE2
      unfold nmF at cD
      unfold zero5 at cH
      unfold nmF at cR
      go_enter Tryz.func61, Tryz.ntmps61
      go_wp2_with fail
      rw [show w.alloc (.cells #[.int .i64 0, .bool false, .string ⟨#[]⟩, .int .i64 0, .string ⟨#[]⟩] 30) = w0 from HW0.out.symm, show w.heap.size = g4 from HG4.out]
      refine (cD _).mono ?_
      rintro e w1 ⟨hb1, rfl⟩
      have B14 := HB0.out.later hb1
      have hbA := hb0.trans (hb1.mono (by rw [← HG4.out]; exact hb0.size))
      have BN := Bk.new w1 30 (nmF n1 false)
      have hbn : Below w1.heap.size w1 (w1.alloc (.cells (nmF n1 false) 30)) := (Below.refl _ w1).alloc (Nat.le_refl _) _
      have B24 := B14.later hbn
      have hl4 := B14.lt
      have hbX : g4 ≤ w1.heap.size := Nat.le_of_lt hl4
      obtain ⟨g10, hg10⟩ : ∃ g10, g10 = w1.heap.size := ⟨_, rfl⟩
      have hbB := hbA.trans (hbn.mono hbX)
      clear hbX
      unfold nmF at BN hbn hbB B24
      go_wp2_with fail
      obtain ⟨wa, hwa⟩ : ∃ wa, wa = w1.alloc (.cells #[.int .i64 n1.kind, .bool false, .string (str n1.num), .int .i64 n1.exp, .string (str n1.den)] 30) := ⟨_, rfl⟩
      rw [← hwa, ← hg10]
      rw [← hwa] at BN hbB B24
      rw [← hg10] at BN hl4
      clear hwa hbn B14 hb1 hg10
      refine (cH _).mono ?_
      rintro e w2 ⟨hb2, rfl⟩
      have C4 := B24.later hb2
      have C10 := BN.later hb2
      have hbC := hbB.trans (hb2.mono (by have := B24.lt; omega))
      have hl10 := C10.lt
      have ne1 : ¬ g4 = g10 := by omega
      have ne2 : ¬ g10 = g4 := by omega
      obtain ⟨g13, hg13⟩ : ∃ g13, g13 = w2.heap.size := ⟨_, rfl⟩
      have ne3 : ¬ g10 = g13 := by omega
      have ne4 : ¬ g13 = g10 := by omega
      have ne5 : ¬ g4 = g13 := by omega
      have ne6 : ¬ g13 = g4 := by omega
      have le13 : g4 ≤ g13 := by omega
      have le10 : g4 ≤ g10 := by omega
      have HG13 : Hid (g13 = w2.heap.size) := hg13
      have h13 : w2.heap.size = g13 := hg13.symm
      clear B24 BN hb2 hbB hg13
      have t0 := C10.cell 0 rfl
      have tf0 := C10.frozen 0
      have t1 := C10.cell 1 rfl
      have tf1 := C10.frozen 1
      have t2 := C10.cell 2 rfl
      have tf2 := C10.frozen 2
      have t3 := C10.cell 3 rfl
      have tf3 := C10.frozen 3
      have t4 := C10.cell 4 rfl
      have tf4 := C10.frozen 4
      clear h13
      go_wp2_with fail
      have hg13 := HG13.out
      try rw [← hg13]
      have D10 := C10
      have D4 := C4
      have hbD := hbC
      obtain ⟨w5, hw5⟩ : ∃ w5, w5 = w2 := ⟨_, rfl⟩
      rw [← hw5]
      rw [← hw5] at D10 D4 hbD hg13
      clear hw5
      have hbm : Below w5.heap.size w5 (w5.alloc (.cells #[.int .i64 0, .bool false, .string ⟨#[]⟩, .int .i64 0, .string ⟨#[]⟩] 30)) := (Below.refl _ w5).alloc (Nat.le_refl _) _
      have E13 := Bk.new w5 30 #[.int .i64 0, .bool false, .string ⟨#[]⟩, .int .i64 0, .string ⟨#[]⟩]
      rw [← hg13] at E13
      clear hg13 HG13
      have E10 := D10.later hbm
      have E4 := D4.later hbm
      have hbE := hbD.trans (hbm.mono (by have := D4.lt; omega))
      generalize w5.alloc (.cells #[.int .i64 0, .bool false, .string ⟨#[]⟩, .int .i64 0, .string ⟨#[]⟩] 30) = w6 at *
      refine (cR _).mono ?_
      rintro e w3 ⟨hb3, rfl⟩
      have F13 := E13.later hb3
      have F10 := E10.later hb3
      have F4 := E4.later hb3
      have hbF := hbE.trans (hb3.mono (by have := E4.lt; omega))
      clear E13 E10 E4 hb3 hbE D10 D4 hbD hbm C10 C4 hbC
      have x0 := F13.cell 0 rfl
      have xf0 := F13.frozen 0
      have x1 := F13.cell 1 rfl
      have xf1 := F13.frozen 1
      have x2 := F13.cell 2 rfl
      have xf2 := F13.frozen 2
      have x3 := F13.cell 3 rfl
      have xf3 := F13.frozen 3
      have x4 := F13.cell 4 rfl
      have xf4 := F13.frozen 4
      have y0 := F10.cell 0 rfl
      have yf0 := F10.frozen 0
      have y1 := F10.cell 1 rfl
      have yf1 := F10.frozen 1
      have y2 := F10.cell 2 rfl
      have yf2 := F10.frozen 2
      have y3 := F10.cell 3 rfl
      have yf3 := F10.frozen 3
      have y4 := F10.cell 4 rfl
      have yf4 := F10.frozen 4
      have z0 := F4.cell 0 rfl
      have zf0 := F4.frozen 0
      have z1 := F4.cell 1 rfl
      have zf1 := F4.frozen 1
      have z2 := F4.cell 2 rfl
      have zf2 := F4.frozen 2
      have z3 := F4.cell 3 rfl
      have zf3 := F4.frozen 3
      have z4 := F4.cell 4 rfl
      have zf4 := F4.frozen 4
      go_upto_region 17 with (fail)
      have T13 := Tn.all5 w3 g13 (.int .i64 n2.kind) (.bool false) (.string (str n2.num)) (.int .i64 n2.exp) (.string (str n2.den))
      have G13 := Bk.all5 F13 (.int .i64 n2.kind) (.bool false) (.string (str n2.num)) (.int .i64 n2.exp) (.string (str n2.den))
      have G10 := F10.tn T13 ne3
      have G4 := F4.tn T13 ne5
      have hbG := Tn.below hbF T13 le13 (by rw [HG4.out]; exact Nat.le_refl _)
      clear x0 xf0 x1 xf1 x2 xf2 x3 xf3 x4 xf4 y0 yf0 y1 yf1 y2 yf2 y3 yf3 y4 yf4 z0 zf0 z1 zf1 z2 zf2 z3 zf3 z4 zf4 F4 F10 F13 hbF T13
      generalize ((((w3.setCell ⟨g13, 0, none⟩ (.int .i64 n2.kind)).setCell ⟨g13, 1, none⟩ (.bool false)).setCell ⟨g13, 2, none⟩ (.string (str n2.num))).setCell ⟨g13, 3, none⟩ (.int .i64 n2.exp)).setCell ⟨g13, 4, none⟩ (.string (str n2.den)) = w7 at *
      have x0 := G13.cell 0 rfl
      have xf0 := G13.frozen 0
      have x1 := G13.cell 1 rfl
      have xf1 := G13.frozen 1
      have x2 := G13.cell 2 rfl
      have xf2 := G13.frozen 2
      have x3 := G13.cell 3 rfl
      have xf3 := G13.frozen 3
      have x4 := G13.cell 4 rfl
      have xf4 := G13.frozen 4
      have y0 := G10.cell 0 rfl
      have yf0 := G10.frozen 0
      have y1 := G10.cell 1 rfl
      have yf1 := G10.frozen 1
      have y2 := G10.cell 2 rfl
      have yf2 := G10.frozen 2
      have y3 := G10.cell 3 rfl
      have yf3 := G10.frozen 3
      have y4 := G10.cell 4 rfl
      have yf4 := G10.frozen 4
      have z0 := G4.cell 0 rfl
      have zf0 := G4.frozen 0
      have z1 := G4.cell 1 rfl
      have zf1 := G4.frozen 1
      have z2 := G4.cell 2 rfl
      have zf2 := G4.frozen 2
      have z3 := G4.cell 3 rfl
      have zf3 := G4.frozen 3
      have z4 := G4.cell 4 rfl
      have zf4 := G4.frozen 4
      go_upto_region 24 with (fail)
      have T10 := (Tn.all5 w7 g10 (.int .i64 n2.kind) (.bool false) (.string (str n2.num)) (.int .i64 n2.exp) (.string (str n2.den))).set 1 (.bool false)
      have J10 := Bk.six G10 (.int .i64 n2.kind) (.bool false) (.string (str n2.num)) (.int .i64 n2.exp) (.string (str n2.den)) (.bool false)
      have J4 := G4.tn T10 ne1
      have hbJ := Tn.below hbG T10 le10 (by rw [HG4.out]; exact Nat.le_refl _)
      clear x0 xf0 x1 xf1 x2 xf2 x3 xf3 x4 xf4 y0 yf0 y1 yf1 y2 yf2 y3 yf3 y4 yf4 z0 zf0 z1 zf1 z2 zf2 z3 zf3 z4 zf4 G4 G10 G13 hbG T10
      generalize (((((w7.setCell ⟨g10, 0, none⟩ (.int .i64 n2.kind)).setCell ⟨g10, 1, none⟩ (.bool false)).setCell ⟨g10, 2, none⟩ (.string (str n2.num))).setCell ⟨g10, 3, none⟩ (.int .i64 n2.exp)).setCell ⟨g10, 4, none⟩ (.string (str n2.den))).setCell ⟨g10, 1, none⟩ (.bool false) = w8 at *
      have y0 := J10.cell 0 rfl
      have y1 := J10.cell 1 rfl
      have y2 := J10.cell 2 rfl
      have y3 := J10.cell 3 rfl
      have y4 := J10.cell 4 rfl
      have z0 := J4.cell 0 rfl
      have zf0 := J4.frozen 0
      have z1 := J4.cell 1 rfl
      have zf1 := J4.frozen 1
      have z2 := J4.cell 2 rfl
      have zf2 := J4.frozen 2
      have z3 := J4.cell 3 rfl
      have zf3 := J4.frozen 3
      have z4 := J4.cell 4 rfl
      have zf4 := J4.frozen 4
      have HF4 : Hid (Bk w8 g4 30 zero5) := J4
      have hbF := hbJ
      clear J4 J10 hbJ
      go_wp2
      have HBF : Hid (Below g4 w w8) := hbF
      refine bodyPost_ret (results_c3 rfl _ _ g4 30 (nmF n2 false) _ rfl (Bk.all5 (by (repeat (refine Bk.set_ne ?_ (by assumption))); exact HF4.out) _ _ _ _ _) Tryz.underlying30 rfl (by kernel_rfl)) rfl ?_
      refine ⟨?_, ?_⟩
      · rw [HG4.out]
        refine below_set (below_set (below_set (below_set (below_set ?_ (Nat.le_refl _) (by rw [HG4.out]; exact Nat.le_refl _)) (Nat.le_refl _) (by rw [HG4.out]; exact Nat.le_refl _)) (Nat.le_refl _) (by rw [HG4.out]; exact Nat.le_refl _)) (Nat.le_refl _) (by rw [HG4.out]; exact Nat.le_refl _)) (Nat.le_refl _) (by rw [HG4.out]; exact Nat.le_refl _)
        repeat (refine below_set ?_ (by omega) (by rw [HG4.out]; exact Nat.le_refl _))
        exact HBF.out
      · exact Or.inr ⟨q, HO.out, by rw [HN.out, HE2.out]; rfl⟩
end Go.Proofs.YtfgpjplfplbcdaaGreatDoor

/- Layer 9: the document's Scan of a long text behind a sign. -/
namespace Go.Proofs.YtfgpjplfplbcdaaGreatDoor
open Go.ChangeShapes Go.WideShapes Go.ChangeAt Go.RowKit
open Lx
set_option linter.unusedVariables false
set_option maxHeartbeats 12800000 in
set_option maxRecDepth 100000 in
theorem rscan9_minusL (s0 s : ByteArray) (f : Nat) (hs : s.size ≤ 3000000) (hs0 : s0.size ≤ 3000000) (hbg : f + 65536 < s0.size) (hcut : s0.extract 0 (f + 65536) = s) (hf : f ≤ s.size) (w : World) (hlt0 : f < s.size) (hch : (s[f]'hlt0) = 45) :
    Calls Tryz.prog 61 #[.string s0, .int .i64 (f : Int)] w (RScanR w f (refAll true 1 (s.data.toList.drop (f + 1)))) := by
  have hb0' : Below w.heap.size w (w.alloc (.cells zero5 30)) := (Below.refl _ w).alloc (Nat.le_refl _) _
  have HB0' := Bk.new w 30 zero5
  obtain ⟨w0, hw0⟩ : ∃ w0, w0 = w.alloc (.cells zero5 30) := ⟨_, rfl⟩
  obtain ⟨g4, hg4⟩ : ∃ g4, w.heap.size = g4 := ⟨_, rfl⟩
  have HW0 : Hid (w0 = w.alloc (.cells zero5 30)) := hw0
  have HG4 : Hid (w.heap.size = g4) := hg4
  rw [← hw0] at hb0' HB0'
  rw [hg4] at hb0' HB0'
  have hb0 := hb0'
  have HB0 : Hid (Bk w0 g4 30 zero5) := HB0'
  clear hw0 hg4 hb0' HB0'
  have hfi : ¬ (f : Int) < 0 := by omega
  have hfj : ¬ (s0.size : Int) < (f : Int) := by omega
  have hle0 : (f : Int) + 65536 ≤ (s0.size : Int) := by omega
  have hbig : (65536 : Int) < (s0.size : Int) - (f : Int) := by omega
  have hkk : f + 1 ≤ s.size := by omega
  have hkb : f + 1 = f + 1 := rfl
  have hli : (f : Int) < (s.size : Int) := by omega
  have csg := sign9_any (s[f]'hlt0)
  rw [show ([43, 45] : B).contains (s[f]'hlt0) = true from by rw [hch]; rfl] at csg
  have h45 : (((s[f]'hlt0).toNat : Int) == 45) = true := by rw [hch]; rfl
  clear hch
  rcases all_three true 1 (s.data.toList.drop (f + 1)) with ⟨hd, hh, hr, ho⟩ | ⟨p, hd, hh, hr, ho⟩ | ⟨p, q, hd, hh, hr, hlt, ho⟩ | ⟨p, q, hd, hh, hr, hlt, ho⟩
  · skip
    have cD := fun w => (dec9_any s (f + 1) 1 f true hs hkk hkb w).mono (fun e w' h => h.none hd)
    have cH := fun w => (hexa9_any s (f + 1) 1 f true hs hkk hkb w).mono (fun e w' h => h.none hh)
    have cR := fun w => (rat9_any s (f + 1) 1 f true hs hkk hkb w).mono (fun e w' h => h.none hr)
    have HO : Hid _ := ho
    clear ho hd hh hr hkb
    unfold zero5 at cD
    unfold zero5 at cH
    unfold zero5 at cR
    go_enter Tryz.func61, Tryz.ntmps61
    go_wp2_with (go_at_call 72; refine (csg _).mono ?_; rintro e w' ⟨rfl, hw⟩; rw [hw])
    rw [show w.alloc (.cells #[.int .i64 0, .bool false, .string ⟨#[]⟩, .int .i64 0, .string ⟨#[]⟩] 30) = w0 from HW0.out.symm, show w.heap.size = g4 from HG4.out]
    refine (cD _).mono ?_
    rintro e w1 ⟨hb1, rfl⟩
    have B14 := HB0.out.later hb1
    have hbA := hb0.trans (hb1.mono (by rw [← HG4.out]; exact hb0.size))
    have BN := Bk.new w1 30 zero5
    have hbn : Below w1.heap.size w1 (w1.alloc (.cells zero5 30)) := (Below.refl _ w1).alloc (Nat.le_refl _) _
    have B24 := B14.later hbn
    have hl4 := B14.lt
    have hbX : g4 ≤ w1.heap.size := Nat.le_of_lt hl4
    obtain ⟨g10, hg10⟩ : ∃ g10, g10 = w1.heap.size := ⟨_, rfl⟩
    have hbB := hbA.trans (hbn.mono hbX)
    clear hbX
    unfold zero5 at BN hbn hbB B24
    go_wp2_with fail
    obtain ⟨wa, hwa⟩ : ∃ wa, wa = w1.alloc (.cells #[.int .i64 0, .bool false, .string ⟨#[]⟩, .int .i64 0, .string ⟨#[]⟩] 30) := ⟨_, rfl⟩
    rw [← hwa, ← hg10]
    rw [← hwa] at BN hbB B24
    rw [← hg10] at BN hl4
    clear hwa hbn B14 hb1 hg10
    refine (cH _).mono ?_
    rintro e w2 ⟨hb2, rfl⟩
    have C4 := B24.later hb2
    have C10 := BN.later hb2
    have hbC := hbB.trans (hb2.mono (by have := B24.lt; omega))
    have hl10 := C10.lt
    have ne1 : ¬ g4 = g10 := by omega
    have ne2 : ¬ g10 = g4 := by omega
    obtain ⟨g13, hg13⟩ : ∃ g13, g13 = w2.heap.size := ⟨_, rfl⟩
    have ne3 : ¬ g10 = g13 := by omega
    have ne4 : ¬ g13 = g10 := by omega
    have ne5 : ¬ g4 = g13 := by omega
    have ne6 : ¬ g13 = g4 := by omega
    have le13 : g4 ≤ g13 := by omega
    have le10 : g4 ≤ g10 := by omega
    have HG13 : Hid (g13 = w2.heap.size) := hg13
    have h13 : w2.heap.size = g13 := hg13.symm
    clear B24 BN hb2 hbB hg13
    have t0 := C10.cell 0 rfl
    have tf0 := C10.frozen 0
    have t1 := C10.cell 1 rfl
    have tf1 := C10.frozen 1
    have t2 := C10.cell 2 rfl
    have tf2 := C10.frozen 2
    have t3 := C10.cell 3 rfl
    have tf3 := C10.frozen 3
    have t4 := C10.cell 4 rfl
    have tf4 := C10.frozen 4
    clear h13
    go_wp2_with fail
    have hg13 := HG13.out
    try rw [← hg13]
    have D10 := C10
    have D4 := C4
    have hbD := hbC
    obtain ⟨w5, hw5⟩ : ∃ w5, w5 = w2 := ⟨_, rfl⟩
    rw [← hw5]
    rw [← hw5] at D10 D4 hbD hg13
    clear hw5
    have hbm : Below w5.heap.size w5 (w5.alloc (.cells #[.int .i64 0, .bool false, .string ⟨#[]⟩, .int .i64 0, .string ⟨#[]⟩] 30)) := (Below.refl _ w5).alloc (Nat.le_refl _) _
    have E13 := Bk.new w5 30 #[.int .i64 0, .bool false, .string ⟨#[]⟩, .int .i64 0, .string ⟨#[]⟩]
    rw [← hg13] at E13
    clear hg13 HG13
    have E10 := D10.later hbm
    have E4 := D4.later hbm
    have hbE := hbD.trans (hbm.mono (by have := D4.lt; omega))
    generalize w5.alloc (.cells #[.int .i64 0, .bool false, .string ⟨#[]⟩, .int .i64 0, .string ⟨#[]⟩] 30) = w6 at *
    refine (cR _).mono ?_
    rintro e w3 ⟨hb3, rfl⟩
    have F13 := E13.later hb3
    have F10 := E10.later hb3
    have F4 := E4.later hb3
    have hbF := hbE.trans (hb3.mono (by have := E4.lt; omega))
    clear E13 E10 E4 hb3 hbE D10 D4 hbD hbm C10 C4 hbC
    have x0 := F13.cell 0 rfl
    have xf0 := F13.frozen 0
    have x1 := F13.cell 1 rfl
    have xf1 := F13.frozen 1
    have x2 := F13.cell 2 rfl
    have xf2 := F13.frozen 2
    have x3 := F13.cell 3 rfl
    have xf3 := F13.frozen 3
    have x4 := F13.cell 4 rfl
    have xf4 := F13.frozen 4
    have y0 := F10.cell 0 rfl
    have yf0 := F10.frozen 0
    have y1 := F10.cell 1 rfl
    have yf1 := F10.frozen 1
    have y2 := F10.cell 2 rfl
    have yf2 := F10.frozen 2
    have y3 := F10.cell 3 rfl
    have yf3 := F10.frozen 3
    have y4 := F10.cell 4 rfl
    have yf4 := F10.frozen 4
    have z0 := F4.cell 0 rfl
    have zf0 := F4.frozen 0
    have z1 := F4.cell 1 rfl
    have zf1 := F4.frozen 1
    have z2 := F4.cell 2 rfl
    have zf2 := F4.frozen 2
    have z3 := F4.cell 3 rfl
    have zf3 := F4.frozen 3
    have z4 := F4.cell 4 rfl
    have zf4 := F4.frozen 4
    have HF4 : Hid (Bk w3 g4 30 zero5) := F4
    clear F4 F10 F13
    go_wp2
    have HBF : Hid (Below g4 w w3) := hbF
    refine bodyPost_ret (results_c3 rfl _ _ g4 30 (nmA nmZ) _ rfl (Bk.all5 (by (repeat (refine Bk.set_ne ?_ (by assumption))); exact HF4.out) _ _ _ _ _) Tryz.underlying30 rfl (by kernel_rfl)) rfl ?_
    refine ⟨?_, ?_⟩
    · rw [HG4.out]
      refine below_set (below_set (below_set (below_set (below_set ?_ (Nat.le_refl _) (by rw [HG4.out]; exact Nat.le_refl _)) (Nat.le_refl _) (by rw [HG4.out]; exact Nat.le_refl _)) (Nat.le_refl _) (by rw [HG4.out]; exact Nat.le_refl _)) (Nat.le_refl _) (by rw [HG4.out]; exact Nat.le_refl _)) (Nat.le_refl _) (by rw [HG4.out]; exact Nat.le_refl _)
      repeat (refine below_set ?_ (by omega) (by rw [HG4.out]; exact Nat.le_refl _))
      exact HBF.out
    · exact Or.inl ⟨HO.out, rfl⟩
  · skip
    have cD := fun w => (dec9_any s (f + 1) 1 f true hs hkk hkb w).mono (fun e w' h => h.some hd)
    have cH := fun w => (hexa9_any s (f + 1) 1 f true hs hkk hkb w).mono (fun e w' h => h.none hh)
    have cR := fun w => (rat9_any s (f + 1) 1 f true hs hkk hkb w).mono (fun e w' h => h.none hr)
    have hng := dec_neg hd
    generalize hn1 : numR p = n1 at *
    have HN : Hid (nmA (numR p) = nmF n1 true) := by unfold Hid; rw [hn1]; unfold nmA nmF; rw [← hn1]; show _ = #[_, _, _, _, _]; rw [← hng]; rfl
    clear hn1 hng
    have HO : Hid _ := ho
    clear ho hd hh hr hkb
    generalize hE1 : f + p.stop = E1 at *
    have HE1 : Hid (f + p.stop = E1) := hE1
    clear hE1
    unfold nmF at cD
    unfold zero5 at cH
    unfold zero5 at cR
    go_enter Tryz.func61, Tryz.ntmps61
    go_wp2_with (go_at_call 72; refine (csg _).mono ?_; rintro e w' ⟨rfl, hw⟩; rw [hw])
    rw [show w.alloc (.cells #[.int .i64 0, .bool false, .string ⟨#[]⟩, .int .i64 0, .string ⟨#[]⟩] 30) = w0 from HW0.out.symm, show w.heap.size = g4 from HG4.out]
    refine (cD _).mono ?_
    rintro e w1 ⟨hb1, rfl⟩
    have B14 := HB0.out.later hb1
    have hbA := hb0.trans (hb1.mono (by rw [← HG4.out]; exact hb0.size))
    have BN := Bk.new w1 30 (nmF n1 false)
    have hbn : Below w1.heap.size w1 (w1.alloc (.cells (nmF n1 false) 30)) := (Below.refl _ w1).alloc (Nat.le_refl _) _
    have B24 := B14.later hbn
    have hl4 := B14.lt
    have hbX : g4 ≤ w1.heap.size := Nat.le_of_lt hl4
    obtain ⟨g10, hg10⟩ : ∃ g10, g10 = w1.heap.size := ⟨_, rfl⟩
    have hbB := hbA.trans (hbn.mono hbX)
    clear hbX
    unfold nmF at BN hbn hbB B24
    go_wp2_with fail
    obtain ⟨wa, hwa⟩ : ∃ wa, wa = w1.alloc (.cells #[.int .i64 n1.kind, .bool false, .string (str n1.num), .int .i64 n1.exp, .string (str n1.den)] 30) := ⟨_, rfl⟩
    rw [← hwa, ← hg10]
    rw [← hwa] at BN hbB B24
    rw [← hg10] at BN hl4
    clear hwa hbn B14 hb1 hg10
    refine (cH _).mono ?_
    rintro e w2 ⟨hb2, rfl⟩
    have C4 := B24.later hb2
    have C10 := BN.later hb2
    have hbC := hbB.trans (hb2.mono (by have := B24.lt; omega))
    have hl10 := C10.lt
    have ne1 : ¬ g4 = g10 := by omega
    have ne2 : ¬ g10 = g4 := by omega
    obtain ⟨g13, hg13⟩ : ∃ g13, g13 = w2.heap.size := ⟨_, rfl⟩
    have ne3 : ¬ g10 = g13 := by omega
    have ne4 : ¬ g13 = g10 := by omega
    have ne5 : ¬ g4 = g13 := by omega
    have ne6 : ¬ g13 = g4 := by omega
    have le13 : g4 ≤ g13 := by omega
    have le10 : g4 ≤ g10 := by omega
    have HG13 : Hid (g13 = w2.heap.size) := hg13
    have h13 : w2.heap.size = g13 := hg13.symm
    clear B24 BN hb2 hbB hg13
    have t0 := C10.cell 0 rfl
    have tf0 := C10.frozen 0
    have t1 := C10.cell 1 rfl
    have tf1 := C10.frozen 1
    have t2 := C10.cell 2 rfl
    have tf2 := C10.frozen 2
    have t3 := C10.cell 3 rfl
    have tf3 := C10.frozen 3
    have t4 := C10.cell 4 rfl
    have tf4 := C10.frozen 4
    clear h13
    go_wp2_with fail
    have hg13 := HG13.out
    try rw [← hg13]
    have D10 := C10
    have D4 := C4
    have hbD := hbC
    obtain ⟨w5, hw5⟩ : ∃ w5, w5 = w2 := ⟨_, rfl⟩
    rw [← hw5]
    rw [← hw5] at D10 D4 hbD hg13
    clear hw5
    have hbm : Below w5.heap.size w5 (w5.alloc (.cells #[.int .i64 0, .bool false, .string ⟨#[]⟩, .int .i64 0, .string ⟨#[]⟩] 30)) := (Below.refl _ w5).alloc (Nat.le_refl _) _
    have E13 := Bk.new w5 30 #[.int .i64 0, .bool false, .string ⟨#[]⟩, .int .i64 0, .string ⟨#[]⟩]
    rw [← hg13] at E13
    clear hg13 HG13
    have E10 := D10.later hbm
    have E4 := D4.later hbm
    have hbE := hbD.trans (hbm.mono (by have := D4.lt; omega))
    generalize w5.alloc (.cells #[.int .i64 0, .bool false, .string ⟨#[]⟩, .int .i64 0, .string ⟨#[]⟩] 30) = w6 at *
    refine (cR _).mono ?_
    rintro e w3 ⟨hb3, rfl⟩
    have F13 := E13.later hb3
    have F10 := E10.later hb3
    have F4 := E4.later hb3
    have hbF := hbE.trans (hb3.mono (by have := E4.lt; omega))
    clear E13 E10 E4 hb3 hbE D10 D4 hbD hbm C10 C4 hbC
    have x0 := F13.cell 0 rfl
    have xf0 := F13.frozen 0
    have x1 := F13.cell 1 rfl
    have xf1 := F13.frozen 1
    have x2 := F13.cell 2 rfl
    have xf2 := F13.frozen 2
    have x3 := F13.cell 3 rfl
    have xf3 := F13.frozen 3
    have x4 := F13.cell 4 rfl
    have xf4 := F13.frozen 4
    have y0 := F10.cell 0 rfl
    have yf0 := F10.frozen 0
    have y1 := F10.cell 1 rfl
    have yf1 := F10.frozen 1
    have y2 := F10.cell 2 rfl
    have yf2 := F10.frozen 2
    have y3 := F10.cell 3 rfl
    have yf3 := F10.frozen 3
    have y4 := F10.cell 4 rfl
    have yf4 := F10.frozen 4
    have z0 := F4.cell 0 rfl
    have zf0 := F4.frozen 0
    have z1 := F4.cell 1 rfl
    have zf1 := F4.frozen 1
    have z2 := F4.cell 2 rfl
    have zf2 := F4.frozen 2
    have z3 := F4.cell 3 rfl
    have zf3 := F4.frozen 3
    have z4 := F4.cell 4 rfl
    have zf4 := F4.frozen 4
    have HF4 : Hid (Bk w3 g4 30 zero5) := F4
    clear F4 F10 F13
    go_wp2
    have HBF : Hid (Below g4 w w3) := hbF
    refine bodyPost_ret (results_c3 rfl _ _ g4 30 (nmF n1 true) _ rfl (Bk.all5 (by (repeat (refine Bk.set_ne ?_ (by assumption))); exact HF4.out) _ _ _ _ _) Tryz.underlying30 rfl (by kernel_rfl)) rfl ?_
    refine ⟨?_, ?_⟩
    · rw [HG4.out]
      refine below_set (below_set (below_set (below_set (below_set ?_ (Nat.le_refl _) (by rw [HG4.out]; exact Nat.le_refl _)) (Nat.le_refl _) (by rw [HG4.out]; exact Nat.le_refl _)) (Nat.le_refl _) (by rw [HG4.out]; exact Nat.le_refl _)) (Nat.le_refl _) (by rw [HG4.out]; exact Nat.le_refl _)) (Nat.le_refl _) (by rw [HG4.out]; exact Nat.le_refl _)
      repeat (refine below_set ?_ (by omega) (by rw [HG4.out]; exact Nat.le_refl _))
      exact HBF.out
    · exact Or.inr ⟨p, HO.out, by rw [HN.out, HE1.out]; rfl⟩
  · skip
    have cD := fun w => (dec9_any s (f + 1) 1 f true hs hkk hkb w).mono (fun e w' h => h.some hd)
    have cH := fun w => (hexa9_any s (f + 1) 1 f true hs hkk hkb w).mono (fun e w' h => h.some hh)
    have cR := fun w => (rat9_any s (f + 1) 1 f true hs hkk hkb w).mono (fun e w' h => h.none hr)
    have hng := hex_neg hh
    generalize hn0 : numR p = n1 at *
    generalize hn1 : numR q = n2 at *
    have HN : Hid (nmA (numR q) = nmF n2 true) := by unfold Hid; rw [hn1]; unfold nmA nmF; rw [← hn1]; show _ = #[_, _, _, _, _]; rw [← hng]; rfl
    clear hn0
    clear hn1 hng
    have hgt : ((f + p.stop : Nat) : Int) < ((f + q.stop : Nat) : Int) := by omega
    have HO : Hid _ := ho
    clear ho hd hh hr hkb
    generalize hE1 : f + p.stop = E1 at *
    generalize hE2 : f + q.stop = E2 at *
    have HE1 : Hid (f + p.stop = E1) := hE1
    clear hE1
    have HE2 : Hid (f + q.stop = E2) := hE2
    clear hE2
    unfold nmF at cD
    unfold nmF at cH
    unfold zero5 at cR
    go_enter Tryz.func61, Tryz.ntmps61
    go_wp2_with (go_at_call 72; refine (csg _).mono ?_; rintro e w' ⟨rfl, hw⟩; rw [hw])
    rw [show w.alloc (.cells #[.int .i64 0, .bool false, .string ⟨#[]⟩, .int .i64 0, .string ⟨#[]⟩] 30) = w0 from HW0.out.symm, show w.heap.size = g4 from HG4.out]
    refine (cD _).mono ?_
    rintro e w1 ⟨hb1, rfl⟩
    have B14 := HB0.out.later hb1
    have hbA := hb0.trans (hb1.mono (by rw [← HG4.out]; exact hb0.size))
    have BN := Bk.new w1 30 (nmF n1 false)
    have hbn : Below w1.heap.size w1 (w1.alloc (.cells (nmF n1 false) 30)) := (Below.refl _ w1).alloc (Nat.le_refl _) _
    have B24 := B14.later hbn
    have hl4 := B14.lt
    have hbX : g4 ≤ w1.heap.size := Nat.le_of_lt hl4
    obtain ⟨g10, hg10⟩ : ∃ g10, g10 = w1.heap.size := ⟨_, rfl⟩
    have hbB := hbA.trans (hbn.mono hbX)
    clear hbX
    unfold nmF at BN hbn hbB B24
    go_wp2_with fail
    obtain ⟨wa, hwa⟩ : ∃ wa, wa = w1.alloc (.cells #[.int .i64 n1.kind, .bool false, .string (str n1.num), .int .i64 n1.exp, .string (str n1.den)] 30) := ⟨_, rfl⟩
    rw [← hwa, ← hg10]
    rw [← hwa] at BN hbB B24
    rw [← hg10] at BN hl4
    clear hwa hbn B14 hb1 hg10
    refine (cH _).mono ?_
    rintro e w2 ⟨hb2, rfl⟩
    have C4 := B24.later hb2
    have C10 := BN.later hb2
    have hbC := hbB.trans (hb2.mono (by have := B24.lt; omega))
    have hl10 := C10.lt
    have ne1 : ¬ g4 = g10 := by omega
    have ne2 : ¬ g10 = g4 := by omega
    obtain ⟨g13, hg13⟩ : ∃ g13, g13 = w2.heap.size := ⟨_, rfl⟩
    have ne3 : ¬ g10 = g13 := by omega
    have ne4 : ¬ g13 = g10 := by omega
    have ne5 : ¬ g4 = g13 := by omega
    have ne6 : ¬ g13 = g4 := by omega
    have le13 : g4 ≤ g13 := by omega
    have le10 : g4 ≤ g10 := by omega
    have HG13 : Hid (g13 = w2.heap.size) := hg13
    have h13 : w2.heap.size = g13 := hg13.symm
    clear B24 BN hb2 hbB hg13
    have t0 := C10.cell 0 rfl
    have tf0 := C10.frozen 0
    have t1 := C10.cell 1 rfl
    have tf1 := C10.frozen 1
    have t2 := C10.cell 2 rfl
    have tf2 := C10.frozen 2
    have t3 := C10.cell 3 rfl
    have tf3 := C10.frozen 3
    have t4 := C10.cell 4 rfl
    have tf4 := C10.frozen 4
    have D10 := Bk.set (Bk.set (Bk.set (Bk.set (Bk.set C10 0 (.int .i64 n2.kind)) 1 (.bool false)) 2 (.string (str n2.num))) 3 (.int .i64 n2.exp)) 4 (.string (str n2.den))
    have T10 := Tn.all5 w2 g10 (.int .i64 n2.kind) (.bool false) (.string (str n2.num)) (.int .i64 n2.exp) (.string (str n2.den))
    have D4 := C4.tn T10 ne1
    have hbD := Tn.below hbC T10 (by omega) (by rw [HG4.out]; exact Nat.le_refl _)
    have HZ13 : Hid (w2.heap.size = (((((w2.setCell ⟨g10, 0, none⟩ (.int .i64 n2.kind)).setCell ⟨g10, 1, none⟩ (.bool false)).setCell ⟨g10, 2, none⟩ (.string (str n2.num))).setCell ⟨g10, 3, none⟩ (.int .i64 n2.exp)).setCell ⟨g10, 4, none⟩ (.string (str n2.den))).heap.size) := by simp [Hid, World.setCell]
    clear h13
    go_wp2_with fail
    have hg13 := HG13.out
    try rw [← hg13]
    rw [HZ13.out] at hg13
    clear HZ13
    generalize ((((w2.setCell ⟨g10, 0, none⟩ (.int .i64 n2.kind)).setCell ⟨g10, 1, none⟩ (.bool false)).setCell ⟨g10, 2, none⟩ (.string (str n2.num))).setCell ⟨g10, 3, none⟩ (.int .i64 n2.exp)).setCell ⟨g10, 4, none⟩ (.string (str n2.den)) = w5 at *
    have hbm : Below w5.heap.size w5 (w5.alloc (.cells #[.int .i64 n2.kind, .bool false, .string (str n2.num), .int .i64 n2.exp, .string (str n2.den)] 30)) := (Below.refl _ w5).alloc (Nat.le_refl _) _
    have E13 := Bk.new w5 30 #[.int .i64 n2.kind, .bool false, .string (str n2.num), .int .i64 n2.exp, .string (str n2.den)]
    rw [← hg13] at E13
    clear hg13 HG13
    have E10 := D10.later hbm
    have E4 := D4.later hbm
    have hbE := hbD.trans (hbm.mono (by have := D4.lt; omega))
    generalize w5.alloc (.cells #[.int .i64 n2.kind, .bool false, .string (str n2.num), .int .i64 n2.exp, .string (str n2.den)] 30) = w6 at *
    refine (cR _).mono ?_
    rintro e w3 ⟨hb3, rfl⟩
    have F13 := E13.later hb3
    have F10 := E10.later hb3
    have F4 := E4.later hb3
    have hbF := hbE.trans (hb3.mono (by have := E4.lt; omega))
    clear E13 E10 E4 hb3 hbE D10 D4 hbD hbm C10 C4 hbC
    have x0 := F13.cell 0 rfl
    have xf0 := F13.frozen 0
    have x1 := F13.cell 1 rfl
    have xf1 := F13.frozen 1
    have x2 := F13.cell 2 rfl
    have xf2 := F13.frozen 2
    have x3 := F13.cell 3 rfl
    have xf3 := F13.frozen 3
    have x4 := F13.cell 4 rfl
    have xf4 := F13.frozen 4
    have y0 := F10.cell 0 rfl
    have yf0 := F10.frozen 0
    have y1 := F10.cell 1 rfl
    have yf1 := F10.frozen 1
    have y2 := F10.cell 2 rfl
    have yf2 := F10.frozen 2
    have y3 := F10.cell 3 rfl
    have yf3 := F10.frozen 3
    have y4 := F10.cell 4 rfl
    have yf4 := F10.frozen 4
    have z0 := F4.cell 0 rfl
    have zf0 := F4.frozen 0
    have z1 := F4.cell 1 rfl
    have zf1 := F4.frozen 1
    have z2 := F4.cell 2 rfl
    have zf2 := F4.frozen 2
    have z3 := F4.cell 3 rfl
    have zf3 := F4.frozen 3
    have z4 := F4.cell 4 rfl
    have zf4 := F4.frozen 4
    have HF4 : Hid (Bk w3 g4 30 zero5) := F4
    clear F4 F10 F13
    go_wp2
    have HBF : Hid (Below g4 w w3) := hbF
    refine bodyPost_ret (results_c3 rfl _ _ g4 30 (nmF n2 true) _ rfl (Bk.all5 (by (repeat (refine Bk.set_ne ?_ (by assumption))); exact HF4.out) _ _ _ _ _) Tryz.underlying30 rfl (by kernel_rfl)) rfl ?_
    refine ⟨?_, ?_⟩
    · rw [HG4.out]
      refine below_set (below_set (below_set (below_set (below_set ?_ (Nat.le_refl _) (by rw [HG4.out]; exact Nat.le_refl _)) (Nat.le_refl _) (by rw [HG4.out]; exact Nat.le_refl _)) (Nat.le_refl _) (by rw [HG4.out]; exact Nat.le_refl _)) (Nat.le_refl _) (by rw [HG4.out]; exact Nat.le_refl _)) (Nat.le_refl _) (by rw [HG4.out]; exact Nat.le_refl _)
      repeat (refine below_set ?_ (by omega) (by rw [HG4.out]; exact Nat.le_refl _))
      exact HBF.out
    · exact Or.inr ⟨q, HO.out, by rw [HN.out, HE2.out]; rfl⟩
  · skip
    have cD := fun w => (dec9_any s (f + 1) 1 f true hs hkk hkb w).mono (fun e w' h => h.some hd)
    have cH := fun w => (hexa9_any s (f + 1) 1 f true hs hkk hkb w).mono (fun e w' h => h.none hh)
    have cR := fun w => (rat9_any s (f + 1) 1 f true hs hkk hkb w).mono (fun e w' h => h.some hr)
    have hng := rat_neg hr
    generalize hn0 : numR p = n1 at *
    generalize hn1 : numR q = n2 at *
    have HN : Hid (nmA (numR q) = nmF n2 true) := by unfold Hid; rw [hn1]; unfold nmA nmF; rw [← hn1]; show _ = #[_, _, _, _, _]; rw [← hng]; rfl
    clear hn0
    clear hn1 hng
    have hgt : ((f + p.stop : Nat) : Int) < ((f + q.stop : Nat) : Int) := by omega
    have HO : Hid _ := ho
    clear ho hd hh hr hkb
    generalize hE1 : f + p.stop = E1 at *
    generalize hE2 : f + q.stop = E2 at *
    have HE1 : Hid (f + p.stop = E1) := hE1
    clear hE1
    have HE2 : Hid (f + q.stop = E2) := hE2
    clear hE2
    unfold nmF at cD
    unfold zero5 at cH
    unfold nmF at cR
    go_enter Tryz.func61, Tryz.ntmps61
    go_wp2_with (go_at_call 72; refine (csg _).mono ?_; rintro e w' ⟨rfl, hw⟩; rw [hw])
    rw [show w.alloc (.cells #[.int .i64 0, .bool false, .string ⟨#[]⟩, .int .i64 0, .string ⟨#[]⟩] 30) = w0 from HW0.out.symm, show w.heap.size = g4 from HG4.out]
    refine (cD _).mono ?_
    rintro e w1 ⟨hb1, rfl⟩
    have B14 := HB0.out.later hb1
    have hbA := hb0.trans (hb1.mono (by rw [← HG4.out]; exact hb0.size))
    have BN := Bk.new w1 30 (nmF n1 false)
    have hbn : Below w1.heap.size w1 (w1.alloc (.cells (nmF n1 false) 30)) := (Below.refl _ w1).alloc (Nat.le_refl _) _
    have B24 := B14.later hbn
    have hl4 := B14.lt
    have hbX : g4 ≤ w1.heap.size := Nat.le_of_lt hl4
    obtain ⟨g10, hg10⟩ : ∃ g10, g10 = w1.heap.size := ⟨_, rfl⟩
    have hbB := hbA.trans (hbn.mono hbX)
    clear hbX
    unfold nmF at BN hbn hbB B24
    go_wp2_with fail
    obtain ⟨wa, hwa⟩ : ∃ wa, wa = w1.alloc (.cells #[.int .i64 n1.kind, .bool false, .string (str n1.num), .int .i64 n1.exp, .string (str n1.den)] 30) := ⟨_, rfl⟩
    rw [← hwa, ← hg10]
    rw [← hwa] at BN hbB B24
    rw [← hg10] at BN hl4
    clear hwa hbn B14 hb1 hg10
    refine (cH _).mono ?_
    rintro e w2 ⟨hb2, rfl⟩
    have C4 := B24.later hb2
    have C10 := BN.later hb2
    have hbC := hbB.trans (hb2.mono (by have := B24.lt; omega))
    have hl10 := C10.lt
    have ne1 : ¬ g4 = g10 := by omega
    have ne2 : ¬ g10 = g4 := by omega
    obtain ⟨g13, hg13⟩ : ∃ g13, g13 = w2.heap.size := ⟨_, rfl⟩
    have ne3 : ¬ g10 = g13 := by omega
    have ne4 : ¬ g13 = g10 := by omega
    have ne5 : ¬ g4 = g13 := by omega
    have ne6 : ¬ g13 = g4 := by omega
    have le13 : g4 ≤ g13 := by omega
    have le10 : g4 ≤ g10 := by omega
    have HG13 : Hid (g13 = w2.heap.size) := hg13
    have h13 : w2.heap.size = g13 := hg13.symm
    clear B24 BN hb2 hbB hg13
    have t0 := C10.cell 0 rfl
    have tf0 := C10.frozen 0
    have t1 := C10.cell 1 rfl
    have tf1 := C10.frozen 1
    have t2 := C10.cell 2 rfl
    have tf2 := C10.frozen 2
    have t3 := C10.cell 3 rfl
    have tf3 := C10.frozen 3
    have t4 := C10.cell 4 rfl
    have tf4 := C10.frozen 4
    clear h13
    go_wp2_with fail
    have hg13 := HG13.out
    try rw [← hg13]
    have D10 := C10
    have D4 := C4
    have hbD := hbC
    obtain ⟨w5, hw5⟩ : ∃ w5, w5 = w2 := ⟨_, rfl⟩
    rw [← hw5]
    rw [← hw5] at D10 D4 hbD hg13
    clear hw5
    have hbm : Below w5.heap.size w5 (w5.alloc (.cells #[.int .i64 0, .bool false, .string ⟨#[]⟩, .int .i64 0, .string ⟨#[]⟩] 30)) := (Below.refl _ w5).alloc (Nat.le_refl _) _
    have E13 := Bk.new w5 30 #[.int .i64 0, .bool false, .string ⟨#[]⟩, .int .i64 0, .string ⟨#[]⟩]
    rw [← hg13] at E13
    clear hg13 HG13
    have E10 := D10.later hbm
    have E4 := D4.later hbm
    have hbE := hbD.trans (hbm.mono (by have := D4.lt; omega))
    generalize w5.alloc (.cells #[.int .i64 0, .bool false, .string ⟨#[]⟩, .int .i64 0, .string ⟨#[]⟩] 30) = w6 at *
    refine (cR _).mono ?_
    rintro e w3 ⟨hb3, rfl⟩
    have F13 := E13.later hb3
    have F10 := E10.later hb3
    have F4 := E4.later hb3
    have hbF := hbE.trans (hb3.mono (by have := E4.lt; omega))
    clear E13 E10 E4 hb3 hbE D10 D4 hbD hbm C10 C4 hbC
    have x0 := F13.cell 0 rfl
    have xf0 := F13.frozen 0
    have x1 := F13.cell 1 rfl
    have xf1 := F13.frozen 1
    have x2 := F13.cell 2 rfl
    have xf2 := F13.frozen 2
    have x3 := F13.cell 3 rfl
    have xf3 := F13.frozen 3
    have x4 := F13.cell 4 rfl
    have xf4 := F13.frozen 4
    have y0 := F10.cell 0 rfl
    have yf0 := F10.frozen 0
    have y1 := F10.cell 1 rfl
    have yf1 := F10.frozen 1
    have y2 := F10.cell 2 rfl
    have yf2 := F10.frozen 2
    have y3 := F10.cell 3 rfl
    have yf3 := F10.frozen 3
    have y4 := F10.cell 4 rfl
    have yf4 := F10.frozen 4
    have z0 := F4.cell 0 rfl
    have zf0 := F4.frozen 0
    have z1 := F4.cell 1 rfl
    have zf1 := F4.frozen 1
    have z2 := F4.cell 2 rfl
    have zf2 := F4.frozen 2
    have z3 := F4.cell 3 rfl
    have zf3 := F4.frozen 3
    have z4 := F4.cell 4 rfl
    have zf4 := F4.frozen 4
    go_upto_region 17 with (fail)
    have T13 := Tn.all5 w3 g13 (.int .i64 n2.kind) (.bool false) (.string (str n2.num)) (.int .i64 n2.exp) (.string (str n2.den))
    have G13 := Bk.all5 F13 (.int .i64 n2.kind) (.bool false) (.string (str n2.num)) (.int .i64 n2.exp) (.string (str n2.den))
    have G10 := F10.tn T13 ne3
    have G4 := F4.tn T13 ne5
    have hbG := Tn.below hbF T13 le13 (by rw [HG4.out]; exact Nat.le_refl _)
    clear x0 xf0 x1 xf1 x2 xf2 x3 xf3 x4 xf4 y0 yf0 y1 yf1 y2 yf2 y3 yf3 y4 yf4 z0 zf0 z1 zf1 z2 zf2 z3 zf3 z4 zf4 F4 F10 F13 hbF T13
    generalize ((((w3.setCell ⟨g13, 0, none⟩ (.int .i64 n2.kind)).setCell ⟨g13, 1, none⟩ (.bool false)).setCell ⟨g13, 2, none⟩ (.string (str n2.num))).setCell ⟨g13, 3, none⟩ (.int .i64 n2.exp)).setCell ⟨g13, 4, none⟩ (.string (str n2.den)) = w7 at *
    have x0 := G13.cell 0 rfl
    have xf0 := G13.frozen 0
    have x1 := G13.cell 1 rfl
    have xf1 := G13.frozen 1
    have x2 := G13.cell 2 rfl
    have xf2 := G13.frozen 2
    have x3 := G13.cell 3 rfl
    have xf3 := G13.frozen 3
    have x4 := G13.cell 4 rfl
    have xf4 := G13.frozen 4
    have y0 := G10.cell 0 rfl
    have yf0 := G10.frozen 0
    have y1 := G10.cell 1 rfl
    have yf1 := G10.frozen 1
    have y2 := G10.cell 2 rfl
    have yf2 := G10.frozen 2
    have y3 := G10.cell 3 rfl
    have yf3 := G10.frozen 3
    have y4 := G10.cell 4 rfl
    have yf4 := G10.frozen 4
    have z0 := G4.cell 0 rfl
    have zf0 := G4.frozen 0
    have z1 := G4.cell 1 rfl
    have zf1 := G4.frozen 1
    have z2 := G4.cell 2 rfl
    have zf2 := G4.frozen 2
    have z3 := G4.cell 3 rfl
    have zf3 := G4.frozen 3
    have z4 := G4.cell 4 rfl
    have zf4 := G4.frozen 4
    go_upto_region 24 with (fail)
    have T10 := (Tn.all5 w7 g10 (.int .i64 n2.kind) (.bool false) (.string (str n2.num)) (.int .i64 n2.exp) (.string (str n2.den))).set 1 (.bool true)
    have J10 := Bk.six G10 (.int .i64 n2.kind) (.bool false) (.string (str n2.num)) (.int .i64 n2.exp) (.string (str n2.den)) (.bool true)
    have J4 := G4.tn T10 ne1
    have hbJ := Tn.below hbG T10 le10 (by rw [HG4.out]; exact Nat.le_refl _)
    clear x0 xf0 x1 xf1 x2 xf2 x3 xf3 x4 xf4 y0 yf0 y1 yf1 y2 yf2 y3 yf3 y4 yf4 z0 zf0 z1 zf1 z2 zf2 z3 zf3 z4 zf4 G4 G10 G13 hbG T10
    generalize (((((w7.setCell ⟨g10, 0, none⟩ (.int .i64 n2.kind)).setCell ⟨g10, 1, none⟩ (.bool false)).setCell ⟨g10, 2, none⟩ (.string (str n2.num))).setCell ⟨g10, 3, none⟩ (.int .i64 n2.exp)).setCell ⟨g10, 4, none⟩ (.string (str n2.den))).setCell ⟨g10, 1, none⟩ (.bool true) = w8 at *
    have y0 := J10.cell 0 rfl
    have y1 := J10.cell 1 rfl
    have y2 := J10.cell 2 rfl
    have y3 := J10.cell 3 rfl
    have y4 := J10.cell 4 rfl
    have z0 := J4.cell 0 rfl
    have zf0 := J4.frozen 0
    have z1 := J4.cell 1 rfl
    have zf1 := J4.frozen 1
    have z2 := J4.cell 2 rfl
    have zf2 := J4.frozen 2
    have z3 := J4.cell 3 rfl
    have zf3 := J4.frozen 3
    have z4 := J4.cell 4 rfl
    have zf4 := J4.frozen 4
    have HF4 : Hid (Bk w8 g4 30 zero5) := J4
    have hbF := hbJ
    clear J4 J10 hbJ
    go_wp2
    have HBF : Hid (Below g4 w w8) := hbF
    refine bodyPost_ret (results_c3 rfl _ _ g4 30 (nmF n2 true) _ rfl (Bk.all5 (by (repeat (refine Bk.set_ne ?_ (by assumption))); exact HF4.out) _ _ _ _ _) Tryz.underlying30 rfl (by kernel_rfl)) rfl ?_
    refine ⟨?_, ?_⟩
    · rw [HG4.out]
      refine below_set (below_set (below_set (below_set (below_set ?_ (Nat.le_refl _) (by rw [HG4.out]; exact Nat.le_refl _)) (Nat.le_refl _) (by rw [HG4.out]; exact Nat.le_refl _)) (Nat.le_refl _) (by rw [HG4.out]; exact Nat.le_refl _)) (Nat.le_refl _) (by rw [HG4.out]; exact Nat.le_refl _)) (Nat.le_refl _) (by rw [HG4.out]; exact Nat.le_refl _)
      repeat (refine below_set ?_ (by omega) (by rw [HG4.out]; exact Nat.le_refl _))
      exact HBF.out
    · exact Or.inr ⟨q, HO.out, by rw [HN.out, HE2.out]; rfl⟩
set_option maxHeartbeats 12800000 in
set_option maxRecDepth 100000 in
theorem rscan9_plusL (s0 s : ByteArray) (f : Nat) (hs : s.size ≤ 3000000) (hs0 : s0.size ≤ 3000000) (hbg : f + 65536 < s0.size) (hcut : s0.extract 0 (f + 65536) = s) (hf : f ≤ s.size) (w : World) (hlt0 : f < s.size) (hch : (s[f]'hlt0) = 43) :
    Calls Tryz.prog 61 #[.string s0, .int .i64 (f : Int)] w (RScanR w f (refAll false 1 (s.data.toList.drop (f + 1)))) := by
  have hb0' : Below w.heap.size w (w.alloc (.cells zero5 30)) := (Below.refl _ w).alloc (Nat.le_refl _) _
  have HB0' := Bk.new w 30 zero5
  obtain ⟨w0, hw0⟩ : ∃ w0, w0 = w.alloc (.cells zero5 30) := ⟨_, rfl⟩
  obtain ⟨g4, hg4⟩ : ∃ g4, w.heap.size = g4 := ⟨_, rfl⟩
  have HW0 : Hid (w0 = w.alloc (.cells zero5 30)) := hw0
  have HG4 : Hid (w.heap.size = g4) := hg4
  rw [← hw0] at hb0' HB0'
  rw [hg4] at hb0' HB0'
  have hb0 := hb0'
  have HB0 : Hid (Bk w0 g4 30 zero5) := HB0'
  clear hw0 hg4 hb0' HB0'
  have hfi : ¬ (f : Int) < 0 := by omega
  have hfj : ¬ (s0.size : Int) < (f : Int) := by omega
  have hle0 : (f : Int) + 65536 ≤ (s0.size : Int) := by omega
  have hbig : (65536 : Int) < (s0.size : Int) - (f : Int) := by omega
  have hkk : f + 1 ≤ s.size := by omega
  have hkb : f + 1 = f + 1 := rfl
  have hli : (f : Int) < (s.size : Int) := by omega
  have csg := sign9_any (s[f]'hlt0)
  rw [show ([43, 45] : B).contains (s[f]'hlt0) = true from by rw [hch]; rfl] at csg
  have h45 : (((s[f]'hlt0).toNat : Int) == 45) = false := by rw [hch]; rfl
  clear hch
  rcases all_three false 1 (s.data.toList.drop (f + 1)) with ⟨hd, hh, hr, ho⟩ | ⟨p, hd, hh, hr, ho⟩ | ⟨p, q, hd, hh, hr, hlt, ho⟩ | ⟨p, q, hd, hh, hr, hlt, ho⟩
  · skip
    have cD := fun w => (dec9_any s (f + 1) 1 f false hs hkk hkb w).mono (fun e w' h => h.none hd)
    have cH := fun w => (hexa9_any s (f + 1) 1 f false hs hkk hkb w).mono (fun e w' h => h.none hh)
    have cR := fun w => (rat9_any s (f + 1) 1 f false hs hkk hkb w).mono (fun e w' h => h.none hr)
    have HO : Hid _ := ho
    clear ho hd hh hr hkb
    unfold zero5 at cD
    unfold zero5 at cH
    unfold zero5 at cR
    go_enter Tryz.func61, Tryz.ntmps61
    go_wp2_with (go_at_call 72; refine (csg _).mono ?_; rintro e w' ⟨rfl, hw⟩; rw [hw])
    rw [show w.alloc (.cells #[.int .i64 0, .bool false, .string ⟨#[]⟩, .int .i64 0, .string ⟨#[]⟩] 30) = w0 from HW0.out.symm, show w.heap.size = g4 from HG4.out]
    refine (cD _).mono ?_
    rintro e w1 ⟨hb1, rfl⟩
    have B14 := HB0.out.later hb1
    have hbA := hb0.trans (hb1.mono (by rw [← HG4.out]; exact hb0.size))
    have BN := Bk.new w1 30 zero5
    have hbn : Below w1.heap.size w1 (w1.alloc (.cells zero5 30)) := (Below.refl _ w1).alloc (Nat.le_refl _) _
    have B24 := B14.later hbn
    have hl4 := B14.lt
    have hbX : g4 ≤ w1.heap.size := Nat.le_of_lt hl4
    obtain ⟨g10, hg10⟩ : ∃ g10, g10 = w1.heap.size := ⟨_, rfl⟩
    have hbB := hbA.trans (hbn.mono hbX)
    clear hbX
    unfold zero5 at BN hbn hbB B24
    go_wp2_with fail
    obtain ⟨wa, hwa⟩ : ∃ wa, wa = w1.alloc (.cells #[.int .i64 0, .bool false, .string ⟨#[]⟩, .int .i64 0, .string ⟨#[]⟩] 30) := ⟨_, rfl⟩
    rw [← hwa, ← hg10]
    rw [← hwa] at BN hbB B24
    rw [← hg10] at BN hl4
    clear hwa hbn B14 hb1 hg10
    refine (cH _).mono ?_
    rintro e w2 ⟨hb2, rfl⟩
    have C4 := B24.later hb2
    have C10 := BN.later hb2
    have hbC := hbB.trans (hb2.mono (by have := B24.lt; omega))
    have hl10 := C10.lt
    have ne1 : ¬ g4 = g10 := by omega
    have ne2 : ¬ g10 = g4 := by omega
    obtain ⟨g13, hg13⟩ : ∃ g13, g13 = w2.heap.size := ⟨_, rfl⟩
    have ne3 : ¬ g10 = g13 := by omega
    have ne4 : ¬ g13 = g10 := by omega
    have ne5 : ¬ g4 = g13 := by omega
    have ne6 : ¬ g13 = g4 := by omega
    have le13 : g4 ≤ g13 := by omega
    have le10 : g4 ≤ g10 := by omega
    have HG13 : Hid (g13 = w2.heap.size) := hg13
    have h13 : w2.heap.size = g13 := hg13.symm
    clear B24 BN hb2 hbB hg13
    have t0 := C10.cell 0 rfl
    have tf0 := C10.frozen 0
    have t1 := C10.cell 1 rfl
    have tf1 := C10.frozen 1
    have t2 := C10.cell 2 rfl
    have tf2 := C10.frozen 2
    have t3 := C10.cell 3 rfl
    have tf3 := C10.frozen 3
    have t4 := C10.cell 4 rfl
    have tf4 := C10.frozen 4
    clear h13
    go_wp2_with fail
    have hg13 := HG13.out
    try rw [← hg13]
    have D10 := C10
    have D4 := C4
    have hbD := hbC
    obtain ⟨w5, hw5⟩ : ∃ w5, w5 = w2 := ⟨_, rfl⟩
    rw [← hw5]
    rw [← hw5] at D10 D4 hbD hg13
    clear hw5
    have hbm : Below w5.heap.size w5 (w5.alloc (.cells #[.int .i64 0, .bool false, .string ⟨#[]⟩, .int .i64 0, .string ⟨#[]⟩] 30)) := (Below.refl _ w5).alloc (Nat.le_refl _) _
    have E13 := Bk.new w5 30 #[.int .i64 0, .bool false, .string ⟨#[]⟩, .int .i64 0, .string ⟨#[]⟩]
    rw [← hg13] at E13
    clear hg13 HG13
    have E10 := D10.later hbm
    have E4 := D4.later hbm
    have hbE := hbD.trans (hbm.mono (by have := D4.lt; omega))
    generalize w5.alloc (.cells #[.int .i64 0, .bool false, .string ⟨#[]⟩, .int .i64 0, .string ⟨#[]⟩] 30) = w6 at *
    refine (cR _).mono ?_
    rintro e w3 ⟨hb3, rfl⟩
    have F13 := E13.later hb3
    have F10 := E10.later hb3
    have F4 := E4.later hb3
    have hbF := hbE.trans (hb3.mono (by have := E4.lt; omega))
    clear E13 E10 E4 hb3 hbE D10 D4 hbD hbm C10 C4 hbC
    have x0 := F13.cell 0 rfl
    have xf0 := F13.frozen 0
    have x1 := F13.cell 1 rfl
    have xf1 := F13.frozen 1
    have x2 := F13.cell 2 rfl
    have xf2 := F13.frozen 2
    have x3 := F13.cell 3 rfl
    have xf3 := F13.frozen 3
    have x4 := F13.cell 4 rfl
    have xf4 := F13.frozen 4
    have y0 := F10.cell 0 rfl
    have yf0 := F10.frozen 0
    have y1 := F10.cell 1 rfl
    have yf1 := F10.frozen 1
    have y2 := F10.cell 2 rfl
    have yf2 := F10.frozen 2
    have y3 := F10.cell 3 rfl
    have yf3 := F10.frozen 3
    have y4 := F10.cell 4 rfl
    have yf4 := F10.frozen 4
    have z0 := F4.cell 0 rfl
    have zf0 := F4.frozen 0
    have z1 := F4.cell 1 rfl
    have zf1 := F4.frozen 1
    have z2 := F4.cell 2 rfl
    have zf2 := F4.frozen 2
    have z3 := F4.cell 3 rfl
    have zf3 := F4.frozen 3
    have z4 := F4.cell 4 rfl
    have zf4 := F4.frozen 4
    have HF4 : Hid (Bk w3 g4 30 zero5) := F4
    clear F4 F10 F13
    go_wp2
    have HBF : Hid (Below g4 w w3) := hbF
    refine bodyPost_ret (results_c3 rfl _ _ g4 30 (nmA nmZ) _ rfl (Bk.all5 (by (repeat (refine Bk.set_ne ?_ (by assumption))); exact HF4.out) _ _ _ _ _) Tryz.underlying30 rfl (by kernel_rfl)) rfl ?_
    refine ⟨?_, ?_⟩
    · rw [HG4.out]
      refine below_set (below_set (below_set (below_set (below_set ?_ (Nat.le_refl _) (by rw [HG4.out]; exact Nat.le_refl _)) (Nat.le_refl _) (by rw [HG4.out]; exact Nat.le_refl _)) (Nat.le_refl _) (by rw [HG4.out]; exact Nat.le_refl _)) (Nat.le_refl _) (by rw [HG4.out]; exact Nat.le_refl _)) (Nat.le_refl _) (by rw [HG4.out]; exact Nat.le_refl _)
      repeat (refine below_set ?_ (by omega) (by rw [HG4.out]; exact Nat.le_refl _))
      exact HBF.out
    · exact Or.inl ⟨HO.out, rfl⟩
  · skip
    have cD := fun w => (dec9_any s (f + 1) 1 f false hs hkk hkb w).mono (fun e w' h => h.some hd)
    have cH := fun w => (hexa9_any s (f + 1) 1 f false hs hkk hkb w).mono (fun e w' h => h.none hh)
    have cR := fun w => (rat9_any s (f + 1) 1 f false hs hkk hkb w).mono (fun e w' h => h.none hr)
    have hng := dec_neg hd
    generalize hn1 : numR p = n1 at *
    have HN : Hid (nmA (numR p) = nmF n1 false) := by unfold Hid; rw [hn1]; unfold nmA nmF; rw [← hn1]; show _ = #[_, _, _, _, _]; rw [← hng]; rfl
    clear hn1 hng
    have HO : Hid _ := ho
    clear ho hd hh hr hkb
    generalize hE1 : f + p.stop = E1 at *
    have HE1 : Hid (f + p.stop = E1) := hE1
    clear hE1
    unfold nmF at cD
    unfold zero5 at cH
    unfold zero5 at cR
    go_enter Tryz.func61, Tryz.ntmps61
    go_wp2_with (go_at_call 72; refine (csg _).mono ?_; rintro e w' ⟨rfl, hw⟩; rw [hw])
    rw [show w.alloc (.cells #[.int .i64 0, .bool false, .string ⟨#[]⟩, .int .i64 0, .string ⟨#[]⟩] 30) = w0 from HW0.out.symm, show w.heap.size = g4 from HG4.out]
    refine (cD _).mono ?_
    rintro e w1 ⟨hb1, rfl⟩
    have B14 := HB0.out.later hb1
    have hbA := hb0.trans (hb1.mono (by rw [← HG4.out]; exact hb0.size))
    have BN := Bk.new w1 30 (nmF n1 false)
    have hbn : Below w1.heap.size w1 (w1.alloc (.cells (nmF n1 false) 30)) := (Below.refl _ w1).alloc (Nat.le_refl _) _
    have B24 := B14.later hbn
    have hl4 := B14.lt
    have hbX : g4 ≤ w1.heap.size := Nat.le_of_lt hl4
    obtain ⟨g10, hg10⟩ : ∃ g10, g10 = w1.heap.size := ⟨_, rfl⟩
    have hbB := hbA.trans (hbn.mono hbX)
    clear hbX
    unfold nmF at BN hbn hbB B24
    go_wp2_with fail
    obtain ⟨wa, hwa⟩ : ∃ wa, wa = w1.alloc (.cells #[.int .i64 n1.kind, .bool false, .string (str n1.num), .int .i64 n1.exp, .string (str n1.den)] 30) := ⟨_, rfl⟩
    rw [← hwa, ← hg10]
    rw [← hwa] at BN hbB B24
    rw [← hg10] at BN hl4
    clear hwa hbn B14 hb1 hg10
    refine (cH _).mono ?_
    rintro e w2 ⟨hb2, rfl⟩
    have C4 := B24.later hb2
    have C10 := BN.later hb2
    have hbC := hbB.trans (hb2.mono (by have := B24.lt; omega))
    have hl10 := C10.lt
    have ne1 : ¬ g4 = g10 := by omega
    have ne2 : ¬ g10 = g4 := by omega
    obtain ⟨g13, hg13⟩ : ∃ g13, g13 = w2.heap.size := ⟨_, rfl⟩
    have ne3 : ¬ g10 = g13 := by omega
    have ne4 : ¬ g13 = g10 := by omega
    have ne5 : ¬ g4 = g13 := by omega
    have ne6 : ¬ g13 = g4 := by omega
    have le13 : g4 ≤ g13 := by omega
    have le10 : g4 ≤ g10 := by omega
    have HG13 : Hid (g13 = w2.heap.size) := hg13
    have h13 : w2.heap.size = g13 := hg13.symm
    clear B24 BN hb2 hbB hg13
    have t0 := C10.cell 0 rfl
    have tf0 := C10.frozen 0
    have t1 := C10.cell 1 rfl
    have tf1 := C10.frozen 1
    have t2 := C10.cell 2 rfl
    have tf2 := C10.frozen 2
    have t3 := C10.cell 3 rfl
    have tf3 := C10.frozen 3
    have t4 := C10.cell 4 rfl
    have tf4 := C10.frozen 4
    clear h13
    go_wp2_with fail
    have hg13 := HG13.out
    try rw [← hg13]
    have D10 := C10
    have D4 := C4
    have hbD := hbC
    obtain ⟨w5, hw5⟩ : ∃ w5, w5 = w2 := ⟨_, rfl⟩
    rw [← hw5]
    rw [← hw5] at D10 D4 hbD hg13
    clear hw5
    have hbm : Below w5.heap.size w5 (w5.alloc (.cells #[.int .i64 0, .bool false, .string ⟨#[]⟩, .int .i64 0, .string ⟨#[]⟩] 30)) := (Below.refl _ w5).alloc (Nat.le_refl _) _
    have E13 := Bk.new w5 30 #[.int .i64 0, .bool false, .string ⟨#[]⟩, .int .i64 0, .string ⟨#[]⟩]
    rw [← hg13] at E13
    clear hg13 HG13
    have E10 := D10.later hbm
    have E4 := D4.later hbm
    have hbE := hbD.trans (hbm.mono (by have := D4.lt; omega))
    generalize w5.alloc (.cells #[.int .i64 0, .bool false, .string ⟨#[]⟩, .int .i64 0, .string ⟨#[]⟩] 30) = w6 at *
    refine (cR _).mono ?_
    rintro e w3 ⟨hb3, rfl⟩
    have F13 := E13.later hb3
    have F10 := E10.later hb3
    have F4 := E4.later hb3
    have hbF := hbE.trans (hb3.mono (by have := E4.lt; omega))
    clear E13 E10 E4 hb3 hbE D10 D4 hbD hbm C10 C4 hbC
    have x0 := F13.cell 0 rfl
    have xf0 := F13.frozen 0
    have x1 := F13.cell 1 rfl
    have xf1 := F13.frozen 1
    have x2 := F13.cell 2 rfl
    have xf2 := F13.frozen 2
    have x3 := F13.cell 3 rfl
    have xf3 := F13.frozen 3
    have x4 := F13.cell 4 rfl
    have xf4 := F13.frozen 4
    have y0 := F10.cell 0 rfl
    have yf0 := F10.frozen 0
    have y1 := F10.cell 1 rfl
    have yf1 := F10.frozen 1
    have y2 := F10.cell 2 rfl
    have yf2 := F10.frozen 2
    have y3 := F10.cell 3 rfl
    have yf3 := F10.frozen 3
    have y4 := F10.cell 4 rfl
    have yf4 := F10.frozen 4
    have z0 := F4.cell 0 rfl
    have zf0 := F4.frozen 0
    have z1 := F4.cell 1 rfl
    have zf1 := F4.frozen 1
    have z2 := F4.cell 2 rfl
    have zf2 := F4.frozen 2
    have z3 := F4.cell 3 rfl
    have zf3 := F4.frozen 3
    have z4 := F4.cell 4 rfl
    have zf4 := F4.frozen 4
    have HF4 : Hid (Bk w3 g4 30 zero5) := F4
    clear F4 F10 F13
    go_wp2
    have HBF : Hid (Below g4 w w3) := hbF
    refine bodyPost_ret (results_c3 rfl _ _ g4 30 (nmF n1 false) _ rfl (Bk.all5 (by (repeat (refine Bk.set_ne ?_ (by assumption))); exact HF4.out) _ _ _ _ _) Tryz.underlying30 rfl (by kernel_rfl)) rfl ?_
    refine ⟨?_, ?_⟩
    · rw [HG4.out]
      refine below_set (below_set (below_set (below_set (below_set ?_ (Nat.le_refl _) (by rw [HG4.out]; exact Nat.le_refl _)) (Nat.le_refl _) (by rw [HG4.out]; exact Nat.le_refl _)) (Nat.le_refl _) (by rw [HG4.out]; exact Nat.le_refl _)) (Nat.le_refl _) (by rw [HG4.out]; exact Nat.le_refl _)) (Nat.le_refl _) (by rw [HG4.out]; exact Nat.le_refl _)
      repeat (refine below_set ?_ (by omega) (by rw [HG4.out]; exact Nat.le_refl _))
      exact HBF.out
    · exact Or.inr ⟨p, HO.out, by rw [HN.out, HE1.out]; rfl⟩
  · skip
    have cD := fun w => (dec9_any s (f + 1) 1 f false hs hkk hkb w).mono (fun e w' h => h.some hd)
    have cH := fun w => (hexa9_any s (f + 1) 1 f false hs hkk hkb w).mono (fun e w' h => h.some hh)
    have cR := fun w => (rat9_any s (f + 1) 1 f false hs hkk hkb w).mono (fun e w' h => h.none hr)
    have hng := hex_neg hh
    generalize hn0 : numR p = n1 at *
    generalize hn1 : numR q = n2 at *
    have HN : Hid (nmA (numR q) = nmF n2 false) := by unfold Hid; rw [hn1]; unfold nmA nmF; rw [← hn1]; show _ = #[_, _, _, _, _]; rw [← hng]; rfl
    clear hn0
    clear hn1 hng
    have hgt : ((f + p.stop : Nat) : Int) < ((f + q.stop : Nat) : Int) := by omega
    have HO : Hid _ := ho
    clear ho hd hh hr hkb
    generalize hE1 : f + p.stop = E1 at *
    generalize hE2 : f + q.stop = E2 at *
    have HE1 : Hid (f + p.stop = E1) := hE1
    clear hE1
    have HE2 : Hid (f + q.stop = E2) := hE2
    clear hE2
    unfold nmF at cD
    unfold nmF at cH
    unfold zero5 at cR
    go_enter Tryz.func61, Tryz.ntmps61
    go_wp2_with (go_at_call 72; refine (csg _).mono ?_; rintro e w' ⟨rfl, hw⟩; rw [hw])
    rw [show w.alloc (.cells #[.int .i64 0, .bool false, .string ⟨#[]⟩, .int .i64 0, .string ⟨#[]⟩] 30) = w0 from HW0.out.symm, show w.heap.size = g4 from HG4.out]
    refine (cD _).mono ?_
    rintro e w1 ⟨hb1, rfl⟩
    have B14 := HB0.out.later hb1
    have hbA := hb0.trans (hb1.mono (by rw [← HG4.out]; exact hb0.size))
    have BN := Bk.new w1 30 (nmF n1 false)
    have hbn : Below w1.heap.size w1 (w1.alloc (.cells (nmF n1 false) 30)) := (Below.refl _ w1).alloc (Nat.le_refl _) _
    have B24 := B14.later hbn
    have hl4 := B14.lt
    have hbX : g4 ≤ w1.heap.size := Nat.le_of_lt hl4
    obtain ⟨g10, hg10⟩ : ∃ g10, g10 = w1.heap.size := ⟨_, rfl⟩
    have hbB := hbA.trans (hbn.mono hbX)
    clear hbX
    unfold nmF at BN hbn hbB B24
    go_wp2_with fail
    obtain ⟨wa, hwa⟩ : ∃ wa, wa = w1.alloc (.cells #[.int .i64 n1.kind, .bool false, .string (str n1.num), .int .i64 n1.exp, .string (str n1.den)] 30) := ⟨_, rfl⟩
    rw [← hwa, ← hg10]
    rw [← hwa] at BN hbB B24
    rw [← hg10] at BN hl4
    clear hwa hbn B14 hb1 hg10
    refine (cH _).mono ?_
    rintro e w2 ⟨hb2, rfl⟩
    have C4 := B24.later hb2
    have C10 := BN.later hb2
    have hbC := hbB.trans (hb2.mono (by have := B24.lt; omega))
    have hl10 := C10.lt
    have ne1 : ¬ g4 = g10 := by omega
    have ne2 : ¬ g10 = g4 := by omega
    obtain ⟨g13, hg13⟩ : ∃ g13, g13 = w2.heap.size := ⟨_, rfl⟩
    have ne3 : ¬ g10 = g13 := by omega
    have ne4 : ¬ g13 = g10 := by omega
    have ne5 : ¬ g4 = g13 := by omega
    have ne6 : ¬ g13 = g4 := by omega
    have le13 : g4 ≤ g13 := by omega
    have le10 : g4 ≤ g10 := by omega
    have HG13 : Hid (g13 = w2.heap.size) := hg13
    have h13 : w2.heap.size = g13 := hg13.symm
    clear B24 BN hb2 hbB hg13
    have t0 := C10.cell 0 rfl
    have tf0 := C10.frozen 0
    have t1 := C10.cell 1 rfl
    have tf1 := C10.frozen 1
    have t2 := C10.cell 2 rfl
    have tf2 := C10.frozen 2
    have t3 := C10.cell 3 rfl
    have tf3 := C10.frozen 3
    have t4 := C10.cell 4 rfl
    have tf4 := C10.frozen 4
    have D10 := Bk.set (Bk.set (Bk.set (Bk.set (Bk.set C10 0 (.int .i64 n2.kind)) 1 (.bool false)) 2 (.string (str n2.num))) 3 (.int .i64 n2.exp)) 4 (.string (str n2.den))
    have T10 := Tn.all5 w2 g10 (.int .i64 n2.kind) (.bool false) (.string (str n2.num)) (.int .i64 n2.exp) (.string (str n2.den))
    have D4 := C4.tn T10 ne1
    have hbD := Tn.below hbC T10 (by omega) (by rw [HG4.out]; exact Nat.le_refl _)
    have HZ13 : Hid (w2.heap.size = (((((w2.setCell ⟨g10, 0, none⟩ (.int .i64 n2.kind)).setCell ⟨g10, 1, none⟩ (.bool false)).setCell ⟨g10, 2, none⟩ (.string (str n2.num))).setCell ⟨g10, 3, none⟩ (.int .i64 n2.exp)).setCell ⟨g10, 4, none⟩ (.string (str n2.den))).heap.size) := by simp [Hid, World.setCell]
    clear h13
    go_wp2_with fail
    have hg13 := HG13.out
    try rw [← hg13]
    rw [HZ13.out] at hg13
    clear HZ13
    generalize ((((w2.setCell ⟨g10, 0, none⟩ (.int .i64 n2.kind)).setCell ⟨g10, 1, none⟩ (.bool false)).setCell ⟨g10, 2, none⟩ (.string (str n2.num))).setCell ⟨g10, 3, none⟩ (.int .i64 n2.exp)).setCell ⟨g10, 4, none⟩ (.string (str n2.den)) = w5 at *
    have hbm : Below w5.heap.size w5 (w5.alloc (.cells #[.int .i64 n2.kind, .bool false, .string (str n2.num), .int .i64 n2.exp, .string (str n2.den)] 30)) := (Below.refl _ w5).alloc (Nat.le_refl _) _
    have E13 := Bk.new w5 30 #[.int .i64 n2.kind, .bool false, .string (str n2.num), .int .i64 n2.exp, .string (str n2.den)]
    rw [← hg13] at E13
    clear hg13 HG13
    have E10 := D10.later hbm
    have E4 := D4.later hbm
    have hbE := hbD.trans (hbm.mono (by have := D4.lt; omega))
    generalize w5.alloc (.cells #[.int .i64 n2.kind, .bool false, .string (str n2.num), .int .i64 n2.exp, .string (str n2.den)] 30) = w6 at *
    refine (cR _).mono ?_
    rintro e w3 ⟨hb3, rfl⟩
    have F13 := E13.later hb3
    have F10 := E10.later hb3
    have F4 := E4.later hb3
    have hbF := hbE.trans (hb3.mono (by have := E4.lt; omega))
    clear E13 E10 E4 hb3 hbE D10 D4 hbD hbm C10 C4 hbC
    have x0 := F13.cell 0 rfl
    have xf0 := F13.frozen 0
    have x1 := F13.cell 1 rfl
    have xf1 := F13.frozen 1
    have x2 := F13.cell 2 rfl
    have xf2 := F13.frozen 2
    have x3 := F13.cell 3 rfl
    have xf3 := F13.frozen 3
    have x4 := F13.cell 4 rfl
    have xf4 := F13.frozen 4
    have y0 := F10.cell 0 rfl
    have yf0 := F10.frozen 0
    have y1 := F10.cell 1 rfl
    have yf1 := F10.frozen 1
    have y2 := F10.cell 2 rfl
    have yf2 := F10.frozen 2
    have y3 := F10.cell 3 rfl
    have yf3 := F10.frozen 3
    have y4 := F10.cell 4 rfl
    have yf4 := F10.frozen 4
    have z0 := F4.cell 0 rfl
    have zf0 := F4.frozen 0
    have z1 := F4.cell 1 rfl
    have zf1 := F4.frozen 1
    have z2 := F4.cell 2 rfl
    have zf2 := F4.frozen 2
    have z3 := F4.cell 3 rfl
    have zf3 := F4.frozen 3
    have z4 := F4.cell 4 rfl
    have zf4 := F4.frozen 4
    have HF4 : Hid (Bk w3 g4 30 zero5) := F4
    clear F4 F10 F13
    go_wp2
    have HBF : Hid (Below g4 w w3) := hbF
    refine bodyPost_ret (results_c3 rfl _ _ g4 30 (nmF n2 false) _ rfl (Bk.all5 (by (repeat (refine Bk.set_ne ?_ (by assumption))); exact HF4.out) _ _ _ _ _) Tryz.underlying30 rfl (by kernel_rfl)) rfl ?_
    refine ⟨?_, ?_⟩
    · rw [HG4.out]
      refine below_set (below_set (below_set (below_set (below_set ?_ (Nat.le_refl _) (by rw [HG4.out]; exact Nat.le_refl _)) (Nat.le_refl _) (by rw [HG4.out]; exact Nat.le_refl _)) (Nat.le_refl _) (by rw [HG4.out]; exact Nat.le_refl _)) (Nat.le_refl _) (by rw [HG4.out]; exact Nat.le_refl _)) (Nat.le_refl _) (by rw [HG4.out]; exact Nat.le_refl _)
      repeat (refine below_set ?_ (by omega) (by rw [HG4.out]; exact Nat.le_refl _))
      exact HBF.out
    · exact Or.inr ⟨q, HO.out, by rw [HN.out, HE2.out]; rfl⟩
  · skip
    have cD := fun w => (dec9_any s (f + 1) 1 f false hs hkk hkb w).mono (fun e w' h => h.some hd)
    have cH := fun w => (hexa9_any s (f + 1) 1 f false hs hkk hkb w).mono (fun e w' h => h.none hh)
    have cR := fun w => (rat9_any s (f + 1) 1 f false hs hkk hkb w).mono (fun e w' h => h.some hr)
    have hng := rat_neg hr
    generalize hn0 : numR p = n1 at *
    generalize hn1 : numR q = n2 at *
    have HN : Hid (nmA (numR q) = nmF n2 false) := by unfold Hid; rw [hn1]; unfold nmA nmF; rw [← hn1]; show _ = #[_, _, _, _, _]; rw [← hng]; rfl
    clear hn0
    clear hn1 hng
    have hgt : ((f + p.stop : Nat) : Int) < ((f + q.stop : Nat) : Int) := by omega
    have HO : Hid _ := ho
    clear ho hd hh hr hkb
    generalize hE1 : f + p.stop = E1 at *
    generalize hE2 : f + q.stop = E2 at *
    have HE1 : Hid (f + p.stop = E1) := hE1
    clear hE1
    have HE2 : Hid (f + q.stop = E2) := hE2
    clear hE2
    unfold nmF at cD
    unfold zero5 at cH
    unfold nmF at cR
    go_enter Tryz.func61, Tryz.ntmps61
    go_wp2_with (go_at_call 72; refine (csg _).mono ?_; rintro e w' ⟨rfl, hw⟩; rw [hw])
    rw [show w.alloc (.cells #[.int .i64 0, .bool false, .string ⟨#[]⟩, .int .i64 0, .string ⟨#[]⟩] 30) = w0 from HW0.out.symm, show w.heap.size = g4 from HG4.out]
    refine (cD _).mono ?_
    rintro e w1 ⟨hb1, rfl⟩
    have B14 := HB0.out.later hb1
    have hbA := hb0.trans (hb1.mono (by rw [← HG4.out]; exact hb0.size))
    have BN := Bk.new w1 30 (nmF n1 false)
    have hbn : Below w1.heap.size w1 (w1.alloc (.cells (nmF n1 false) 30)) := (Below.refl _ w1).alloc (Nat.le_refl _) _
    have B24 := B14.later hbn
    have hl4 := B14.lt
    have hbX : g4 ≤ w1.heap.size := Nat.le_of_lt hl4
    obtain ⟨g10, hg10⟩ : ∃ g10, g10 = w1.heap.size := ⟨_, rfl⟩
    have hbB := hbA.trans (hbn.mono hbX)
    clear hbX
    unfold nmF at BN hbn hbB B24
    go_wp2_with fail
    obtain ⟨wa, hwa⟩ : ∃ wa, wa = w1.alloc (.cells #[.int .i64 n1.kind, .bool false, .string (str n1.num), .int .i64 n1.exp, .string (str n1.den)] 30) := ⟨_, rfl⟩
    rw [← hwa, ← hg10]
    rw [← hwa] at BN hbB B24
    rw [← hg10] at BN hl4
    clear hwa hbn B14 hb1 hg10
    refine (cH _).mono ?_
    rintro e w2 ⟨hb2, rfl⟩
    have C4 := B24.later hb2
    have C10 := BN.later hb2
    have hbC := hbB.trans (hb2.mono (by have := B24.lt; omega))
    have hl10 := C10.lt
    have ne1 : ¬ g4 = g10 := by omega
    have ne2 : ¬ g10 = g4 := by omega
    obtain ⟨g13, hg13⟩ : ∃ g13, g13 = w2.heap.size := ⟨_, rfl⟩
    have ne3 : ¬ g10 = g13 := by omega
    have ne4 : ¬ g13 = g10 := by omega
    have ne5 : ¬ g4 = g13 := by omega
    have ne6 : ¬ g13 = g4 := by omega
    have le13 : g4 ≤ g13 := by omega
    have le10 : g4 ≤ g10 := by omega
    have HG13 : Hid (g13 = w2.heap.size) := hg13
    have h13 : w2.heap.size = g13 := hg13.symm
    clear B24 BN hb2 hbB hg13
    have t0 := C10.cell 0 rfl
    have tf0 := C10.frozen 0
    have t1 := C10.cell 1 rfl
    have tf1 := C10.frozen 1
    have t2 := C10.cell 2 rfl
    have tf2 := C10.frozen 2
    have t3 := C10.cell 3 rfl
    have tf3 := C10.frozen 3
    have t4 := C10.cell 4 rfl
    have tf4 := C10.frozen 4
    clear h13
    go_wp2_with fail
    have hg13 := HG13.out
    try rw [← hg13]
    have D10 := C10
    have D4 := C4
    have hbD := hbC
    obtain ⟨w5, hw5⟩ : ∃ w5, w5 = w2 := ⟨_, rfl⟩
    rw [← hw5]
    rw [← hw5] at D10 D4 hbD hg13
    clear hw5
    have hbm : Below w5.heap.size w5 (w5.alloc (.cells #[.int .i64 0, .bool false, .string ⟨#[]⟩, .int .i64 0, .string ⟨#[]⟩] 30)) := (Below.refl _ w5).alloc (Nat.le_refl _) _
    have E13 := Bk.new w5 30 #[.int .i64 0, .bool false, .string ⟨#[]⟩, .int .i64 0, .string ⟨#[]⟩]
    rw [← hg13] at E13
    clear hg13 HG13
    have E10 := D10.later hbm
    have E4 := D4.later hbm
    have hbE := hbD.trans (hbm.mono (by have := D4.lt; omega))
    generalize w5.alloc (.cells #[.int .i64 0, .bool false, .string ⟨#[]⟩, .int .i64 0, .string ⟨#[]⟩] 30) = w6 at *
    refine (cR _).mono ?_
    rintro e w3 ⟨hb3, rfl⟩
    have F13 := E13.later hb3
    have F10 := E10.later hb3
    have F4 := E4.later hb3
    have hbF := hbE.trans (hb3.mono (by have := E4.lt; omega))
    clear E13 E10 E4 hb3 hbE D10 D4 hbD hbm C10 C4 hbC
    have x0 := F13.cell 0 rfl
    have xf0 := F13.frozen 0
    have x1 := F13.cell 1 rfl
    have xf1 := F13.frozen 1
    have x2 := F13.cell 2 rfl
    have xf2 := F13.frozen 2
    have x3 := F13.cell 3 rfl
    have xf3 := F13.frozen 3
    have x4 := F13.cell 4 rfl
    have xf4 := F13.frozen 4
    have y0 := F10.cell 0 rfl
    have yf0 := F10.frozen 0
    have y1 := F10.cell 1 rfl
    have yf1 := F10.frozen 1
    have y2 := F10.cell 2 rfl
    have yf2 := F10.frozen 2
    have y3 := F10.cell 3 rfl
    have yf3 := F10.frozen 3
    have y4 := F10.cell 4 rfl
    have yf4 := F10.frozen 4
    have z0 := F4.cell 0 rfl
    have zf0 := F4.frozen 0
    have z1 := F4.cell 1 rfl
    have zf1 := F4.frozen 1
    have z2 := F4.cell 2 rfl
    have zf2 := F4.frozen 2
    have z3 := F4.cell 3 rfl
    have zf3 := F4.frozen 3
    have z4 := F4.cell 4 rfl
    have zf4 := F4.frozen 4
    go_upto_region 17 with (fail)
    have T13 := Tn.all5 w3 g13 (.int .i64 n2.kind) (.bool false) (.string (str n2.num)) (.int .i64 n2.exp) (.string (str n2.den))
    have G13 := Bk.all5 F13 (.int .i64 n2.kind) (.bool false) (.string (str n2.num)) (.int .i64 n2.exp) (.string (str n2.den))
    have G10 := F10.tn T13 ne3
    have G4 := F4.tn T13 ne5
    have hbG := Tn.below hbF T13 le13 (by rw [HG4.out]; exact Nat.le_refl _)
    clear x0 xf0 x1 xf1 x2 xf2 x3 xf3 x4 xf4 y0 yf0 y1 yf1 y2 yf2 y3 yf3 y4 yf4 z0 zf0 z1 zf1 z2 zf2 z3 zf3 z4 zf4 F4 F10 F13 hbF T13
    generalize ((((w3.setCell ⟨g13, 0, none⟩ (.int .i64 n2.kind)).setCell ⟨g13, 1, none⟩ (.bool false)).setCell ⟨g13, 2, none⟩ (.string (str n2.num))).setCell ⟨g13, 3, none⟩ (.int .i64 n2.exp)).setCell ⟨g13, 4, none⟩ (.string (str n2.den)) = w7 at *
    have x0 := G13.cell 0 rfl
    have xf0 := G13.frozen 0
    have x1 := G13.cell 1 rfl
    have xf1 := G13.frozen 1
    have x2 := G13.cell 2 rfl
    have xf2 := G13.frozen 2
    have x3 := G13.cell 3 rfl
    have xf3 := G13.frozen 3
    have x4 := G13.cell 4 rfl
    have xf4 := G13.frozen 4
    have y0 := G10.cell 0 rfl
    have yf0 := G10.frozen 0
    have y1 := G10.cell 1 rfl
    have yf1 := G10.frozen 1
    have y2 := G10.cell 2 rfl
    have yf2 := G10.frozen 2
    have y3 := G10.cell 3 rfl
    have yf3 := G10.frozen 3
    have y4 := G10.cell 4 rfl
    have yf4 := G10.frozen 4
    have z0 := G4.cell 0 rfl
    have zf0 := G4.frozen 0
    have z1 := G4.cell 1 rfl
    have zf1 := G4.frozen 1
    have z2 := G4.cell 2 rfl
    have zf2 := G4.frozen 2
    have z3 := G4.cell 3 rfl
    have zf3 := G4.frozen 3
    have z4 := G4.cell 4 rfl
    have zf4 := G4.frozen 4
    go_upto_region 24 with (fail)
    have T10 := (Tn.all5 w7 g10 (.int .i64 n2.kind) (.bool false) (.string (str n2.num)) (.int .i64 n2.exp) (.string (str n2.den))).set 1 (.bool false)
    have J10 := Bk.six G10 (.int .i64 n2.kind) (.bool false) (.string (str n2.num)) (.int .i64 n2.exp) (.string (str n2.den)) (.bool false)
    have J4 := G4.tn T10 ne1
    have hbJ := Tn.below hbG T10 le10 (by rw [HG4.out]; exact Nat.le_refl _)
    clear x0 xf0 x1 xf1 x2 xf2 x3 xf3 x4 xf4 y0 yf0 y1 yf1 y2 yf2 y3 yf3 y4 yf4 z0 zf0 z1 zf1 z2 zf2 z3 zf3 z4 zf4 G4 G10 G13 hbG T10
    generalize (((((w7.setCell ⟨g10, 0, none⟩ (.int .i64 n2.kind)).setCell ⟨g10, 1, none⟩ (.bool false)).setCell ⟨g10, 2, none⟩ (.string (str n2.num))).setCell ⟨g10, 3, none⟩ (.int .i64 n2.exp)).setCell ⟨g10, 4, none⟩ (.string (str n2.den))).setCell ⟨g10, 1, none⟩ (.bool false) = w8 at *
    have y0 := J10.cell 0 rfl
    have y1 := J10.cell 1 rfl
    have y2 := J10.cell 2 rfl
    have y3 := J10.cell 3 rfl
    have y4 := J10.cell 4 rfl
    have z0 := J4.cell 0 rfl
    have zf0 := J4.frozen 0
    have z1 := J4.cell 1 rfl
    have zf1 := J4.frozen 1
    have z2 := J4.cell 2 rfl
    have zf2 := J4.frozen 2
    have z3 := J4.cell 3 rfl
    have zf3 := J4.frozen 3
    have z4 := J4.cell 4 rfl
    have zf4 := J4.frozen 4
    have HF4 : Hid (Bk w8 g4 30 zero5) := J4
    have hbF := hbJ
    clear J4 J10 hbJ
    go_wp2
    have HBF : Hid (Below g4 w w8) := hbF
    refine bodyPost_ret (results_c3 rfl _ _ g4 30 (nmF n2 false) _ rfl (Bk.all5 (by (repeat (refine Bk.set_ne ?_ (by assumption))); exact HF4.out) _ _ _ _ _) Tryz.underlying30 rfl (by kernel_rfl)) rfl ?_
    refine ⟨?_, ?_⟩
    · rw [HG4.out]
      refine below_set (below_set (below_set (below_set (below_set ?_ (Nat.le_refl _) (by rw [HG4.out]; exact Nat.le_refl _)) (Nat.le_refl _) (by rw [HG4.out]; exact Nat.le_refl _)) (Nat.le_refl _) (by rw [HG4.out]; exact Nat.le_refl _)) (Nat.le_refl _) (by rw [HG4.out]; exact Nat.le_refl _)) (Nat.le_refl _) (by rw [HG4.out]; exact Nat.le_refl _)
      repeat (refine below_set ?_ (by omega) (by rw [HG4.out]; exact Nat.le_refl _))
      exact HBF.out
    · exact Or.inr ⟨q, HO.out, by rw [HN.out, HE2.out]; rfl⟩
end Go.Proofs.YtfgpjplfplbcdaaGreatDoor


import Derived.Below
import Derived.BigQuiet
import Derived.ChangeOld
import Derived.Deep.CutRange
import Derived.Deep.LoopGhost
import Derived.Deep.QuietTactic
import Derived.Deep.RegionHeld3
import Derived.Deep.RegionWith
import Derived.Deep.WholeRow
import Derived.KernelRfl
import Derived.LaidEql
import Derived.Laws.BitsAllLaws
import Derived.Laws.CopyRow
import Derived.Laws.EntriesVeiled
import Derived.Laws.Externs
import Derived.Laws.IdiomCopy
import Derived.Laws.IdiomRangeMap
import Derived.Laws.RangeString
import Derived.Laws.ResultCell
import Derived.Laws.Runes
import Derived.Laws.Strings3
import Derived.Lib.AsciiSet
import Derived.Lib.AtoiErrMem
import Derived.Lib.BufferRead
import Derived.Lib.Bytealg
import Derived.Lib.ConvBytes
import Derived.Lib.IndexBytes
import Derived.Lib.Strings
import Derived.Lib.TrimByte
import Derived.Lib.Walk
import Derived.OpenShut
import Derived.OwnWalk
import Derived.ProofKit
import Derived.RowKitTokens
import Derived.Shelf.Strconv.Clone
import Derived.Shelf.Strings.OnBuilder
import Derived.ShutString
import Derived.Stop.Asserts
import Derived.WalkKit
import Derived.WalkLawsBesides
import Derived.WalkSpells
import Derived.Test.YtfgpjplfplbcdaaGreatDoorPb18
import Derived.Test.YtfgpjplfplbcdaaGreatDoorPb20
import Derived.Test.YtfgpjplfplbcdaaGreatDoorPb21
/- Layer 18: the document's At. -/
namespace Go.Proofs.YtfgpjplfplbcdaaGreatDoor
open Go.ChangeShapes Go.WideShapes Go.ChangeAt Go.RowKit
open Lx Tk
set_option linter.unusedVariables false
theorem Lx.Tn.of_below18 {g : Nat} {a w : World} (h : Below a.heap.size a w) : Tn g a w := ⟨h.os, h.tape, h.output, h.size, fun k hk _ => h.block k hk⟩
theorem Lx.Bk.tn18 {w w' : World} {i x : Nat} {t : TypeId} {vs : Array Value} (h : Bk w i t vs) (hT : Tn x w w') (hi : i ≠ x) : Bk w' i t vs := by
  have := h.lt
  unfold Bk at *
  rw [hT.block _ this hi]; exact h
theorem alloc_size18 (w : World) (o : Obj) : (w.alloc o).heap.size = w.heap.size + 1 := by simp
namespace Tk
def ctC0 (c : Ct) : Int := if c.kind = -1 then 180 else 0
/-- what the document's At answers -/
def AtR (w : World) (k : Nat) (c : Ct) (e : Ending) (w' : World) : Prop := e = .returned (.tuple #[.agg (ctA k c), .int .i64 (ctC0 c), .int .i64 (ctW k c)]) ∧ Below w.heap.size w w'
theorem AtR.ok {w w' : World} {k n : Nat} {c : Ct} {e : Ending} (h : c.kind ≠ -1) (h0 : c.fr = 0) (he : e = .returned (.tuple #[.agg (tkA c.kind ((k + n : Nat) : Int) ((k + n + c.to : Nat) : Int) c.word c.num), .int .i64 0, .int .i64 (-1)])) (hb : Below w.heap.size w w') : AtR w k (c.move n) e w' := by
  unfold AtR
  rw [ctA_ok h h0, ctW_ok h, show ctC0 (c.move n) = 0 from if_neg h]
  exact ⟨he, hb⟩
theorem AtR.bad {w w' : World} {k n j : Nat} {e : Ending} (he : e = .returned (.tuple #[.agg zero9, .int .i64 180, .int .i64 ((k + n + j : Nat) : Int)])) (hb : Below w.heap.size w w') : AtR w k ((Ct.bad j).move n) e w' := by
  unfold AtR
  rw [ctA_bad, ctW_bad, show ctC0 ((Ct.bad j).move n) = 180 from rfl]
  exact ⟨he, hb⟩
end Tk
set_option maxHeartbeats 12800000 in
set_option maxRecDepth 100000 in
theorem at18_any (s : ByteArray) (k : Nat) (hs : s.size ≤ 2000000) (hk : k ≤ s.size) (w : World) :
    Calls Tryz.prog 44 #[.string s, .int .i64 (k : Int)] w (AtR w k (cutR (s.data.toList.drop k))) := by
  have hlen : (s.data.toList.drop k).length = s.size - k := by rw [List.length_drop, ← Lib.size_eq]
  have B0 := Bk.new w 32 zero9
  have HB : Hid (Bk (w.alloc (.cells zero9 32)) w.heap.size 32 zero9) := B0
  have hb0 : Below w.heap.size w (w.alloc (.cells zero9 32)) := (Below.refl _ w).alloc (Nat.le_refl _) _
  have HB0 : Hid _ := hb0
  clear B0 hb0
  go_enter Tryz.func44, Tryz.ntmps44
  go_wp2
  go_loop [1] (fun v => ∃ i : Nat, v = .int .i64 ((k + i : Nat) : Int) ∧ k + i ≤ s.size ∧ Hid (∀ (j : Nat) b, j < i → (s.data.toList.drop k)[j]? = some b → isBl b = true)) (fun v => s.size - (match v with | .int _ x => x.toNat | _ => 0))
  case atStart => exact ⟨0, rfl, by omega, fun j b hj => by omega⟩
  case round =>
    obtain ⟨i, rfl, hi, hc⟩ := hrel
    by_cases hp : k + i < s.size
    · have hpi : ((k + i : Nat) : Int) < (s.size : Int) := by omega
      have HX : Hid ((s.data.toList.drop k)[i]? = some (s[k + i]'hp)) := by
        unfold Hid
        rw [List.getElem?_drop]; exact Lib.data_getElem? s (k + i) hp
      have c1 := rblank18_any (s[k + i]'hp)
      cases hb : isBl (s[k + i]'hp)
      · rw [hb] at c1
        have hn : ((s.data.toList.drop k).takeWhile isBl).length = i := tk_stop' hc.out (fun b hb' => by rw [HX.out] at hb'; rw [← Option.some.inj hb']; exact hb) (by omega)
        have hcons := drop_cons_of hp
        have hdr : (s.data.toList.drop k).dropWhile isBl = (s[k + i]'hp) :: s.data.toList.drop (k + i + 1) := by
          rw [← drop_dk, hn, List.drop_drop, hcons]
        have hcut : cutR (s.data.toList.drop k) = (tokB (s[k + i]'hp) (s.data.toList.drop (k + i + 1))).move i := by
          rw [cutR_cons hdr, hn]
        have hne1 := kd_bl hb
        have e40 := beq_u8 (s[k + i]'hp) 40
        have e41 := beq_u8 (s[k + i]'hp) 41
        have e44 := beq_u8 (s[k + i]'hp) 44
        change (((s[k + i]'hp).toNat : Int) == 40) = _ at e40
        change (((s[k + i]'hp).toNat : Int) == 41) = _ at e41
        change (((s[k + i]'hp).toNat : Int) == 44) = _ at e44
        have cL := rletter18_any (s[k + i]'hp)
        have heq : (((k + i : Nat) : Int) == (s.size : Int)) = false := by rw [beq_eq_false_iff_ne]; omega
        have HCons : Hid _ := hcons
        clear HX hc hdr hn hcons hlen
        generalize hM : k + i = M at *
        have HM : Hid (k + i = M) := hM
        clear hM
        have hw1 : IntKind.i64.wrap ((M : Int) + 1) = (M : Int) + 1 := wrapI (by omega) (by omega)
        by_cases m40 : (s[M]'hp) = 40
        · have d40 : ((s[M]'hp) == 40) = true := by simpa using m40
          rw [d40] at e40
          have B1 := HB.out
          have ht : tokB (s[M]'hp) (s.data.toList.drop (M + 1)) = ⟨2, 0, 1, [], nmZ0⟩ := by rw [m40]; rfl
          rw [ht] at hcut
          have HCut : Hid (cutR (s.data.toList.drop k) = Ct.move i ⟨2, 0, 1, [], nmZ0⟩) := hcut
          clear hcut ht m40 d40 hb hne1 e41 e44 cL
          clear B1
          go_wp2_with (go_at_call 58; refine (c1 _).mono ?_; rintro e w' ⟨rfl, rfl⟩)
          refine bodyPost_ret (results_c2 rfl _ _ w.heap.size 32 _ _ rfl (Bk.more (Bk.new _ 32 _) _) Tryz.underlying32 rfl (by kernel_rfl)) rfl ?_
          rw [HCut.out]
          refine AtR.ok (by show (2 : Int) ≠ -1; omega) rfl ?_ (below_more ((Below.refl _ _).alloc (Nat.le_refl _) _) _)
          rw [HM.out]
          rfl
        · have d40 : ((s[M]'hp) == 40) = false := by simpa using m40
          rw [d40] at e40
          by_cases m41 : (s[M]'hp) = 41
          · have d41 : ((s[M]'hp) == 41) = true := by simpa using m41
            rw [d41] at e41
            have B1 := HB.out
            have ht : tokB (s[M]'hp) (s.data.toList.drop (M + 1)) = ⟨3, 0, 1, [], nmZ0⟩ := by rw [m41]; rfl
            rw [ht] at hcut
            have HCut : Hid (cutR (s.data.toList.drop k) = Ct.move i ⟨3, 0, 1, [], nmZ0⟩) := hcut
            clear hcut ht m41 d41 hb hne1 e44 cL m40 d40
            clear B1
            go_wp2_with (go_at_call 58; refine (c1 _).mono ?_; rintro e w' ⟨rfl, rfl⟩)
            refine bodyPost_ret (results_c2 rfl _ _ w.heap.size 32 _ _ rfl (Bk.more (Bk.new _ 32 _) _) Tryz.underlying32 rfl (by kernel_rfl)) rfl ?_
            rw [HCut.out]
            refine AtR.ok (by show (3 : Int) ≠ -1; omega) rfl ?_ (below_more ((Below.refl _ _).alloc (Nat.le_refl _) _) _)
            rw [HM.out]
            rfl
          · have d41 : ((s[M]'hp) == 41) = false := by simpa using m41
            rw [d41] at e41
            by_cases m44 : (s[M]'hp) = 44
            · have d44 : ((s[M]'hp) == 44) = true := by simpa using m44
              rw [d44] at e44
              have B1 := HB.out
              have ht : tokB (s[M]'hp) (s.data.toList.drop (M + 1)) = ⟨4, 0, 1, [], nmZ0⟩ := by rw [m44]; rfl
              rw [ht] at hcut
              have HCut : Hid (cutR (s.data.toList.drop k) = Ct.move i ⟨4, 0, 1, [], nmZ0⟩) := hcut
              clear hcut ht m44 d44 hb hne1 cL m40 m41 d40 d41
              clear B1
              go_wp2_with (go_at_call 58; refine (c1 _).mono ?_; rintro e w' ⟨rfl, rfl⟩)
              refine bodyPost_ret (results_c2 rfl _ _ w.heap.size 32 _ _ rfl (Bk.more (Bk.new _ 32 _) _) Tryz.underlying32 rfl (by kernel_rfl)) rfl ?_
              rw [HCut.out]
              refine AtR.ok (by show (4 : Int) ≠ -1; omega) rfl ?_ (below_more ((Below.refl _ _).alloc (Nat.le_refl _) _) _)
              rw [HM.out]
              rfl
            · have d44 : ((s[M]'hp) == 44) = false := by simpa using m44
              rw [d44] at e44
              cases hL : isLt (s[M]'hp)
              · rw [hL] at cL
                have hk0 : kd (s[M]'hp) = 0 := by
                  have := all_bytes (p := fun c => isBl c || isLt c || c == 40 || c == 41 || c == 44 || kd c == 0) (by kernel_rfl) (s[M]'hp)
                  rw [hb, hL, d40, d41, d44] at this
                  simpa using this
                clear d40 d41 d44 m40 m41 m44 hne1 hb hL
                rw [tokB_num hk0, ← HCons.out] at hcut
                have hok : scOk s ((M : Nat) : Int) ↔ (longestL ((s.data.toList.drop M).take 65536)).kind ≠ 0 := by
                  unfold scOk scanP
                  rw [Int.toNat_natCast]
                  exact ⟨fun h => h.2.2, fun h => ⟨by omega, by omega, h⟩⟩
                have cS := fun w => rscan9_all s hs (M : Int) w
                by_cases hz : (longestL ((s.data.toList.drop M).take 65536)).kind = 0
                · rw [if_pos hz] at hcut
                  have hno : ¬ scOk s ((M : Nat) : Int) := fun h => (hok.mp h) hz
                  have e1 : scN s (M : Int) = nmZ := by unfold scN; rw [if_neg hno]
                  have e2 : scT s (M : Int) = 0 := by unfold scT; rw [if_neg hno]
                  have e4 : scC s (M : Int) = 90 := by unfold scC; rw [if_neg hno]
                  have e3 : scP s (M : Int) = M := by unfold scP; rw [if_neg hno]
                  rw [e1, e2, e3, e4] at cS
                  unfold nmA nmZ at cS
                  simp only at cS
                  have HCut : Hid (cutR (s.data.toList.drop k) = Ct.move i (Ct.bad 0)) := hcut
                  have HBz : Hid (Below w.heap.size w ((w.alloc (.cells zero9 32)).alloc (.cells #[.int .i64 0, .int .i64 (M : Int), .int .i64 ((M : Int) + 1), .string ⟨#[]⟩, .int .i64 0, .bool false, .string ⟨#[]⟩, .int .i64 0, .string ⟨#[]⟩] 32))) := below_more HB0.out _
                  have HB2 : Hid (Bk ((w.alloc (.cells zero9 32)).alloc (.cells #[.int .i64 0, .int .i64 (M : Int), .int .i64 ((M : Int) + 1), .string ⟨#[]⟩, .int .i64 0, .bool false, .string ⟨#[]⟩, .int .i64 0, .string ⟨#[]⟩] 32)) w.heap.size 32 zero9) := Bk.more HB.out _
                  clear hcut hok hz hno e1 e2 e3 e4 HCons hk0
                  go_wp2_with (first | (go_at_call 58; refine (c1 _).mono ?_; rintro e w' ⟨rfl, rfl⟩) | (go_at_call 59; refine (cL _).mono ?_; rintro e w' ⟨rfl, rfl⟩))
                  refine (cS _).mono ?_
                  rintro e w2 ⟨rfl, hb2⟩
                  have B1 := HB2.out.later hb2
                  have hbB := HBz.out.trans (hb2.mono HBz.out.size)
                  have hlt : w.heap.size < w2.heap.size := B1.lt
                  have ne1 : ¬ w.heap.size = w2.heap.size := by omega
                  have ne2 : ¬ w2.heap.size = w.heap.size := by omega
                  clear hb2 HB2 HBz cS cL c1
                  have z := fun i v h => B1.cell i (v := v) h
                  have zf := B1.frozen
                  have z0 := z 0 _ rfl
                  have z1 := z 1 _ rfl
                  have z2 := z 2 _ rfl
                  have z3 := z 3 _ rfl
                  have z4 := z 4 _ rfl
                  have z5 := z 5 _ rfl
                  have z6 := z 6 _ rfl
                  have z7 := z 7 _ rfl
                  have z8 := z 8 _ rfl
                  have f0 := zf 0
                  have f1 := zf 1
                  have f2 := zf 2
                  have f3 := zf 3
                  have f4 := zf 4
                  have f5 := zf 5
                  have f6 := zf 6
                  have f7 := zf 7
                  have f8 := zf 8
                  have HB1 : Hid (Bk _ w.heap.size 32 zero9) := B1
                  clear B1 z zf
                  go_wp2
                  refine bodyPost_ret (results_c2 rfl _ _ w.heap.size 32 _ _ rfl (Bk.more (Bk.all9 HB1.out _ _ _ _ _ _ _ _ _) _) Tryz.underlying32 rfl (by kernel_rfl)) rfl ?_
                  rw [HCut.out]
                  refine AtR.bad ?_ (below_more (Tn.below hbB (Tn.all9 ..) (Nat.le_refl _) (Nat.le_refl _)) _)
                  rw [HM.out]
                  rfl
                · rw [if_neg hz] at hcut
                  have hyes : scOk s ((M : Nat) : Int) := hok.mpr hz
                  have e1 : scT s (M : Int) = ((M + (longestL ((s.data.toList.drop M).take 65536)).stop : Nat) : Int) := by unfold scT scanP; rw [if_pos hyes, Int.toNat_natCast]; omega
                  have e2 : scN s (M : Int) = numOf (longestL ((s.data.toList.drop M).take 65536)) := by unfold scN scanP; rw [if_pos hyes, Int.toNat_natCast]
                  have e4 : scC s (M : Int) = 0 := by unfold scC; rw [if_pos hyes]
                  have e3 : scP s (M : Int) = -1 := by unfold scP; rw [if_pos hyes]
                  rw [e1, e2, e3, e4] at cS
                  have hle := longest_le ((s.data.toList.drop M).take 65536)
                  have hl2 : ((s.data.toList.drop M).take 65536).length ≤ s.size - M := by rw [List.length_take, List.length_drop, ← Lib.size_eq]; omega
                  generalize (longestL ((s.data.toList.drop M).take 65536)).stop = P at *
                  generalize numOf (longestL ((s.data.toList.drop M).take 65536)) = NN at *
                  have cF := rshut18_any s (M + P) (by omega)
                  have hsh : (s.data.toList.drop M).drop P = s.data.toList.drop (M + P) := by rw [List.drop_drop]
                  unfold shutC at hcut
                  simp only at hcut
                  rw [hsh] at hcut
                  unfold nmA at cS
                  have HBz : Hid (Below w.heap.size w ((w.alloc (.cells zero9 32)).alloc (.cells #[.int .i64 0, .int .i64 (M : Int), .int .i64 ((M : Int) + 1), .string ⟨#[]⟩, .int .i64 0, .bool false, .string ⟨#[]⟩, .int .i64 0, .string ⟨#[]⟩] 32))) := below_more HB0.out _
                  have HB2 : Hid (Bk ((w.alloc (.cells zero9 32)).alloc (.cells #[.int .i64 0, .int .i64 (M : Int), .int .i64 ((M : Int) + 1), .string ⟨#[]⟩, .int .i64 0, .bool false, .string ⟨#[]⟩, .int .i64 0, .string ⟨#[]⟩] 32)) w.heap.size 32 zero9) := Bk.more HB.out _
                  have HB8 : Hid (Bk ((w.alloc (.cells zero9 32)).alloc (.cells #[.int .i64 0, .int .i64 (M : Int), .int .i64 ((M : Int) + 1), .string ⟨#[]⟩, .int .i64 0, .bool false, .string ⟨#[]⟩, .int .i64 0, .string ⟨#[]⟩] 32)) (w.heap.size + 1) 32 #[.int .i64 0, .int .i64 (M : Int), .int .i64 ((M : Int) + 1), .string ⟨#[]⟩, .int .i64 0, .bool false, .string ⟨#[]⟩, .int .i64 0, .string ⟨#[]⟩]) := by
                    have := Bk.new (w.alloc (.cells zero9 32)) 32 #[.int .i64 0, .int .i64 (M : Int), .int .i64 ((M : Int) + 1), .string ⟨#[]⟩, .int .i64 0, .bool false, .string ⟨#[]⟩, .int .i64 0, .string ⟨#[]⟩]
                    rwa [alloc_size18] at this
                  have HCut : Hid (cutR (s.data.toList.drop k) = Ct.move i (if shutB (s.data.toList.drop (M + P)) = true then ⟨5, 0, P, [], NN⟩ else Ct.bad P)) := hcut
                  clear hok hz hyes e1 e2 e3 e4 HCons hk0 hl2 hsh hcut hle
                  have HNat : Hid (((M + P : Nat) : Int) = (M : Int) + (P : Int)) := by show _ = _; omega
                  generalize hMP : M + P = MP at *
                  have HMP : Hid (M + P = MP) := hMP
                  clear hMP
                  go_wp2_with (first | (go_at_call 58; refine (c1 _).mono ?_; rintro e w' ⟨rfl, rfl⟩) | (go_at_call 59; refine (cL _).mono ?_; rintro e w' ⟨rfl, rfl⟩))
                  refine (cS _).mono ?_
                  rintro e w2 ⟨rfl, hb2⟩
                  have B1 := HB2.out.later hb2
                  have B8 := HB8.out.later hb2
                  have hbB := HBz.out.trans (hb2.mono HBz.out.size)
                  have hlt := B8.lt
                  have ne1 : ¬ w.heap.size = w2.heap.size := by omega
                  have ne2 : ¬ w2.heap.size = w.heap.size := by omega
                  have ne3 : ¬ w.heap.size + 1 = w2.heap.size := by omega
                  have ne4 : ¬ w2.heap.size = w.heap.size + 1 := by omega
                  clear hb2 HB2 HBz HB8 cS cL c1
                  have y0 : w2.cell? ⟨w.heap.size + 1, 0, none⟩ = some (.int .i64 0) := B8.cell 0 rfl
                  have g0 := B8.frozen 0
                  have y1 : w2.cell? ⟨w.heap.size + 1, 1, none⟩ = some (.int .i64 (M : Int)) := B8.cell 1 rfl
                  have g1 := B8.frozen 1
                  have y2 : w2.cell? ⟨w.heap.size + 1, 2, none⟩ = some (.int .i64 ((M : Int) + 1)) := B8.cell 2 rfl
                  have g2 := B8.frozen 2
                  have y3 : w2.cell? ⟨w.heap.size + 1, 3, none⟩ = some (.string ⟨#[]⟩) := B8.cell 3 rfl
                  have g3 := B8.frozen 3
                  have y4 : w2.cell? ⟨w.heap.size + 1, 4, none⟩ = some (.int .i64 0) := B8.cell 4 rfl
                  have g4 := B8.frozen 4
                  have y5 : w2.cell? ⟨w.heap.size + 1, 5, none⟩ = some (.bool false) := B8.cell 5 rfl
                  have g5 := B8.frozen 5
                  have y6 : w2.cell? ⟨w.heap.size + 1, 6, none⟩ = some (.string ⟨#[]⟩) := B8.cell 6 rfl
                  have g6 := B8.frozen 6
                  have y7 : w2.cell? ⟨w.heap.size + 1, 7, none⟩ = some (.int .i64 0) := B8.cell 7 rfl
                  have g7 := B8.frozen 7
                  have y8 : w2.cell? ⟨w.heap.size + 1, 8, none⟩ = some (.string ⟨#[]⟩) := B8.cell 8 rfl
                  have g8 := B8.frozen 8
                  have z := fun i v h => B1.cell i (v := v) h
                  have zf := B1.frozen
                  have z0 := z 0 _ rfl
                  have z1 := z 1 _ rfl
                  have z2 := z 2 _ rfl
                  have z3 := z 3 _ rfl
                  have z4 := z 4 _ rfl
                  have z5 := z 5 _ rfl
                  have z6 := z 6 _ rfl
                  have z7 := z 7 _ rfl
                  have z8 := z 8 _ rfl
                  have f0 := zf 0
                  have f1 := zf 1
                  have f2 := zf 2
                  have f3 := zf 3
                  have f4 := zf 4
                  have f5 := zf 5
                  have f6 := zf 6
                  have f7 := zf 7
                  have f8 := zf 8
                  have HB1 : Hid (Bk _ w.heap.size 32 zero9) := B1
                  clear B1 z zf
                  have HB8 : Hid _ := B8
                  clear B8
                  go_wp2_with fail
                  obtain ⟨W, hW⟩ : ∃ W, W = (((((((w2.setCell ⟨w.heap.size + 1, 0, none⟩ (.int .i64 5)).setCell ⟨w.heap.size + 1, 2, none⟩ (.int .i64 (MP : Int))).setCell ⟨w.heap.size + 1, 4, none⟩ (.int .i64 NN.kind)).setCell ⟨w.heap.size + 1, 5, none⟩ (.bool NN.neg)).setCell ⟨w.heap.size + 1, 6, none⟩ (.string (str NN.num))).setCell ⟨w.heap.size + 1, 7, none⟩ (.int .i64 NN.exp)).setCell ⟨w.heap.size + 1, 8, none⟩ (.string (str NN.den))).alloc (.cells #[.int .i64 NN.kind, .bool NN.neg, .string (str NN.num), .int .i64 NN.exp, .string (str NN.den)] 30) := ⟨_, rfl⟩
                  rw [← hW]
                  have hTn : Tn (w.heap.size + 1) w2 W := by rw [hW]; exact (((((((((Tn.refl _ _).set 0 _).set 2 _).set 4 _).set 5 _).set 6 _).set 7 _).set 8 _)).trans (Tn.of_below18 ((Below.refl _ _).alloc (Nat.le_refl _) _))
                  have B9 : Bk W (w.heap.size + 1) 32 (tkA 5 M MP [] NN) := by
                    rw [hW]
                    exact Bk.more (Bk.set (Bk.set (Bk.set (Bk.set (Bk.set (Bk.set (Bk.set HB8.out 0 _) 2 _) 4 _) 5 _) 6 _) 7 _) 8 _) _
                  have B1 := Bk.tn18 HB1.out hTn (by omega)
                  have hbW := Tn.below hbB hTn (by omega) (Nat.le_refl _)
                  have hltW := B9.lt
                  clear hW hTn HB8 HB1 hbB y0 g0 z0 f0 y1 g1 z1 f1 y2 g2 z2 f2 y3 g3 z3 f3 y4 g4 z4 f4 y5 g5 z5 f5 y6 g6 z6 f6 y7 g7 z7 f7 y8 g8 z8 f8
                  have y0 : W.cell? ⟨w.heap.size + 1, 0, none⟩ = some (.int .i64 5) := B9.cell 0 rfl
                  have y1 : W.cell? ⟨w.heap.size + 1, 1, none⟩ = some (.int .i64 (M : Int)) := B9.cell 1 rfl
                  have y2 : W.cell? ⟨w.heap.size + 1, 2, none⟩ = some (.int .i64 (MP : Int)) := B9.cell 2 rfl
                  have y3 : W.cell? ⟨w.heap.size + 1, 3, none⟩ = some (.string ⟨#[]⟩) := B9.cell 3 rfl
                  have y4 : W.cell? ⟨w.heap.size + 1, 4, none⟩ = some (.int .i64 NN.kind) := B9.cell 4 rfl
                  have y5 : W.cell? ⟨w.heap.size + 1, 5, none⟩ = some (.bool NN.neg) := B9.cell 5 rfl
                  have y6 : W.cell? ⟨w.heap.size + 1, 6, none⟩ = some (.string (str NN.num)) := B9.cell 6 rfl
                  have y7 : W.cell? ⟨w.heap.size + 1, 7, none⟩ = some (.int .i64 NN.exp) := B9.cell 7 rfl
                  have y8 : W.cell? ⟨w.heap.size + 1, 8, none⟩ = some (.string (str NN.den)) := B9.cell 8 rfl
                  have z := fun i v h => B1.cell i (v := v) h
                  have zf := B1.frozen
                  have z0 := z 0 _ rfl
                  have z1 := z 1 _ rfl
                  have z2 := z 2 _ rfl
                  have z3 := z 3 _ rfl
                  have z4 := z 4 _ rfl
                  have z5 := z 5 _ rfl
                  have z6 := z 6 _ rfl
                  have z7 := z 7 _ rfl
                  have z8 := z 8 _ rfl
                  have f0 := zf 0
                  have f1 := zf 1
                  have f2 := zf 2
                  have f3 := zf 3
                  have f4 := zf 4
                  have f5 := zf 5
                  have f6 := zf 6
                  have f7 := zf 7
                  have f8 := zf 8
                  have HB1 : Hid (Bk _ w.heap.size 32 zero9) := B1
                  clear B1 z zf
                  clear B9
                  refine (cF _).mono ?_
                  rintro e w4 ⟨rfl, rfl⟩
                  clear cF
                  cases hbs : shutB (s.data.toList.drop MP)
                  · rw [hbs, if_neg (by simp)] at HCut
                    go_wp2_with fail
                    go_region
                    all_goals
                      go_wp2
                      refine bodyPost_ret (results_c2 rfl _ _ w.heap.size 32 _ _ rfl (Bk.drew9 (Bk.all9 HB1.out _ _ _ _ _ _ _ _ _)) Tryz.underlying32 rfl (by kernel_rfl)) rfl ?_
                      rw [HCut.out]
                      refine AtR.bad ?_ (below_drew9 (Tn.below hbW (Tn.all9 ..) (Nat.le_refl _) (Nat.le_refl _)))
                      rw [HM.out, HMP.out]
                      rfl
                  · rw [hbs, if_pos rfl] at HCut
                    go_wp2
                    refine bodyPost_ret (results_c2 rfl _ _ w.heap.size 32 _ _ rfl (Bk.all9 HB1.out _ _ _ _ _ _ _ _ _) Tryz.underlying32 rfl (by kernel_rfl)) rfl ?_
                    rw [HCut.out]
                    refine AtR.ok (by show (5 : Int) ≠ -1; omega) rfl ?_ (Tn.below hbW (Tn.all9 ..) (Nat.le_refl _) (Nat.le_refl _))
                    rw [HM.out]
                    show _ = Ending.returned (.tuple #[.agg (tkA 5 (M : Int) ((M + P : Nat) : Int) [] NN), _, _])
                    rw [HMP.out]
                    rfl
                
              · rw [hL] at cL
                clear d40 d41 d44 m40 m41 m44 hne1 hb
                rw [tokB_lt hL, ← HCons.out] at hcut
                have hlM : (s.data.toList.drop M).length = s.size - M := by rw [List.length_drop, ← Lib.size_eq]
                have HL0 : Hid (∀ (j : Nat) b, j < 1 → (s.data.toList.drop M)[j]? = some b → isLt b = true) := by
                  intro j b hj hb'
                  have e : j = 0 := by omega
                  subst e
                  rw [HCons.out] at hb'
                  simp at hb'
                  rw [← hb']
                  exact hL
                have HCut0 : Hid _ := hcut
                clear hcut HCons hL
                go_wp2_with (first | (go_at_call 58; refine (c1 _).mono ?_; rintro e w' ⟨rfl, rfl⟩) | (go_at_call 59; refine (cL _).mono ?_; rintro e w' ⟨rfl, rfl⟩))
                clear c1 cL
                go_loopw [76] (fun _ wr => ∃ j : Nat, M + 1 + j ≤ s.size ∧ Hid (∀ (j' : Nat) b, j' < 1 + j → (s.data.toList.drop M)[j']? = some b → isLt b = true) ∧ wr = (w.alloc (.cells #[.int .i64 0, .int .i64 0, .int .i64 0, .string ⟨#[]⟩, .int .i64 0, .bool false, .string ⟨#[]⟩, .int .i64 0, .string ⟨#[]⟩] 32)).alloc (.cells #[.int .i64 1, .int .i64 (M : Int), .int .i64 ((M + 1 + j : Nat) : Int), .string ⟨#[]⟩, .int .i64 0, .bool false, .string ⟨#[]⟩, .int .i64 0, .string ⟨#[]⟩] 32)) (fun _ wr => s.size - (match wr.cell? ⟨w.heap.size + 1, 2, none⟩ with | some (.int _ x) => x.toNat | _ => 0))
                case atStart => exact ⟨0, by omega, HL0, rfl⟩
                case round =>
                  obtain ⟨j, hj, HJ, rfl⟩ := hrel
                  by_cases hq : M + 1 + j < s.size
                  · have hqi : ((M + 1 + j : Nat) : Int) < (s.size : Int) := by omega
                    have HX2 : Hid ((s.data.toList.drop M)[1 + j]? = some (s[M + 1 + j]'hq)) := by
                      unfold Hid
                      rw [List.getElem?_drop, ← Nat.add_assoc]; exact Lib.data_getElem? s (M + 1 + j) hq
                    have cL2 := rletter18_any (s[M + 1 + j]'hq)
                    cases hb2 : isLt (s[M + 1 + j]'hq)
                    · rw [hb2] at cL2
                      have hn2 : ((s.data.toList.drop M).takeWhile isLt).length = 1 + j := tk_stop' HJ.out (fun b hb' => by rw [HX2.out] at hb'; rw [← Option.some.inj hb']; exact hb2) (by omega)
                      clear hb2 HX2
                      have hp2 := piece_of s M (1 + j)
                      have htk : (s.data.toList.drop M).take (1 + j) = (s.data.toList.drop M).takeWhile isLt := by rw [← hn2]; exact take_tk isLt _
                      rw [htk] at hp2
                      have HCut1 : Hid (cutR (s.data.toList.drop k) = Ct.move i (shutC (s.data.toList.drop M) ⟨1, 0, ((s.data.toList.drop M).takeWhile isLt).length, ((s.data.toList.drop M).takeWhile isLt).map upB, nmZ0⟩)) := HCut0.out
                      have hsh : (s.data.toList.drop M).drop (1 + j) = s.data.toList.drop (M + 1 + j) := by rw [List.drop_drop, Nat.add_assoc]
                      have HCut : Hid (cutR (s.data.toList.drop k) = Ct.move i (if shutB (s.data.toList.drop (M + 1 + j)) = true then ⟨1, 0, 1 + j, ((s.data.toList.drop M).takeWhile isLt).map upB, nmZ0⟩ else Ct.bad (1 + j))) := by
                        have := HCut1.out
                        unfold shutC at this
                        simp only at this
                        rw [hn2, hsh] at this
                        exact this
                      have cW := fun w => rword18_any ((s.data.toList.drop M).takeWhile isLt) (by omega) w
                      have cF := rshut18_any s (M + 1 + j) (by omega)
                      have hpe : s.extract M (M + 1 + j) = str ((s.data.toList.drop M).takeWhile isLt) := by rw [← hp2, Nat.add_assoc]
                      have hb3 : Below w.heap.size w ((w.alloc (.cells #[.int .i64 0, .int .i64 0, .int .i64 0, .string ⟨#[]⟩, .int .i64 0, .bool false, .string ⟨#[]⟩, .int .i64 0, .string ⟨#[]⟩] 32)).alloc (.cells #[.int .i64 1, .int .i64 (M : Int), .int .i64 ((M + 1 + j : Nat) : Int), .string ⟨#[]⟩, .int .i64 0, .bool false, .string ⟨#[]⟩, .int .i64 0, .string ⟨#[]⟩] 32)) := below_more ((Below.refl _ w).alloc (Nat.le_refl _) _) _
                      have HB3 : Hid _ := hb3
                      have HB2 : Hid (Bk ((w.alloc (.cells #[.int .i64 0, .int .i64 0, .int .i64 0, .string ⟨#[]⟩, .int .i64 0, .bool false, .string ⟨#[]⟩, .int .i64 0, .string ⟨#[]⟩] 32)).alloc (.cells #[.int .i64 1, .int .i64 (M : Int), .int .i64 ((M + 1 + j : Nat) : Int), .string ⟨#[]⟩, .int .i64 0, .bool false, .string ⟨#[]⟩, .int .i64 0, .string ⟨#[]⟩] 32)) w.heap.size 32 zero9) := Bk.more (Bk.new _ _ _) _
                      have HB8 : Hid (Bk ((w.alloc (.cells #[.int .i64 0, .int .i64 0, .int .i64 0, .string ⟨#[]⟩, .int .i64 0, .bool false, .string ⟨#[]⟩, .int .i64 0, .string ⟨#[]⟩] 32)).alloc (.cells #[.int .i64 1, .int .i64 (M : Int), .int .i64 ((M + 1 + j : Nat) : Int), .string ⟨#[]⟩, .int .i64 0, .bool false, .string ⟨#[]⟩, .int .i64 0, .string ⟨#[]⟩] 32)) (w.heap.size + 1) 32 #[.int .i64 1, .int .i64 (M : Int), .int .i64 ((M + 1 + j : Nat) : Int), .string ⟨#[]⟩, .int .i64 0, .bool false, .string ⟨#[]⟩, .int .i64 0, .string ⟨#[]⟩]) := by
                        have := Bk.new (w.alloc (.cells #[.int .i64 0, .int .i64 0, .int .i64 0, .string ⟨#[]⟩, .int .i64 0, .bool false, .string ⟨#[]⟩, .int .i64 0, .string ⟨#[]⟩] 32)) 32 #[.int .i64 1, .int .i64 (M : Int), .int .i64 ((M + 1 + j : Nat) : Int), .string ⟨#[]⟩, .int .i64 0, .bool false, .string ⟨#[]⟩, .int .i64 0, .string ⟨#[]⟩]
                        rwa [alloc_size18] at this
                      have HNj : Hid ((M + 1 + j : Nat) = M + (1 + j)) := by show _ = _; omega
                      clear hp2 htk HCut1 hsh HJ hn2 HCut0 HL0 hb3
                      generalize (s.data.toList.drop M).takeWhile isLt = LL at *
                      generalize hQ : M + 1 + j = Q at *
                      have hMQ : (M : Int) ≤ (Q : Int) := by omega
                      have hQs : (Q : Int) ≤ (s.size : Int) := by omega
                      have HQ : Hid _ := hQ
                      clear hQ
                      go_wp2_with (go_at_call 59; refine (cL2 _).mono ?_; rintro e w' ⟨rfl, rfl⟩)
                      clear cL2
                      refine (cW _).mono ?_
                      rintro e w5 ⟨rfl, hb5⟩
                      have B1 := HB2.out.later hb5
                      have B8 := HB8.out.later hb5
                      have hbB := HB3.out.trans (hb5.mono HB3.out.size)
                      have hlt5 := B8.lt
                      clear hb5 HB2 HB8 HB3 cW
                      have y3 : w5.cell? ⟨w.heap.size + 1, 3, none⟩ = some (.string ⟨#[]⟩) := B8.cell 3 rfl
                      have y2 : w5.cell? ⟨w.heap.size + 1, 2, none⟩ = some (.int .i64 (Q : Int)) := B8.cell 2 rfl
                      have g3 := B8.frozen 3
                      have HB8 : Hid _ := B8
                      have HB1 : Hid _ := B1
                      clear B8 B1
                      go_wp2_with fail
                      obtain ⟨W, hW⟩ : ∃ W, W = w5.setCell ⟨w.heap.size + 1, 3, none⟩ (.string (str (LL.map upB))) := ⟨_, rfl⟩
                      rw [← hW]
                      have hTn : Tn (w.heap.size + 1) w5 W := by rw [hW]; exact (Tn.refl _ _).set 3 _
                      have B9 : Bk W (w.heap.size + 1) 32 (tkA 1 M Q (LL.map upB) nmZ0) := by
                        rw [hW]
                        exact Bk.set HB8.out 3 _
                      have B1 := Bk.tn18 HB1.out hTn (by omega)
                      have hbW := Tn.below hbB hTn (by omega) (Nat.le_refl _)
                      have hltW := B9.lt
                      clear hW hTn HB8 HB1 hbB y3 y2 g3
                      have y0 : W.cell? ⟨w.heap.size + 1, 0, none⟩ = some (.int .i64 1) := B9.cell 0 rfl
                      have y1 : W.cell? ⟨w.heap.size + 1, 1, none⟩ = some (.int .i64 (M : Int)) := B9.cell 1 rfl
                      have y2 : W.cell? ⟨w.heap.size + 1, 2, none⟩ = some (.int .i64 (Q : Int)) := B9.cell 2 rfl
                      have y3 : W.cell? ⟨w.heap.size + 1, 3, none⟩ = some (.string (str (LL.map upB))) := B9.cell 3 rfl
                      have y4 : W.cell? ⟨w.heap.size + 1, 4, none⟩ = some (.int .i64 0) := B9.cell 4 rfl
                      have y5 : W.cell? ⟨w.heap.size + 1, 5, none⟩ = some (.bool false) := B9.cell 5 rfl
                      have y6 : W.cell? ⟨w.heap.size + 1, 6, none⟩ = some (.string ⟨#[]⟩) := B9.cell 6 rfl
                      have y7 : W.cell? ⟨w.heap.size + 1, 7, none⟩ = some (.int .i64 0) := B9.cell 7 rfl
                      have y8 : W.cell? ⟨w.heap.size + 1, 8, none⟩ = some (.string ⟨#[]⟩) := B9.cell 8 rfl
                      have z := fun i v h => B1.cell i (v := v) h
                      have zf := B1.frozen
                      have z0 := z 0 _ rfl
                      have z1 := z 1 _ rfl
                      have z2 := z 2 _ rfl
                      have z3 := z 3 _ rfl
                      have z4 := z 4 _ rfl
                      have z5 := z 5 _ rfl
                      have z6 := z 6 _ rfl
                      have z7 := z 7 _ rfl
                      have z8 := z 8 _ rfl
                      have f0 := zf 0
                      have f1 := zf 1
                      have f2 := zf 2
                      have f3 := zf 3
                      have f4 := zf 4
                      have f5 := zf 5
                      have f6 := zf 6
                      have f7 := zf 7
                      have f8 := zf 8
                      have HB1 : Hid (Bk _ w.heap.size 32 zero9) := B1
                      clear B1 z zf B9
                      refine (cF _).mono ?_
                      rintro e w6 ⟨rfl, rfl⟩
                      clear cF
                      cases hbs : shutB (s.data.toList.drop Q)
                      · rw [hbs, if_neg (by simp)] at HCut
                        go_wp2_with fail
                        go_region
                        all_goals
                          go_wp2
                          refine bodyPost_ret (results_c2 rfl _ _ w.heap.size 32 _ _ rfl (Bk.drew9 (Bk.all9 HB1.out _ _ _ _ _ _ _ _ _)) Tryz.underlying32 rfl (by kernel_rfl)) rfl ?_
                          rw [HCut.out]
                          refine AtR.bad ?_ (below_drew9 (Tn.below hbW (Tn.all9 ..) (Nat.le_refl _) (Nat.le_refl _)))
                          rw [HM.out, ← HNj.out]
                          rfl
                      · rw [hbs, if_pos rfl] at HCut
                        go_wp2
                        refine bodyPost_ret (results_c2 rfl _ _ w.heap.size 32 _ _ rfl (Bk.all9 HB1.out _ _ _ _ _ _ _ _ _) Tryz.underlying32 rfl (by kernel_rfl)) rfl ?_
                        rw [HCut.out]
                        refine AtR.ok (by show (1 : Int) ≠ -1; omega) rfl ?_ (Tn.below hbW (Tn.all9 ..) (Nat.le_refl _) (Nat.le_refl _))
                        rw [HM.out]
                        show _ = Ending.returned (.tuple #[.agg (tkA 1 (M : Int) ((M + (1 + j) : Nat) : Int) (LL.map upB) nmZ0), _, _])
                        rw [← HNj.out]
                        rfl
                    · rw [hb2] at cL2
                      have HJ2 : Hid (∀ (j' : Nat) b, j' < 1 + (j + 1) → (s.data.toList.drop M)[j']? = some b → isLt b = true) := by
                        intro j' b hj' hb'
                        by_cases q : j' = 1 + j
                        · subst q; rw [HX2.out] at hb'; rw [← Option.some.inj hb']; exact hb2
                        · exact HJ.out j' b (by omega) hb'
                      clear hb2 HX2 HJ
                      have HQ1 : Hid (((M + 1 + (j + 1) : Nat) : Int) = ((M + 1 + j : Nat) : Int) + 1) := by show _ = _; omega
                      have hQb : M + 1 + j < 2000000 := by omega
                      have HQL : Hid (M + 1 + j < s.size) := hq
                      generalize hQ : M + 1 + j = Q at *
                      have HQ : Hid _ := hQ
                      clear hQ
                      go_wp2_with (go_at_call 59; refine (cL2 _).mono ?_; rintro e w' ⟨rfl, rfl⟩)
                      go_roundw
                      case rel => exact ⟨j + 1, by have := HQ.out; have := HQL.out; omega, HJ2, by rw [HQ1.out]⟩
                      case measure =>
                        have := HQL.out
                        simp
                        exact Nat.sub_lt_sub_left this (Nat.lt_succ_self _)
                  · have hqi : ¬ ((M + 1 + j : Nat) : Int) < (s.size : Int) := by omega
                    have hn2 : ((s.data.toList.drop M).takeWhile isLt).length = 1 + j := tk_stop' HJ.out (fun b hb' => by
                      rw [List.getElem?_eq_none (by omega)] at hb'; cases hb') (by omega)
                    have hp2 := piece_of s M (1 + j)
                    have htk : (s.data.toList.drop M).take (1 + j) = (s.data.toList.drop M).takeWhile isLt := by rw [← hn2]; exact take_tk isLt _
                    rw [htk] at hp2
                    have HCut1 : Hid (cutR (s.data.toList.drop k) = Ct.move i (shutC (s.data.toList.drop M) ⟨1, 0, ((s.data.toList.drop M).takeWhile isLt).length, ((s.data.toList.drop M).takeWhile isLt).map upB, nmZ0⟩)) := HCut0.out
                    have hsh : (s.data.toList.drop M).drop (1 + j) = s.data.toList.drop (M + 1 + j) := by rw [List.drop_drop, Nat.add_assoc]
                    have HCut : Hid (cutR (s.data.toList.drop k) = Ct.move i (if shutB (s.data.toList.drop (M + 1 + j)) = true then ⟨1, 0, 1 + j, ((s.data.toList.drop M).takeWhile isLt).map upB, nmZ0⟩ else Ct.bad (1 + j))) := by
                      have := HCut1.out
                      unfold shutC at this
                      simp only at this
                      rw [hn2, hsh] at this
                      exact this
                    have cW := fun w => rword18_any ((s.data.toList.drop M).takeWhile isLt) (by omega) w
                    have cF := rshut18_any s (M + 1 + j) (by omega)
                    have hpe : s.extract M (M + 1 + j) = str ((s.data.toList.drop M).takeWhile isLt) := by rw [← hp2, Nat.add_assoc]
                    have hb3 : Below w.heap.size w ((w.alloc (.cells #[.int .i64 0, .int .i64 0, .int .i64 0, .string ⟨#[]⟩, .int .i64 0, .bool false, .string ⟨#[]⟩, .int .i64 0, .string ⟨#[]⟩] 32)).alloc (.cells #[.int .i64 1, .int .i64 (M : Int), .int .i64 ((M + 1 + j : Nat) : Int), .string ⟨#[]⟩, .int .i64 0, .bool false, .string ⟨#[]⟩, .int .i64 0, .string ⟨#[]⟩] 32)) := below_more ((Below.refl _ w).alloc (Nat.le_refl _) _) _
                    have HB3 : Hid _ := hb3
                    have HB2 : Hid (Bk ((w.alloc (.cells #[.int .i64 0, .int .i64 0, .int .i64 0, .string ⟨#[]⟩, .int .i64 0, .bool false, .string ⟨#[]⟩, .int .i64 0, .string ⟨#[]⟩] 32)).alloc (.cells #[.int .i64 1, .int .i64 (M : Int), .int .i64 ((M + 1 + j : Nat) : Int), .string ⟨#[]⟩, .int .i64 0, .bool false, .string ⟨#[]⟩, .int .i64 0, .string ⟨#[]⟩] 32)) w.heap.size 32 zero9) := Bk.more (Bk.new _ _ _) _
                    have HB8 : Hid (Bk ((w.alloc (.cells #[.int .i64 0, .int .i64 0, .int .i64 0, .string ⟨#[]⟩, .int .i64 0, .bool false, .string ⟨#[]⟩, .int .i64 0, .string ⟨#[]⟩] 32)).alloc (.cells #[.int .i64 1, .int .i64 (M : Int), .int .i64 ((M + 1 + j : Nat) : Int), .string ⟨#[]⟩, .int .i64 0, .bool false, .string ⟨#[]⟩, .int .i64 0, .string ⟨#[]⟩] 32)) (w.heap.size + 1) 32 #[.int .i64 1, .int .i64 (M : Int), .int .i64 ((M + 1 + j : Nat) : Int), .string ⟨#[]⟩, .int .i64 0, .bool false, .string ⟨#[]⟩, .int .i64 0, .string ⟨#[]⟩]) := by
                      have := Bk.new (w.alloc (.cells #[.int .i64 0, .int .i64 0, .int .i64 0, .string ⟨#[]⟩, .int .i64 0, .bool false, .string ⟨#[]⟩, .int .i64 0, .string ⟨#[]⟩] 32)) 32 #[.int .i64 1, .int .i64 (M : Int), .int .i64 ((M + 1 + j : Nat) : Int), .string ⟨#[]⟩, .int .i64 0, .bool false, .string ⟨#[]⟩, .int .i64 0, .string ⟨#[]⟩]
                      rwa [alloc_size18] at this
                    have HNj : Hid ((M + 1 + j : Nat) = M + (1 + j)) := by show _ = _; omega
                    clear hp2 htk HCut1 hsh HJ hn2 HCut0 HL0 hb3
                    generalize (s.data.toList.drop M).takeWhile isLt = LL at *
                    generalize hQ : M + 1 + j = Q at *
                    have hMQ : (M : Int) ≤ (Q : Int) := by omega
                    have hQs : (Q : Int) ≤ (s.size : Int) := by omega
                    have HQ : Hid _ := hQ
                    clear hQ
                    go_wp2_with fail
                    refine (cW _).mono ?_
                    rintro e w5 ⟨rfl, hb5⟩
                    have B1 := HB2.out.later hb5
                    have B8 := HB8.out.later hb5
                    have hbB := HB3.out.trans (hb5.mono HB3.out.size)
                    have hlt5 := B8.lt
                    clear hb5 HB2 HB8 HB3 cW
                    have y3 : w5.cell? ⟨w.heap.size + 1, 3, none⟩ = some (.string ⟨#[]⟩) := B8.cell 3 rfl
                    have y2 : w5.cell? ⟨w.heap.size + 1, 2, none⟩ = some (.int .i64 (Q : Int)) := B8.cell 2 rfl
                    have g3 := B8.frozen 3
                    have HB8 : Hid _ := B8
                    have HB1 : Hid _ := B1
                    clear B8 B1
                    go_wp2_with fail
                    obtain ⟨W, hW⟩ : ∃ W, W = w5.setCell ⟨w.heap.size + 1, 3, none⟩ (.string (str (LL.map upB))) := ⟨_, rfl⟩
                    rw [← hW]
                    have hTn : Tn (w.heap.size + 1) w5 W := by rw [hW]; exact (Tn.refl _ _).set 3 _
                    have B9 : Bk W (w.heap.size + 1) 32 (tkA 1 M Q (LL.map upB) nmZ0) := by
                      rw [hW]
                      exact Bk.set HB8.out 3 _
                    have B1 := Bk.tn18 HB1.out hTn (by omega)
                    have hbW := Tn.below hbB hTn (by omega) (Nat.le_refl _)
                    have hltW := B9.lt
                    clear hW hTn HB8 HB1 hbB y3 y2 g3
                    have y0 : W.cell? ⟨w.heap.size + 1, 0, none⟩ = some (.int .i64 1) := B9.cell 0 rfl
                    have y1 : W.cell? ⟨w.heap.size + 1, 1, none⟩ = some (.int .i64 (M : Int)) := B9.cell 1 rfl
                    have y2 : W.cell? ⟨w.heap.size + 1, 2, none⟩ = some (.int .i64 (Q : Int)) := B9.cell 2 rfl
                    have y3 : W.cell? ⟨w.heap.size + 1, 3, none⟩ = some (.string (str (LL.map upB))) := B9.cell 3 rfl
                    have y4 : W.cell? ⟨w.heap.size + 1, 4, none⟩ = some (.int .i64 0) := B9.cell 4 rfl
                    have y5 : W.cell? ⟨w.heap.size + 1, 5, none⟩ = some (.bool false) := B9.cell 5 rfl
                    have y6 : W.cell? ⟨w.heap.size + 1, 6, none⟩ = some (.string ⟨#[]⟩) := B9.cell 6 rfl
                    have y7 : W.cell? ⟨w.heap.size + 1, 7, none⟩ = some (.int .i64 0) := B9.cell 7 rfl
                    have y8 : W.cell? ⟨w.heap.size + 1, 8, none⟩ = some (.string ⟨#[]⟩) := B9.cell 8 rfl
                    have z := fun i v h => B1.cell i (v := v) h
                    have zf := B1.frozen
                    have z0 := z 0 _ rfl
                    have z1 := z 1 _ rfl
                    have z2 := z 2 _ rfl
                    have z3 := z 3 _ rfl
                    have z4 := z 4 _ rfl
                    have z5 := z 5 _ rfl
                    have z6 := z 6 _ rfl
                    have z7 := z 7 _ rfl
                    have z8 := z 8 _ rfl
                    have f0 := zf 0
                    have f1 := zf 1
                    have f2 := zf 2
                    have f3 := zf 3
                    have f4 := zf 4
                    have f5 := zf 5
                    have f6 := zf 6
                    have f7 := zf 7
                    have f8 := zf 8
                    have HB1 : Hid (Bk _ w.heap.size 32 zero9) := B1
                    clear B1 z zf B9
                    refine (cF _).mono ?_
                    rintro e w6 ⟨rfl, rfl⟩
                    clear cF
                    cases hbs : shutB (s.data.toList.drop Q)
                    · rw [hbs, if_neg (by simp)] at HCut
                      go_wp2_with fail
                      go_region
                      all_goals
                        go_wp2
                        refine bodyPost_ret (results_c2 rfl _ _ w.heap.size 32 _ _ rfl (Bk.drew9 (Bk.all9 HB1.out _ _ _ _ _ _ _ _ _)) Tryz.underlying32 rfl (by kernel_rfl)) rfl ?_
                        rw [HCut.out]
                        refine AtR.bad ?_ (below_drew9 (Tn.below hbW (Tn.all9 ..) (Nat.le_refl _) (Nat.le_refl _)))
                        rw [HM.out, ← HNj.out]
                        rfl
                    · rw [hbs, if_pos rfl] at HCut
                      go_wp2
                      refine bodyPost_ret (results_c2 rfl _ _ w.heap.size 32 _ _ rfl (Bk.all9 HB1.out _ _ _ _ _ _ _ _ _) Tryz.underlying32 rfl (by kernel_rfl)) rfl ?_
                      rw [HCut.out]
                      refine AtR.ok (by show (1 : Int) ≠ -1; omega) rfl ?_ (Tn.below hbW (Tn.all9 ..) (Nat.le_refl _) (Nat.le_refl _))
                      rw [HM.out]
                      show _ = Ending.returned (.tuple #[.agg (tkA 1 (M : Int) ((M + (1 + j) : Nat) : Int) (LL.map upB) nmZ0), _, _])
                      rw [← HNj.out]
                      rfl
      · rw [hb] at c1
        have HN : Hid (∀ (j : Nat) b, j < i + 1 → (s.data.toList.drop k)[j]? = some b → isBl b = true) := by
          intro j b hj hb'
          by_cases q : j = i
          · subst q; rw [HX.out] at hb'; rw [← Option.some.inj hb']; exact hb
          · exact hc.out j b (by omega) hb'
        generalize hM : k + i = M at *
        have hrel : ∃ i_1 : Nat, Value.int .i64 ((M : Int) + 1) = .int .i64 ((k + i_1 : Nat) : Int) ∧ k + i_1 ≤ s.size ∧ Hid (∀ (j : Nat) b, j < i_1 → (s.data.toList.drop k)[j]? = some b → isBl b = true) := ⟨i + 1, by rw [← hM]; rfl, by omega, HN⟩
        have HR : Hid _ := hrel
        clear hrel HN hc hb HX
        go_wp2_with (go_at_call 58; refine (c1 _).mono ?_; rintro e w' ⟨rfl, rfl⟩)
        refine ⟨HR.out, ?_⟩
        simp
        omega
    · have hpi : ¬ ((k + i : Nat) : Int) < (s.size : Int) := by omega
      have hn : ((s.data.toList.drop k).takeWhile isBl).length = i := tk_stop' hc.out (fun b hb' => by
        rw [List.getElem?_eq_none (by omega)] at hb'; cases hb') (by omega)
      have hki : k + i = s.size := by omega
      have hnil : (s.data.toList.drop k).dropWhile isBl = [] := by
        rw [← drop_dk, hn, List.drop_drop]
        exact drop_nil_of (by omega)
      have hcut := cutR_nil hnil
      rw [hlen] at hcut
      have heq : (((k + i : Nat) : Int) == (s.size : Int)) = true := by rw [hki]; simp
      have B1 := HB.out
      have HCut : Hid (cutR (s.data.toList.drop k) = ⟨0, s.size - k, s.size - k, [], nmZ0⟩) := hcut
      clear hc hn hnil hcut hlen
      generalize hM : k + i = M at *
      have HKi : Hid (M = s.size) := hki
      have HM : Hid (k + i = M) := hM
      clear hki hM
      clear B1
      go_wp2
      refine bodyPost_ret (results_c2 rfl _ _ w.heap.size 32 _ _ rfl (Bk.new w 32 _) Tryz.underlying32 rfl (by kernel_rfl)) rfl ?_
      refine ⟨?_, (Below.refl _ w).alloc (Nat.le_refl _) _⟩
      rw [HCut.out]
      have hki := HKi.out
      have e : ctA k ⟨0, s.size - k, s.size - k, [], nmZ0⟩ = tkA 0 M M [] nmZ0 := by
        unfold ctA
        rw [if_neg (by show (0 : Int) ≠ -1; omega)]
        show tkA 0 ((k + (s.size - k) : Nat) : Int) ((k + (s.size - k) : Nat) : Int) [] nmZ0 = _
        rw [show k + (s.size - k) = M from by omega]
      rw [e]
      rfl
end Go.Proofs.YtfgpjplfplbcdaaGreatDoor


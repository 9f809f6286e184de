import Derived.Lib.ItoaLen
import Derived.Below
import Derived.BigQuiet
import Derived.Deep.CutRange
import Derived.Deep.LoopGhost
import Derived.Deep.QuietTactic
import Derived.Deep.RegionHeld3
import Derived.Deep.RegionWith
import Derived.Deep.WholeRow
import Derived.KernelRfl
import Derived.Laws.EntriesVeiled
import Derived.Laws.Externs
import Derived.Laws.RangeString
import Derived.Laws.ResultCell
import Derived.Laws.Runes
import Derived.Laws.Strings3
import Derived.Lib.AppendIntMem
import Derived.Lib.AsciiSet
import Derived.Lib.Builder
import Derived.Lib.Bytealg
import Derived.Lib.IndexBytes
import Derived.Lib.Strings
import Derived.Lib.TrimByte
import Derived.Lib.Walk
import Derived.OpenShut
import Derived.ProofKit
import Derived.Shelf.Strconv.Clone
import Derived.Shelf.Strconv.Itoa3
import Derived.Shelf.Strings.OnBuilder
import Derived.ShutString
import Derived.WalkKit
import Derived.WalkLawsBesides
import Derived.WalkSpells
import Derived.Test.YtfgpjplfplbcdaaGreatDoorPt8
import Derived.Test.YtfgpjplfplbcdaaGreatDoorPt12
/- Layer 9: lex.Text, walked. -/
namespace Go.Proofs.YtfgpjplfplbcdaaGreatDoor
open Go.ChangeShapes Go.WideShapes Go.ChangeAt Go.RowKit
open Lx Go.Shelf
set_option linter.unusedVariables false
theorem Bk_low {w w' : World} {g b : Nat} {t : TypeId} {vs : Array Value} (h : Bk w g t vs) (hb : Below b w w') (hg : g < b) : Bk w' g t vs := by
  unfold Bk at *
  rw [hb.block g hg]
  exact h
theorem isB_later {T e : TypeId} {B b : Nat} {bs : List Value} {W W' : World} (h : Lib.IsBuilder T e B b bs W) (hb : Below W.heap.size W W') : Lib.IsBuilder T e B b bs W' := by
  have key : ∀ {p : Value}, Lib.BuilderAt T e B b p bs W → Lib.BuilderAt T e B b p bs W' := fun {p} h => by
    have hlt := h.lt
    obtain ⟨hB, v, hv, hown, hne⟩ := h
    exact ⟨hB, v, (hb.block b hlt).trans hv, hown.kept (row := none) ⟨hb.os, hb.tape, hb.output, hb.size, fun k hk _ => hb.block k hk⟩ (Classical.em _), hne⟩
  exact h.elim (fun x => .inl (key x)) (fun x => .inr (key x))
set_option maxHeartbeats 1600000 in
set_option maxRecDepth 100000 in
theorem text9_bad (k : Int) (ng : Bool) (num : ByteArray) (e : Int) (den : ByteArray) (hn : num.size ≤ 9223372036854775807) (hd : den.size ≤ 9223372036854775807) (hrt : rightB k num.data.toList e den.data.toList = false) (w : World) :
    Calls Tryz.prog 18 #[.agg (numC k ng num e den)] w fun r w' => r = .returned (.tuple #[.string (ByteArray.mk #[]), .int .i64 90]) ∧ Below w.heap.size w w' := by
  have hCk : ∀ w, Calls Tryz.prog 34 #[.agg (numC k ng num e den)] w fun r w' => r = .returned (.int .i64 90) ∧ Below w.heap.size w w' := fun w => by
    have := check9_any k ng num e den hn hd w
    rw [if_neg (by rw [hrt]; decide)] at this
    exact this
  have hb0 : Below w.heap.size w (w.alloc (.cells (numC k ng num e den) 30)) := (Below.refl _ w).alloc (Nat.le_refl _) _
  unfold numC at hb0 hCk ⊢
  clear hrt
  go_enter Tryz.func18, Tryz.ntmps18
  go_wp2_with fail
  refine (hCk _).mono ?_
  rintro r w1 ⟨rfl, b1⟩
  have B1 := hb0.trans (b1.mono hb0.size)
  clear hCk
  go_wp2
  refine bodyPost_ret (v := .tuple #[.string (ByteArray.mk #[]), .int .i64 90]) (by simp [results, Tryz.results18, go_sem]) rfl ?_
  exact ⟨rfl, B1⟩
set_option maxHeartbeats 12800000 in
set_option maxRecDepth 100000 in
theorem text9_good (k : Int) (ng : Bool) (num : ByteArray) (e : Int) (den : ByteArray) (hn : num.size ≤ 65536) (hd : den.size ≤ 65536) (hk : k = 1 ∨ k = 2 ∨ k = 3) (e0 : -1073741824 ≤ e) (e1 : e ≤ 1073741824) (hrt : rightB k num.data.toList e den.data.toList = true) {w : World} (hT : PowTab w) (hTl : ∀ w', Below w.heap.size w w' → PowTab w') :
    Calls Tryz.prog 18 #[.agg (numC k ng num e den)] w fun r w' => r = .returned (.tuple #[.string (str (txL k ng num.data.toList e den.data.toList)), .int .i64 0]) ∧ Below w.heap.size w w' := by
  have hCk : ∀ w, Calls Tryz.prog 34 #[.agg (numC k ng num e den)] w fun r w' => r = .returned (.int .i64 0) ∧ Below w.heap.size w w' := fun w => by
    have := check9_any k ng num e den (by omega) (by omega) w
    rw [hrt, if_pos rfl] at this
    exact this
  have hO1 := fun w => orZero9_any num w
  have hO2 := fun w => orZero9_any den w
  have oN : (ozL num.data.toList).length ≤ 65537 := by unfold ozL; split; simp; rw [← Lib.size_eq]; omega
  have oD : (ozL den.data.toList).length ≤ 65537 := by unfold ozL; split; simp; rw [← Lib.size_eq]; omega
  have iT : (Lib.itoa e).length ≤ 21 := Lib.itoa_length_le e (by omega) (by omega)
  have hIt := fun {w : World} (h : PowTab w) => itoa9 e0 e1 w h
  have HTX : Hid (txL k ng num.data.toList e den.data.toList = (if ng = true then [45] else []) ++ ((if k = 2 then [48, 120] else []) ++ (ozL num.data.toList ++ (if k = 3 then 47 :: ozL den.data.toList else if k = 2 then 112 :: Lib.itoa e else if e ≠ 0 then 101 :: Lib.itoa e else [])))) := rfl
  generalize ozL num.data.toList = O1 at *
  generalize ozL den.data.toList = O2 at *
  generalize Lib.itoa e = IT at *
  have sO1 : (str O1).size ≤ 65537 := by rw [str_size]; exact oN
  have sO2 : (str O2).size ≤ 65537 := by rw [str_size]; exact oD
  have sIT : (str IT).size ≤ 21 := by rw [str_size]; exact iT
  have q47 : ByteArray.mk #[47] ++ str O2 = str (47 :: O2) := cat_str9b [47] O2
  have q112 : ByteArray.mk #[112] ++ str IT = str (112 :: IT) := cat_str9b [112] _
  have q101 : ByteArray.mk #[101] ++ str IT = str (101 :: IT) := cat_str9b [101] _
  have s47 : (str (47 :: O2)).size ≤ 70000 := by rw [str_size, List.length_cons]; omega
  have s112 : (str (112 :: IT)).size ≤ 70000 := by rw [str_size, List.length_cons]; omega
  have s101 : (str (101 :: IT)).size ≤ 70000 := by rw [str_size, List.length_cons]; omega
  have hb0 : Below w.heap.size w (w.alloc (.cells (numC k ng num e den) 30)) := (Below.refl _ w).alloc (Nat.le_refl _) _
  have HK : Hid (Bk (w.alloc (.cells (numC k ng num e den) 30)) w.heap.size 30 (numC k ng num e den)) := Bk.new w _ _
  obtain ⟨g, hg⟩ : ∃ g, g = w.heap.size := ⟨_, rfl⟩
  rw [← hg] at HK
  have HG : Hid (w.heap.size = g) := hg.symm
  unfold numC at hb0 hCk HK ⊢
  clear hrt
  go_enter Tryz.func18, Tryz.ntmps18
  go_wp2_with fail
  rw [← hg]
  refine (hCk _).mono ?_
  rintro r w1 ⟨rfl, b1⟩
  have B1 := hb0.trans (b1.mono hb0.size)
  have K1 := HK.out.later b1
  clear hCk hb0 HK hg b1
  go_upto_region 4 with fail
  have HB := Lib.fresh_isBuilder 65 5 w1
  have hal : Below w1.heap.size w1 (w1.alloc (.cells #[.pointer none, .slice none 0 0] 65)) := (Below.refl _ w1).alloc (Nat.le_refl _) _
  have B2 := B1.trans (hal.mono B1.size)
  have K2 := K1.later hal
  have gl := K1.lt
  have kb := B1.size
  generalize w1.alloc (.cells #[.pointer none, .slice none 0 0] 65) = w2 at *
  obtain ⟨gb, hgb⟩ : ∃ gb, gb = w1.heap.size := ⟨_, rfl⟩
  rw [← hgb] at HB gl kb ⊢
  clear hgb hal K1 B1
  have HB0 : Lib.IsBuilder 65 5 gb gb (Lib.byteCells []) w2 := HB
  clear HB
  have tl := fun w' h => hTl w' h
  have low : ∀ {w' w'' : World}, Below gb w' w'' → Below w.heap.size w w' → Below w.heap.size w w'' := fun h h' => h'.trans (h.mono (by omega))
  clear hT hTl
  cases ng
  · rcases hk with rfl | rfl | rfl
    · by_cases he : e = 0
      · subst he
        have KX := K2
        have BX := B2
        have HB := HB0
        clear K2 B2 HB0
        have z0 := KX.cell 0 (v := .int .i64 1) rfl
        have z1 := KX.cell 1 (v := .bool false) rfl
        have z2 := KX.cell 2 (v := .string num) rfl
        have z3 := KX.cell 3 (v := .int .i64 0) rfl
        have z4 := KX.cell 4 (v := .string den) rfl
        go_wp2_with fail
        refine (hO1 _).mono ?_
        rintro r wz ⟨rfl, rfl⟩
        go_wp2_with fail
        refine (bWrite9 gb (([] : B)) (str O1) _ HB (by first | (simp; done) | (simp; omega)) (by omega)).mono ?_
        rintro r v3 ⟨rfl, HB', hb⟩
        replace KX := Bk_low KX hb gl
        replace BX := low hb BX
        clear HB hb
        have HB := HB'
        clear HB'
        clear z0 z1 z2 z3 z4
        have z0 := KX.cell 0 (v := .int .i64 1) rfl
        have z1 := KX.cell 1 (v := .bool false) rfl
        have z2 := KX.cell 2 (v := .string num) rfl
        have z3 := KX.cell 3 (v := .int .i64 0) rfl
        have z4 := KX.cell 4 (v := .string den) rfl
        have hS := bString9 gb (([] : B) ++ (str O1).data.toList) _ HB
        go_wp2_with fail
        refine hS.mono ?_
        rintro r v9 ⟨rfl, hb⟩
        replace BX := low hb BX
        clear hS HB hb KX
        go_wp2
        refine bodyPost_ret (v := .tuple #[.string (str (([] : B) ++ (str O1).data.toList)), .int .i64 0]) (by simp [results, Tryz.results18, go_sem]) rfl ?_
        exact ⟨by rw [HTX.out]; simp [str_list], BX⟩
      · have te : (e != 0) = true := by simpa using he
        have KX := K2
        have BX := B2
        have HB := HB0
        clear K2 B2 HB0
        have z0 := KX.cell 0 (v := .int .i64 1) rfl
        have z1 := KX.cell 1 (v := .bool false) rfl
        have z2 := KX.cell 2 (v := .string num) rfl
        have z3 := KX.cell 3 (v := .int .i64 e) rfl
        have z4 := KX.cell 4 (v := .string den) rfl
        go_wp2_with fail
        refine (hO1 _).mono ?_
        rintro r wz ⟨rfl, rfl⟩
        go_wp2_with fail
        refine (bWrite9 gb (([] : B)) (str O1) _ HB (by first | (simp; done) | (simp; omega)) (by omega)).mono ?_
        rintro r v3 ⟨rfl, HB', hb⟩
        replace KX := Bk_low KX hb gl
        replace BX := low hb BX
        clear HB hb
        have HB := HB'
        clear HB'
        clear z0 z1 z2 z3 z4
        have z0 := KX.cell 0 (v := .int .i64 1) rfl
        have z1 := KX.cell 1 (v := .bool false) rfl
        have z2 := KX.cell 2 (v := .string num) rfl
        have z3 := KX.cell 3 (v := .int .i64 e) rfl
        have z4 := KX.cell 4 (v := .string den) rfl
        go_wp2_with fail
        refine (hIt (tl _ BX)).mono ?_
        rintro r v4 ⟨rfl, hb⟩
        replace KX := KX.later hb
        replace BX := BX.trans (hb.mono BX.size)
        replace HB := isB_later HB hb
        clear hb
        clear z0 z1 z2 z3 z4
        go_wp2_with fail
        refine (bWrite9 gb (([] : B) ++ (str O1).data.toList) (str (101 :: IT)) _ HB (by first | (simp; done) | (simp; omega)) (by omega)).mono ?_
        rintro r v5 ⟨rfl, HB', hb⟩
        replace KX := Bk_low KX hb gl
        replace BX := low hb BX
        clear HB hb
        have HB := HB'
        clear HB'
        have hS := bString9 gb (([] : B) ++ (str O1).data.toList ++ (str (101 :: IT)).data.toList) _ HB
        go_wp2_with fail
        refine hS.mono ?_
        rintro r v9 ⟨rfl, hb⟩
        replace BX := low hb BX
        clear hS HB hb KX
        go_wp2
        refine bodyPost_ret (v := .tuple #[.string (str (([] : B) ++ (str O1).data.toList ++ (str (101 :: IT)).data.toList)), .int .i64 0]) (by simp [results, Tryz.results18, go_sem]) rfl ?_
        exact ⟨by rw [HTX.out]; simp [str_list, he], BX⟩
    · skip
      have KX := K2
      have BX := B2
      have HB := HB0
      clear K2 B2 HB0
      have z0 := KX.cell 0 (v := .int .i64 2) rfl
      have z1 := KX.cell 1 (v := .bool false) rfl
      have z2 := KX.cell 2 (v := .string num) rfl
      have z3 := KX.cell 3 (v := .int .i64 e) rfl
      have z4 := KX.cell 4 (v := .string den) rfl
      go_wp2_with fail
      refine (bWrite9 gb (([] : B)) (ByteArray.mk #[48, 120]) _ HB (by first | (simp; done) | (simp; omega)) (by decide)).mono ?_
      rintro r v3 ⟨rfl, HB', hb⟩
      replace KX := Bk_low KX hb gl
      replace BX := low hb BX
      clear HB hb
      have HB := HB'
      clear HB'
      clear z0 z1 z2 z3 z4
      have z0 := KX.cell 0 (v := .int .i64 2) rfl
      have z1 := KX.cell 1 (v := .bool false) rfl
      have z2 := KX.cell 2 (v := .string num) rfl
      have z3 := KX.cell 3 (v := .int .i64 e) rfl
      have z4 := KX.cell 4 (v := .string den) rfl
      go_wp2_with fail
      refine (hO1 _).mono ?_
      rintro r wz ⟨rfl, rfl⟩
      go_wp2_with fail
      refine (bWrite9 gb (([] : B) ++ (ByteArray.mk #[48, 120]).data.toList) (str O1) _ HB (by first | (simp; done) | (simp; omega)) (by omega)).mono ?_
      rintro r v4 ⟨rfl, HB', hb⟩
      replace KX := Bk_low KX hb gl
      replace BX := low hb BX
      clear HB hb
      have HB := HB'
      clear HB'
      clear z0 z1 z2 z3 z4
      have z0 := KX.cell 0 (v := .int .i64 2) rfl
      have z1 := KX.cell 1 (v := .bool false) rfl
      have z2 := KX.cell 2 (v := .string num) rfl
      have z3 := KX.cell 3 (v := .int .i64 e) rfl
      have z4 := KX.cell 4 (v := .string den) rfl
      go_wp2_with fail
      refine (hIt (tl _ BX)).mono ?_
      rintro r v5 ⟨rfl, hb⟩
      replace KX := KX.later hb
      replace BX := BX.trans (hb.mono BX.size)
      replace HB := isB_later HB hb
      clear hb
      clear z0 z1 z2 z3 z4
      go_wp2_with fail
      refine (bWrite9 gb (([] : B) ++ (ByteArray.mk #[48, 120]).data.toList ++ (str O1).data.toList) (str (112 :: IT)) _ HB (by first | (simp; done) | (simp; omega)) (by omega)).mono ?_
      rintro r v6 ⟨rfl, HB', hb⟩
      replace KX := Bk_low KX hb gl
      replace BX := low hb BX
      clear HB hb
      have HB := HB'
      clear HB'
      have hS := bString9 gb (([] : B) ++ (ByteArray.mk #[48, 120]).data.toList ++ (str O1).data.toList ++ (str (112 :: IT)).data.toList) _ HB
      go_wp2_with fail
      refine hS.mono ?_
      rintro r v9 ⟨rfl, hb⟩
      replace BX := low hb BX
      clear hS HB hb KX
      go_wp2
      refine bodyPost_ret (v := .tuple #[.string (str (([] : B) ++ (ByteArray.mk #[48, 120]).data.toList ++ (str O1).data.toList ++ (str (112 :: IT)).data.toList)), .int .i64 0]) (by simp [results, Tryz.results18, go_sem]) rfl ?_
      exact ⟨by rw [HTX.out]; simp [str_list], BX⟩
    · skip
      have KX := K2
      have BX := B2
      have HB := HB0
      clear K2 B2 HB0
      have z0 := KX.cell 0 (v := .int .i64 3) rfl
      have z1 := KX.cell 1 (v := .bool false) rfl
      have z2 := KX.cell 2 (v := .string num) rfl
      have z3 := KX.cell 3 (v := .int .i64 e) rfl
      have z4 := KX.cell 4 (v := .string den) rfl
      go_wp2_with fail
      refine (hO1 _).mono ?_
      rintro r wz ⟨rfl, rfl⟩
      go_wp2_with fail
      refine (bWrite9 gb (([] : B)) (str O1) _ HB (by first | (simp; done) | (simp; omega)) (by omega)).mono ?_
      rintro r v3 ⟨rfl, HB', hb⟩
      replace KX := Bk_low KX hb gl
      replace BX := low hb BX
      clear HB hb
      have HB := HB'
      clear HB'
      clear z0 z1 z2 z3 z4
      have z0 := KX.cell 0 (v := .int .i64 3) rfl
      have z1 := KX.cell 1 (v := .bool false) rfl
      have z2 := KX.cell 2 (v := .string num) rfl
      have z3 := KX.cell 3 (v := .int .i64 e) rfl
      have z4 := KX.cell 4 (v := .string den) rfl
      go_wp2_with fail
      refine (hO2 _).mono ?_
      rintro r wz ⟨rfl, rfl⟩
      go_wp2_with fail
      refine (bWrite9 gb (([] : B) ++ (str O1).data.toList) (str (47 :: O2)) _ HB (by first | (simp; done) | (simp; omega)) (by omega)).mono ?_
      rintro r v4 ⟨rfl, HB', hb⟩
      replace KX := Bk_low KX hb gl
      replace BX := low hb BX
      clear HB hb
      have HB := HB'
      clear HB'
      clear z0 z1 z2 z3 z4
      have hS := bString9 gb (([] : B) ++ (str O1).data.toList ++ (str (47 :: O2)).data.toList) _ HB
      go_wp2_with fail
      refine hS.mono ?_
      rintro r v9 ⟨rfl, hb⟩
      replace BX := low hb BX
      clear hS HB hb KX
      go_wp2
      refine bodyPost_ret (v := .tuple #[.string (str (([] : B) ++ (str O1).data.toList ++ (str (47 :: O2)).data.toList)), .int .i64 0]) (by simp [results, Tryz.results18, go_sem]) rfl ?_
      exact ⟨by rw [HTX.out]; simp [str_list], BX⟩
  · rcases hk with rfl | rfl | rfl
    · by_cases he : e = 0
      · subst he
        have KX := K2
        have BX := B2
        have HB := HB0
        clear K2 B2 HB0
        have z0 := KX.cell 0 (v := .int .i64 1) rfl
        have z1 := KX.cell 1 (v := .bool true) rfl
        have z2 := KX.cell 2 (v := .string num) rfl
        have z3 := KX.cell 3 (v := .int .i64 0) rfl
        have z4 := KX.cell 4 (v := .string den) rfl
        go_wp2_with fail
        refine (bWrite9 gb (([] : B)) (ByteArray.mk #[45]) _ HB (by first | (simp; done) | (simp; omega)) (by decide)).mono ?_
        rintro r v3 ⟨rfl, HB', hb⟩
        replace KX := Bk_low KX hb gl
        replace BX := low hb BX
        clear HB hb
        have HB := HB'
        clear HB'
        clear z0 z1 z2 z3 z4
        have z0 := KX.cell 0 (v := .int .i64 1) rfl
        have z1 := KX.cell 1 (v := .bool true) rfl
        have z2 := KX.cell 2 (v := .string num) rfl
        have z3 := KX.cell 3 (v := .int .i64 0) rfl
        have z4 := KX.cell 4 (v := .string den) rfl
        go_wp2_with fail
        refine (hO1 _).mono ?_
        rintro r wz ⟨rfl, rfl⟩
        go_wp2_with fail
        refine (bWrite9 gb (([] : B) ++ (ByteArray.mk #[45]).data.toList) (str O1) _ HB (by first | (simp; done) | (simp; omega)) (by omega)).mono ?_
        rintro r v4 ⟨rfl, HB', hb⟩
        replace KX := Bk_low KX hb gl
        replace BX := low hb BX
        clear HB hb
        have HB := HB'
        clear HB'
        clear z0 z1 z2 z3 z4
        have z0 := KX.cell 0 (v := .int .i64 1) rfl
        have z1 := KX.cell 1 (v := .bool true) rfl
        have z2 := KX.cell 2 (v := .string num) rfl
        have z3 := KX.cell 3 (v := .int .i64 0) rfl
        have z4 := KX.cell 4 (v := .string den) rfl
        have hS := bString9 gb (([] : B) ++ (ByteArray.mk #[45]).data.toList ++ (str O1).data.toList) _ HB
        go_wp2_with fail
        refine hS.mono ?_
        rintro r v9 ⟨rfl, hb⟩
        replace BX := low hb BX
        clear hS HB hb KX
        go_wp2
        refine bodyPost_ret (v := .tuple #[.string (str (([] : B) ++ (ByteArray.mk #[45]).data.toList ++ (str O1).data.toList)), .int .i64 0]) (by simp [results, Tryz.results18, go_sem]) rfl ?_
        exact ⟨by rw [HTX.out]; simp [str_list], BX⟩
      · have te : (e != 0) = true := by simpa using he
        have KX := K2
        have BX := B2
        have HB := HB0
        clear K2 B2 HB0
        have z0 := KX.cell 0 (v := .int .i64 1) rfl
        have z1 := KX.cell 1 (v := .bool true) rfl
        have z2 := KX.cell 2 (v := .string num) rfl
        have z3 := KX.cell 3 (v := .int .i64 e) rfl
        have z4 := KX.cell 4 (v := .string den) rfl
        go_wp2_with fail
        refine (bWrite9 gb (([] : B)) (ByteArray.mk #[45]) _ HB (by first | (simp; done) | (simp; omega)) (by decide)).mono ?_
        rintro r v3 ⟨rfl, HB', hb⟩
        replace KX := Bk_low KX hb gl
        replace BX := low hb BX
        clear HB hb
        have HB := HB'
        clear HB'
        clear z0 z1 z2 z3 z4
        have z0 := KX.cell 0 (v := .int .i64 1) rfl
        have z1 := KX.cell 1 (v := .bool true) rfl
        have z2 := KX.cell 2 (v := .string num) rfl
        have z3 := KX.cell 3 (v := .int .i64 e) rfl
        have z4 := KX.cell 4 (v := .string den) rfl
        go_wp2_with fail
        refine (hO1 _).mono ?_
        rintro r wz ⟨rfl, rfl⟩
        go_wp2_with fail
        refine (bWrite9 gb (([] : B) ++ (ByteArray.mk #[45]).data.toList) (str O1) _ HB (by first | (simp; done) | (simp; omega)) (by omega)).mono ?_
        rintro r v4 ⟨rfl, HB', hb⟩
        replace KX := Bk_low KX hb gl
        replace BX := low hb BX
        clear HB hb
        have HB := HB'
        clear HB'
        clear z0 z1 z2 z3 z4
        have z0 := KX.cell 0 (v := .int .i64 1) rfl
        have z1 := KX.cell 1 (v := .bool true) rfl
        have z2 := KX.cell 2 (v := .string num) rfl
        have z3 := KX.cell 3 (v := .int .i64 e) rfl
        have z4 := KX.cell 4 (v := .string den) rfl
        go_wp2_with fail
        refine (hIt (tl _ BX)).mono ?_
        rintro r v5 ⟨rfl, hb⟩
        replace KX := KX.later hb
        replace BX := BX.trans (hb.mono BX.size)
        replace HB := isB_later HB hb
        clear hb
        clear z0 z1 z2 z3 z4
        go_wp2_with fail
        refine (bWrite9 gb (([] : B) ++ (ByteArray.mk #[45]).data.toList ++ (str O1).data.toList) (str (101 :: IT)) _ HB (by first | (simp; done) | (simp; omega)) (by omega)).mono ?_
        rintro r v6 ⟨rfl, HB', hb⟩
        replace KX := Bk_low KX hb gl
        replace BX := low hb BX
        clear HB hb
        have HB := HB'
        clear HB'
        have hS := bString9 gb (([] : B) ++ (ByteArray.mk #[45]).data.toList ++ (str O1).data.toList ++ (str (101 :: IT)).data.toList) _ HB
        go_wp2_with fail
        refine hS.mono ?_
        rintro r v9 ⟨rfl, hb⟩
        replace BX := low hb BX
        clear hS HB hb KX
        go_wp2
        refine bodyPost_ret (v := .tuple #[.string (str (([] : B) ++ (ByteArray.mk #[45]).data.toList ++ (str O1).data.toList ++ (str (101 :: IT)).data.toList)), .int .i64 0]) (by simp [results, Tryz.results18, go_sem]) rfl ?_
        exact ⟨by rw [HTX.out]; simp [str_list, he], BX⟩
    · skip
      have KX := K2
      have BX := B2
      have HB := HB0
      clear K2 B2 HB0
      have z0 := KX.cell 0 (v := .int .i64 2) rfl
      have z1 := KX.cell 1 (v := .bool true) rfl
      have z2 := KX.cell 2 (v := .string num) rfl
      have z3 := KX.cell 3 (v := .int .i64 e) rfl
      have z4 := KX.cell 4 (v := .string den) rfl
      go_wp2_with fail
      refine (bWrite9 gb (([] : B)) (ByteArray.mk #[45]) _ HB (by first | (simp; done) | (simp; omega)) (by decide)).mono ?_
      rintro r v3 ⟨rfl, HB', hb⟩
      replace KX := Bk_low KX hb gl
      replace BX := low hb BX
      clear HB hb
      have HB := HB'
      clear HB'
      clear z0 z1 z2 z3 z4
      have z0 := KX.cell 0 (v := .int .i64 2) rfl
      have z1 := KX.cell 1 (v := .bool true) rfl
      have z2 := KX.cell 2 (v := .string num) rfl
      have z3 := KX.cell 3 (v := .int .i64 e) rfl
      have z4 := KX.cell 4 (v := .string den) rfl
      go_wp2_with fail
      refine (bWrite9 gb (([] : B) ++ (ByteArray.mk #[45]).data.toList) (ByteArray.mk #[48, 120]) _ HB (by first | (simp; done) | (simp; omega)) (by decide)).mono ?_
      rintro r v4 ⟨rfl, HB', hb⟩
      replace KX := Bk_low KX hb gl
      replace BX := low hb BX
      clear HB hb
      have HB := HB'
      clear HB'
      clear z0 z1 z2 z3 z4
      have z0 := KX.cell 0 (v := .int .i64 2) rfl
      have z1 := KX.cell 1 (v := .bool true) rfl
      have z2 := KX.cell 2 (v := .string num) rfl
      have z3 := KX.cell 3 (v := .int .i64 e) rfl
      have z4 := KX.cell 4 (v := .string den) rfl
      go_wp2_with fail
      refine (hO1 _).mono ?_
      rintro r wz ⟨rfl, rfl⟩
      go_wp2_with fail
      refine (bWrite9 gb (([] : B) ++ (ByteArray.mk #[45]).data.toList ++ (ByteArray.mk #[48, 120]).data.toList) (str O1) _ HB (by first | (simp; done) | (simp; omega)) (by omega)).mono ?_
      rintro r v5 ⟨rfl, HB', hb⟩
      replace KX := Bk_low KX hb gl
      replace BX := low hb BX
      clear HB hb
      have HB := HB'
      clear HB'
      clear z0 z1 z2 z3 z4
      have z0 := KX.cell 0 (v := .int .i64 2) rfl
      have z1 := KX.cell 1 (v := .bool true) rfl
      have z2 := KX.cell 2 (v := .string num) rfl
      have z3 := KX.cell 3 (v := .int .i64 e) rfl
      have z4 := KX.cell 4 (v := .string den) rfl
      go_wp2_with fail
      refine (hIt (tl _ BX)).mono ?_
      rintro r v6 ⟨rfl, hb⟩
      replace KX := KX.later hb
      replace BX := BX.trans (hb.mono BX.size)
      replace HB := isB_later HB hb
      clear hb
      clear z0 z1 z2 z3 z4
      go_wp2_with fail
      refine (bWrite9 gb (([] : B) ++ (ByteArray.mk #[45]).data.toList ++ (ByteArray.mk #[48, 120]).data.toList ++ (str O1).data.toList) (str (112 :: IT)) _ HB (by first | (simp; done) | (simp; omega)) (by omega)).mono ?_
      rintro r v7 ⟨rfl, HB', hb⟩
      replace KX := Bk_low KX hb gl
      replace BX := low hb BX
      clear HB hb
      have HB := HB'
      clear HB'
      have hS := bString9 gb (([] : B) ++ (ByteArray.mk #[45]).data.toList ++ (ByteArray.mk #[48, 120]).data.toList ++ (str O1).data.toList ++ (str (112 :: IT)).data.toList) _ HB
      go_wp2_with fail
      refine hS.mono ?_
      rintro r v9 ⟨rfl, hb⟩
      replace BX := low hb BX
      clear hS HB hb KX
      go_wp2
      refine bodyPost_ret (v := .tuple #[.string (str (([] : B) ++ (ByteArray.mk #[45]).data.toList ++ (ByteArray.mk #[48, 120]).data.toList ++ (str O1).data.toList ++ (str (112 :: IT)).data.toList)), .int .i64 0]) (by simp [results, Tryz.results18, go_sem]) rfl ?_
      exact ⟨by rw [HTX.out]; simp [str_list], BX⟩
    · skip
      have KX := K2
      have BX := B2
      have HB := HB0
      clear K2 B2 HB0
      have z0 := KX.cell 0 (v := .int .i64 3) rfl
      have z1 := KX.cell 1 (v := .bool true) rfl
      have z2 := KX.cell 2 (v := .string num) rfl
      have z3 := KX.cell 3 (v := .int .i64 e) rfl
      have z4 := KX.cell 4 (v := .string den) rfl
      go_wp2_with fail
      refine (bWrite9 gb (([] : B)) (ByteArray.mk #[45]) _ HB (by first | (simp; done) | (simp; omega)) (by decide)).mono ?_
      rintro r v3 ⟨rfl, HB', hb⟩
      replace KX := Bk_low KX hb gl
      replace BX := low hb BX
      clear HB hb
      have HB := HB'
      clear HB'
      clear z0 z1 z2 z3 z4
      have z0 := KX.cell 0 (v := .int .i64 3) rfl
      have z1 := KX.cell 1 (v := .bool true) rfl
      have z2 := KX.cell 2 (v := .string num) rfl
      have z3 := KX.cell 3 (v := .int .i64 e) rfl
      have z4 := KX.cell 4 (v := .string den) rfl
      go_wp2_with fail
      refine (hO1 _).mono ?_
      rintro r wz ⟨rfl, rfl⟩
      go_wp2_with fail
      refine (bWrite9 gb (([] : B) ++ (ByteArray.mk #[45]).data.toList) (str O1) _ HB (by first | (simp; done) | (simp; omega)) (by omega)).mono ?_
      rintro r v4 ⟨rfl, HB', hb⟩
      replace KX := Bk_low KX hb gl
      replace BX := low hb BX
      clear HB hb
      have HB := HB'
      clear HB'
      clear z0 z1 z2 z3 z4
      have z0 := KX.cell 0 (v := .int .i64 3) rfl
      have z1 := KX.cell 1 (v := .bool true) rfl
      have z2 := KX.cell 2 (v := .string num) rfl
      have z3 := KX.cell 3 (v := .int .i64 e) rfl
      have z4 := KX.cell 4 (v := .string den) rfl
      go_wp2_with fail
      refine (hO2 _).mono ?_
      rintro r wz ⟨rfl, rfl⟩
      go_wp2_with fail
      refine (bWrite9 gb (([] : B) ++ (ByteArray.mk #[45]).data.toList ++ (str O1).data.toList) (str (47 :: O2)) _ HB (by first | (simp; done) | (simp; omega)) (by omega)).mono ?_
      rintro r v5 ⟨rfl, HB', hb⟩
      replace KX := Bk_low KX hb gl
      replace BX := low hb BX
      clear HB hb
      have HB := HB'
      clear HB'
      clear z0 z1 z2 z3 z4
      have hS := bString9 gb (([] : B) ++ (ByteArray.mk #[45]).data.toList ++ (str O1).data.toList ++ (str (47 :: O2)).data.toList) _ HB
      go_wp2_with fail
      refine hS.mono ?_
      rintro r v9 ⟨rfl, hb⟩
      replace BX := low hb BX
      clear hS HB hb KX
      go_wp2
      refine bodyPost_ret (v := .tuple #[.string (str (([] : B) ++ (ByteArray.mk #[45]).data.toList ++ (str O1).data.toList ++ (str (47 :: O2)).data.toList)), .int .i64 0]) (by simp [results, Tryz.results18, go_sem]) rfl ?_
      exact ⟨by rw [HTX.out]; simp [str_list], BX⟩
end Go.Proofs.YtfgpjplfplbcdaaGreatDoor

/- Layer 18: the text of a token. -/
namespace Go.Proofs.YtfgpjplfplbcdaaGreatDoor
open Go.ChangeShapes Go.WideShapes Go.ChangeAt Go.RowKit
open Lx Tk Go.Shelf
set_option linter.unusedVariables false
namespace Tk
/-- any token -/
structure Tg where
  kind : Int
  fr : Int
  till : Int
  word : B
  num : Nm
/-- what it is written as -/
def txT (t : Tg) : B :=
  if t.kind = 1 then t.word
  else if t.kind = 5 then (if rightB t.num.kind t.num.num t.num.exp t.num.den then txL t.num.kind t.num.neg t.num.num t.num.exp t.num.den else [])
  else if t.kind = 2 then [40] else if t.kind = 3 then [41] else if t.kind = 4 then [44] else []
def gapT (t : Tg) : Bool := t.kind == 1 || t.kind == 5
def tgA (t : Tg) : Array Value := tkA t.kind t.fr t.till t.word t.num
/-- written tight -/
def tightL : Bool → List Tg → B
  | _, [] => []
  | g, t :: r => if txT t = [] then tightL g r else (if (g && gapT t) = true then [32] else []) ++ (txT t ++ tightL (gapT t) r)
theorem right_kind {k e : Int} {num den : B} (h : rightB k num e den = true) : (k = 1 ∨ k = 2 ∨ k = 3) ∧ num.length ≤ 65536 ∧ den.length ≤ 65536 ∧ -1073741824 ≤ e ∧ e ≤ 1073741824 := by
  unfold rightB at h
  split at h
  · rename_i h1
    simp only [keptB, withB, Bool.and_eq_true, decide_eq_true_eq, isEmpty_iff] at h
    refine ⟨Or.inl h1, h.1.1, ?_, h.2.2.1, h.2.2.2⟩
    rw [h.2.1]; simp
  · split at h
    · rename_i h1
      simp only [keptB, withB, Bool.and_eq_true, decide_eq_true_eq, isEmpty_iff] at h
      refine ⟨Or.inr (Or.inl h1), h.1.1, ?_, h.2.2.1, h.2.2.2⟩
      rw [h.2.1]; simp
    · split at h
      · rename_i h1
        simp only [keptB, Bool.and_eq_true, decide_eq_true_eq] at h
        exact ⟨Or.inr (Or.inr h1), h.1.1, h.2.1.1, by omega, by omega⟩
      · cases h
end Tk
set_option maxHeartbeats 1600000 in
set_option maxRecDepth 100000 in
theorem text18_any (t : Tg) (hn : t.num.num.length ≤ 1000000000) (hd : t.num.den.length ≤ 1000000000) {w : World} (hT : ∀ w', Below w.heap.size w w' → PowTab w') :
    Calls Tryz.prog 26 #[.agg (tgA t)] w fun e w' => e = .returned (.string (str (txT t))) ∧ Below w.heap.size w w' := by
  have hb0 : Below w.heap.size w (w.alloc (.cells (tgA t) 32)) := (Below.refl _ w).alloc (Nat.le_refl _) _
  have c5 : Calls Tryz.prog 18 #[.agg (numC t.num.kind t.num.neg (str t.num.num) t.num.exp (str t.num.den))] (w.alloc (.cells (tgA t) 32)) fun e w' => (∃ c, e = .returned (.tuple #[.string (str (if rightB t.num.kind t.num.num t.num.exp t.num.den then txL t.num.kind t.num.neg t.num.num t.num.exp t.num.den else [])), .int .i64 c])) ∧ Below (w.alloc (.cells (tgA t) 32)).heap.size (w.alloc (.cells (tgA t) 32)) w' := by
    cases hr : rightB t.num.kind t.num.num t.num.exp t.num.den
    · refine (text9_bad _ _ (str t.num.num) _ (str t.num.den) (by rw [str_size]; omega) (by rw [str_size]; omega) (by rw [str_list, str_list]; exact hr) _).mono ?_
      rintro e w' ⟨rfl, hb⟩
      exact ⟨⟨_, rfl⟩, hb⟩
    · obtain ⟨r1, r2, r3, r4, r5⟩ := right_kind hr
      refine (text9_good _ _ (str t.num.num) _ (str t.num.den) (by rw [str_size]; omega) (by rw [str_size]; omega) r1 r4 r5 (by rw [str_list, str_list]; exact hr) (hT _ hb0) (fun w' hb => hT w' (hb0.trans (hb.mono hb0.size)))).mono ?_
      rintro e w' ⟨rfl, hb⟩
      rw [str_list, str_list]
      exact ⟨⟨_, rfl⟩, hb⟩
  have e0 : txT t = if t.kind = 1 then t.word else if t.kind = 5 then (if rightB t.num.kind t.num.num t.num.exp t.num.den then txL t.num.kind t.num.neg t.num.num t.num.exp t.num.den else []) else if t.kind = 2 then [40] else if t.kind = 3 then [41] else if t.kind = 4 then [44] else [] := rfl
  rw [e0]
  clear e0
  generalize (if rightB t.num.kind t.num.num t.num.exp t.num.den then txL t.num.kind t.num.neg t.num.num t.num.exp t.num.den else []) = TX at *
  unfold tgA tkA at *
  unfold numC at c5
  obtain ⟨k, f, tl, wd, n⟩ := t
  simp only at *
  by_cases k1 : k = 1
  · rw [if_pos k1]
    have d1 : (k == 1) = true := by simpa using k1
    clear k1 c5
    go_enter Tryz.func26, Tryz.ntmps26
    go_wp2
    go_ret
    exact ⟨rfl, hb0⟩
  · rw [if_neg k1]
    have d1 : (k == 1) = false := by simpa using k1
    by_cases k5 : k = 5
    · rw [if_pos k5]
      have d5 : (k == 5) = true := by simpa using k5
      clear k1 k5
      go_enter Tryz.func26, Tryz.ntmps26
      go_wp2_with fail
      refine c5.mono ?_
      rintro e w1 ⟨⟨c, rfl⟩, hb1⟩
      have hb2 := hb0.trans (hb1.mono hb0.size)
      clear c5 hb1 hb0
      go_wp2
      go_ret
      exact ⟨rfl, hb2⟩
    · rw [if_neg k5]
      have d5 : (k == 5) = false := by simpa using k5
      clear c5
      by_cases k2 : k = 2
      · rw [if_pos k2]
        have d2 : (k == 2) = true := by simpa using k2
        clear k1 k5 k2
        go_enter Tryz.func26, Tryz.ntmps26
        go_wp2
        go_ret
        exact ⟨rfl, hb0⟩
      · rw [if_neg k2]
        have d2 : (k == 2) = false := by simpa using k2
        by_cases k3 : k = 3
        · rw [if_pos k3]
          have d3 : (k == 3) = true := by simpa using k3
          clear k1 k5 k2 k3
          go_enter Tryz.func26, Tryz.ntmps26
          go_wp2
          go_ret
          exact ⟨rfl, hb0⟩
        · rw [if_neg k3]
          have d3 : (k == 3) = false := by simpa using k3
          by_cases k4 : k = 4
          · rw [if_pos k4]
            have d4 : (k == 4) = true := by simpa using k4
            clear k1 k5 k2 k3 k4
            go_enter Tryz.func26, Tryz.ntmps26
            go_wp2
            go_ret
            exact ⟨rfl, hb0⟩
          · rw [if_neg k4]
            have d4 : (k == 4) = false := by simpa using k4
            clear k1 k5 k2 k3 k4
            go_enter Tryz.func26, Tryz.ntmps26
            go_wp2
            go_ret
            exact ⟨rfl, hb0⟩
end Go.Proofs.YtfgpjplfplbcdaaGreatDoor


/- Layer 9: lex.Text, walked. -/
import Derived.Test.YtfgpjplfplbcdaaGreatDoorLexTx
import Derived.Lib.ItoaLen
namespace Go.Proofs.YtfgpjplfplbcdaaGreatDoor
open Go.ChangeShapes Go.WideShapes Go.ChangeAt Go.RowKit
open Lx Go.Shelf
set_option linter.unusedVariables false
theorem Bk_low {w w' : World} {g b : Nat} {t : TypeId} {vs : Array Value} (h : Bk w g t vs) (hb : Below b w w') (hg : g < b) : Bk w' g t vs := by
  unfold Bk at *
  rw [hb.block g hg]
  exact h
theorem isB_later {T e : TypeId} {B b : Nat} {bs : List Value} {W W' : World} (h : Lib.IsBuilder T e B b bs W) (hb : Below W.heap.size W W') : Lib.IsBuilder T e B b bs W' := by
  have key : ∀ {p : Value}, Lib.BuilderAt T e B b p bs W → Lib.BuilderAt T e B b p bs W' := fun {p} h => by
    have hlt := h.lt
    obtain ⟨hB, v, hv, hown, hne⟩ := h
    exact ⟨hB, v, (hb.block b hlt).trans hv, hown.kept (row := none) ⟨hb.os, hb.tape, hb.output, hb.size, fun k hk _ => hb.block k hk⟩ (Classical.em _), hne⟩
  exact h.elim (fun x => .inl (key x)) (fun x => .inr (key x))
set_option maxHeartbeats 1600000 in
set_option maxRecDepth 100000 in
theorem text9_bad (k : Int) (ng : Bool) (num : ByteArray) (e : Int) (den : ByteArray) (hn : num.size ≤ 9223372036854775807) (hd : den.size ≤ 9223372036854775807) (hrt : rightB k num.data.toList e den.data.toList = false) (w : World) :
    Calls Tryz.prog 18 #[.agg (numC k ng num e den)] w fun r w' => r = .returned (.tuple #[.string (ByteArray.mk #[]), .int .i64 90]) ∧ Below w.heap.size w w' := by
  have hCk : ∀ w, Calls Tryz.prog 34 #[.agg (numC k ng num e den)] w fun r w' => r = .returned (.int .i64 90) ∧ Below w.heap.size w w' := fun w => by
    have := check9_any k ng num e den hn hd w
    rw [if_neg (by rw [hrt]; decide)] at this
    exact this
  have hb0 : Below w.heap.size w (w.alloc (.cells (numC k ng num e den) 30)) := (Below.refl _ w).alloc (Nat.le_refl _) _
  unfold numC at hb0 hCk ⊢
  clear hrt
  go_enter Tryz.func18, Tryz.ntmps18
  go_wp2_with fail
  refine (hCk _).mono ?_
  rintro r w1 ⟨rfl, b1⟩
  have B1 := hb0.trans (b1.mono hb0.size)
  clear hCk
  go_wp2
  refine bodyPost_ret (v := .tuple #[.string (ByteArray.mk #[]), .int .i64 90]) (by simp [results, Tryz.results18, go_sem]) rfl ?_
  exact ⟨rfl, B1⟩
set_option maxHeartbeats 12800000 in
set_option maxRecDepth 100000 in
theorem text9_good (k : Int) (ng : Bool) (num : ByteArray) (e : Int) (den : ByteArray) (hn : num.size ≤ 65536) (hd : den.size ≤ 65536) (hk : k = 1 ∨ k = 2 ∨ k = 3) (e0 : -1073741824 ≤ e) (e1 : e ≤ 1073741824) (hrt : rightB k num.data.toList e den.data.toList = true) {w : World} (hT : PowTab w) (hTl : ∀ w', Below w.heap.size w w' → PowTab w') :
    Calls Tryz.prog 18 #[.agg (numC k ng num e den)] w fun r w' => r = .returned (.tuple #[.string (str (txL k ng num.data.toList e den.data.toList)), .int .i64 0]) ∧ Below w.heap.size w w' := by
  have hCk : ∀ w, Calls Tryz.prog 34 #[.agg (numC k ng num e den)] w fun r w' => r = .returned (.int .i64 0) ∧ Below w.heap.size w w' := fun w => by
    have := check9_any k ng num e den (by omega) (by omega) w
    rw [hrt, if_pos rfl] at this
    exact this
  have hO1 := fun w => orZero9_any num w
  have hO2 := fun w => orZero9_any den w
  have oN : (ozL num.data.toList).length ≤ 65537 := by unfold ozL; split; simp; rw [← Lib.size_eq]; omega
  have oD : (ozL den.data.toList).length ≤ 65537 := by unfold ozL; split; simp; rw [← Lib.size_eq]; omega
  have iT : (Lib.itoa e).length ≤ 21 := Lib.itoa_length_le e (by omega) (by omega)
  have hIt := fun {w : World} (h : PowTab w) => itoa9 e0 e1 w h
  have HTX : Hid (txL k ng num.data.toList e den.data.toList = (if ng = true then [45] else []) ++ ((if k = 2 then [48, 120] else []) ++ (ozL num.data.toList ++ (if k = 3 then 47 :: ozL den.data.toList else if k = 2 then 112 :: Lib.itoa e else if e ≠ 0 then 101 :: Lib.itoa e else [])))) := rfl
  generalize ozL num.data.toList = O1 at *
  generalize ozL den.data.toList = O2 at *
  generalize Lib.itoa e = IT at *
  have sO1 : (str O1).size ≤ 65537 := by rw [str_size]; exact oN
  have sO2 : (str O2).size ≤ 65537 := by rw [str_size]; exact oD
  have sIT : (str IT).size ≤ 21 := by rw [str_size]; exact iT
  have q47 : ByteArray.mk #[47] ++ str O2 = str (47 :: O2) := cat_str9b [47] O2
  have q112 : ByteArray.mk #[112] ++ str IT = str (112 :: IT) := cat_str9b [112] _
  have q101 : ByteArray.mk #[101] ++ str IT = str (101 :: IT) := cat_str9b [101] _
  have s47 : (str (47 :: O2)).size ≤ 70000 := by rw [str_size, List.length_cons]; omega
  have s112 : (str (112 :: IT)).size ≤ 70000 := by rw [str_size, List.length_cons]; omega
  have s101 : (str (101 :: IT)).size ≤ 70000 := by rw [str_size, List.length_cons]; omega
  have hb0 : Below w.heap.size w (w.alloc (.cells (numC k ng num e den) 30)) := (Below.refl _ w).alloc (Nat.le_refl _) _
  have HK : Hid (Bk (w.alloc (.cells (numC k ng num e den) 30)) w.heap.size 30 (numC k ng num e den)) := Bk.new w _ _
  obtain ⟨g, hg⟩ : ∃ g, g = w.heap.size := ⟨_, rfl⟩
  rw [← hg] at HK
  have HG : Hid (w.heap.size = g) := hg.symm
  unfold numC at hb0 hCk HK ⊢
  clear hrt
  go_enter Tryz.func18, Tryz.ntmps18
  go_wp2_with fail
  rw [← hg]
  refine (hCk _).mono ?_
  rintro r w1 ⟨rfl, b1⟩
  have B1 := hb0.trans (b1.mono hb0.size)
  have K1 := HK.out.later b1
  clear hCk hb0 HK hg b1
  go_upto_region 4 with fail
  have HB := Lib.fresh_isBuilder 65 5 w1
  have hal : Below w1.heap.size w1 (w1.alloc (.cells #[.pointer none, .slice none 0 0] 65)) := (Below.refl _ w1).alloc (Nat.le_refl _) _
  have B2 := B1.trans (hal.mono B1.size)
  have K2 := K1.later hal
  have gl := K1.lt
  have kb := B1.size
  generalize w1.alloc (.cells #[.pointer none, .slice none 0 0] 65) = w2 at *
  obtain ⟨gb, hgb⟩ : ∃ gb, gb = w1.heap.size := ⟨_, rfl⟩
  rw [← hgb] at HB gl kb ⊢
  clear hgb hal K1 B1
  have HB0 : Lib.IsBuilder 65 5 gb gb (Lib.byteCells []) w2 := HB
  clear HB
  have tl := fun w' h => hTl w' h
  have low : ∀ {w' w'' : World}, Below gb w' w'' → Below w.heap.size w w' → Below w.heap.size w w'' := fun h h' => h'.trans (h.mono (by omega))
  clear hT hTl
  cases ng
  · rcases hk with rfl | rfl | rfl
    · by_cases he : e = 0
      · subst he
        have KX := K2
        have BX := B2
        have HB := HB0
        clear K2 B2 HB0
        have z0 := KX.cell 0 (v := .int .i64 1) rfl
        have z1 := KX.cell 1 (v := .bool false) rfl
        have z2 := KX.cell 2 (v := .string num) rfl
        have z3 := KX.cell 3 (v := .int .i64 0) rfl
        have z4 := KX.cell 4 (v := .string den) rfl
        go_wp2_with fail
        refine (hO1 _).mono ?_
        rintro r wz ⟨rfl, rfl⟩
        go_wp2_with fail
        refine (bWrite9 gb (([] : B)) (str O1) _ HB (by first | (simp; done) | (simp; omega)) (by omega)).mono ?_
        rintro r v3 ⟨rfl, HB', hb⟩
        replace KX := Bk_low KX hb gl
        replace BX := low hb BX
        clear HB hb
        have HB := HB'
        clear HB'
        clear z0 z1 z2 z3 z4
        have z0 := KX.cell 0 (v := .int .i64 1) rfl
        have z1 := KX.cell 1 (v := .bool false) rfl
        have z2 := KX.cell 2 (v := .string num) rfl
        have z3 := KX.cell 3 (v := .int .i64 0) rfl
        have z4 := KX.cell 4 (v := .string den) rfl
        have hS := bString9 gb (([] : B) ++ (str O1).data.toList) _ HB
        go_wp2_with fail
        refine hS.mono ?_
        rintro r v9 ⟨rfl, hb⟩
        replace BX := low hb BX
        clear hS HB hb KX
        go_wp2
        refine bodyPost_ret (v := .tuple #[.string (str (([] : B) ++ (str O1).data.toList)), .int .i64 0]) (by simp [results, Tryz.results18, go_sem]) rfl ?_
        exact ⟨by rw [HTX.out]; simp [str_list], BX⟩
      · have te : (e != 0) = true := by simpa using he
        have KX := K2
        have BX := B2
        have HB := HB0
        clear K2 B2 HB0
        have z0 := KX.cell 0 (v := .int .i64 1) rfl
        have z1 := KX.cell 1 (v := .bool false) rfl
        have z2 := KX.cell 2 (v := .string num) rfl
        have z3 := KX.cell 3 (v := .int .i64 e) rfl
        have z4 := KX.cell 4 (v := .string den) rfl
        go_wp2_with fail
        refine (hO1 _).mono ?_
        rintro r wz ⟨rfl, rfl⟩
        go_wp2_with fail
        refine (bWrite9 gb (([] : B)) (str O1) _ HB (by first | (simp; done) | (simp; omega)) (by omega)).mono ?_
        rintro r v3 ⟨rfl, HB', hb⟩
        replace KX := Bk_low KX hb gl
        replace BX := low hb BX
        clear HB hb
        have HB := HB'
        clear HB'
        clear z0 z1 z2 z3 z4
        have z0 := KX.cell 0 (v := .int .i64 1) rfl
        have z1 := KX.cell 1 (v := .bool false) rfl
        have z2 := KX.cell 2 (v := .string num) rfl
        have z3 := KX.cell 3 (v := .int .i64 e) rfl
        have z4 := KX.cell 4 (v := .string den) rfl
        go_wp2_with fail
        refine (hIt (tl _ BX)).mono ?_
        rintro r v4 ⟨rfl, hb⟩
        replace KX := KX.later hb
        replace BX := BX.trans (hb.mono BX.size)
        replace HB := isB_later HB hb
        clear hb
        clear z0 z1 z2 z3 z4
        go_wp2_with fail
        refine (bWrite9 gb (([] : B) ++ (str O1).data.toList) (str (101 :: IT)) _ HB (by first | (simp; done) | (simp; omega)) (by omega)).mono ?_
        rintro r v5 ⟨rfl, HB', hb⟩
        replace KX := Bk_low KX hb gl
        replace BX := low hb BX
        clear HB hb
        have HB := HB'
        clear HB'
        have hS := bString9 gb (([] : B) ++ (str O1).data.toList ++ (str (101 :: IT)).data.toList) _ HB
        go_wp2_with fail
        refine hS.mono ?_
        rintro r v9 ⟨rfl, hb⟩
        replace BX := low hb BX
        clear hS HB hb KX
        go_wp2
        refine bodyPost_ret (v := .tuple #[.string (str (([] : B) ++ (str O1).data.toList ++ (str (101 :: IT)).data.toList)), .int .i64 0]) (by simp [results, Tryz.results18, go_sem]) rfl ?_
        exact ⟨by rw [HTX.out]; simp [str_list, he], BX⟩
    · skip
      have KX := K2
      have BX := B2
      have HB := HB0
      clear K2 B2 HB0
      have z0 := KX.cell 0 (v := .int .i64 2) rfl
      have z1 := KX.cell 1 (v := .bool false) rfl
      have z2 := KX.cell 2 (v := .string num) rfl
      have z3 := KX.cell 3 (v := .int .i64 e) rfl
      have z4 := KX.cell 4 (v := .string den) rfl
      go_wp2_with fail
      refine (bWrite9 gb (([] : B)) (ByteArray.mk #[48, 120]) _ HB (by first | (simp; done) | (simp; omega)) (by decide)).mono ?_
      rintro r v3 ⟨rfl, HB', hb⟩
      replace KX := Bk_low KX hb gl
      replace BX := low hb BX
      clear HB hb
      have HB := HB'
      clear HB'
      clear z0 z1 z2 z3 z4
      have z0 := KX.cell 0 (v := .int .i64 2) rfl
      have z1 := KX.cell 1 (v := .bool false) rfl
      have z2 := KX.cell 2 (v := .string num) rfl
      have z3 := KX.cell 3 (v := .int .i64 e) rfl
      have z4 := KX.cell 4 (v := .string den) rfl
      go_wp2_with fail
      refine (hO1 _).mono ?_
      rintro r wz ⟨rfl, rfl⟩
      go_wp2_with fail
      refine (bWrite9 gb (([] : B) ++ (ByteArray.mk #[48, 120]).data.toList) (str O1) _ HB (by first | (simp; done) | (simp; omega)) (by omega)).mono ?_
      rintro r v4 ⟨rfl, HB', hb⟩
      replace KX := Bk_low KX hb gl
      replace BX := low hb BX
      clear HB hb
      have HB := HB'
      clear HB'
      clear z0 z1 z2 z3 z4
      have z0 := KX.cell 0 (v := .int .i64 2) rfl
      have z1 := KX.cell 1 (v := .bool false) rfl
      have z2 := KX.cell 2 (v := .string num) rfl
      have z3 := KX.cell 3 (v := .int .i64 e) rfl
      have z4 := KX.cell 4 (v := .string den) rfl
      go_wp2_with fail
      refine (hIt (tl _ BX)).mono ?_
      rintro r v5 ⟨rfl, hb⟩
      replace KX := KX.later hb
      replace BX := BX.trans (hb.mono BX.size)
      replace HB := isB_later HB hb
      clear hb
      clear z0 z1 z2 z3 z4
      go_wp2_with fail
      refine (bWrite9 gb (([] : B) ++ (ByteArray.mk #[48, 120]).data.toList ++ (str O1).data.toList) (str (112 :: IT)) _ HB (by first | (simp; done) | (simp; omega)) (by omega)).mono ?_
      rintro r v6 ⟨rfl, HB', hb⟩
      replace KX := Bk_low KX hb gl
      replace BX := low hb BX
      clear HB hb
      have HB := HB'
      clear HB'
      have hS := bString9 gb (([] : B) ++ (ByteArray.mk #[48, 120]).data.toList ++ (str O1).data.toList ++ (str (112 :: IT)).data.toList) _ HB
      go_wp2_with fail
      refine hS.mono ?_
      rintro r v9 ⟨rfl, hb⟩
      replace BX := low hb BX
      clear hS HB hb KX
      go_wp2
      refine bodyPost_ret (v := .tuple #[.string (str (([] : B) ++ (ByteArray.mk #[48, 120]).data.toList ++ (str O1).data.toList ++ (str (112 :: IT)).data.toList)), .int .i64 0]) (by simp [results, Tryz.results18, go_sem]) rfl ?_
      exact ⟨by rw [HTX.out]; simp [str_list], BX⟩
    · skip
      have KX := K2
      have BX := B2
      have HB := HB0
      clear K2 B2 HB0
      have z0 := KX.cell 0 (v := .int .i64 3) rfl
      have z1 := KX.cell 1 (v := .bool false) rfl
      have z2 := KX.cell 2 (v := .string num) rfl
      have z3 := KX.cell 3 (v := .int .i64 e) rfl
      have z4 := KX.cell 4 (v := .string den) rfl
      go_wp2_with fail
      refine (hO1 _).mono ?_
      rintro r wz ⟨rfl, rfl⟩
      go_wp2_with fail
      refine (bWrite9 gb (([] : B)) (str O1) _ HB (by first | (simp; done) | (simp; omega)) (by omega)).mono ?_
      rintro r v3 ⟨rfl, HB', hb⟩
      replace KX := Bk_low KX hb gl
      replace BX := low hb BX
      clear HB hb
      have HB := HB'
      clear HB'
      clear z0 z1 z2 z3 z4
      have z0 := KX.cell 0 (v := .int .i64 3) rfl
      have z1 := KX.cell 1 (v := .bool false) rfl
      have z2 := KX.cell 2 (v := .string num) rfl
      have z3 := KX.cell 3 (v := .int .i64 e) rfl
      have z4 := KX.cell 4 (v := .string den) rfl
      go_wp2_with fail
      refine (hO2 _).mono ?_
      rintro r wz ⟨rfl, rfl⟩
      go_wp2_with fail
      refine (bWrite9 gb (([] : B) ++ (str O1).data.toList) (str (47 :: O2)) _ HB (by first | (simp; done) | (simp; omega)) (by omega)).mono ?_
      rintro r v4 ⟨rfl, HB', hb⟩
      replace KX := Bk_low KX hb gl
      replace BX := low hb BX
      clear HB hb
      have HB := HB'
      clear HB'
      clear z0 z1 z2 z3 z4
      have hS := bString9 gb (([] : B) ++ (str O1).data.toList ++ (str (47 :: O2)).data.toList) _ HB
      go_wp2_with fail
      refine hS.mono ?_
      rintro r v9 ⟨rfl, hb⟩
      replace BX := low hb BX
      clear hS HB hb KX
      go_wp2
      refine bodyPost_ret (v := .tuple #[.string (str (([] : B) ++ (str O1).data.toList ++ (str (47 :: O2)).data.toList)), .int .i64 0]) (by simp [results, Tryz.results18, go_sem]) rfl ?_
      exact ⟨by rw [HTX.out]; simp [str_list], BX⟩
  · rcases hk with rfl | rfl | rfl
    · by_cases he : e = 0
      · subst he
        have KX := K2
        have BX := B2
        have HB := HB0
        clear K2 B2 HB0
        have z0 := KX.cell 0 (v := .int .i64 1) rfl
        have z1 := KX.cell 1 (v := .bool true) rfl
        have z2 := KX.cell 2 (v := .string num) rfl
        have z3 := KX.cell 3 (v := .int .i64 0) rfl
        have z4 := KX.cell 4 (v := .string den) rfl
        go_wp2_with fail
        refine (bWrite9 gb (([] : B)) (ByteArray.mk #[45]) _ HB (by first | (simp; done) | (simp; omega)) (by decide)).mono ?_
        rintro r v3 ⟨rfl, HB', hb⟩
        replace KX := Bk_low KX hb gl
        replace BX := low hb BX
        clear HB hb
        have HB := HB'
        clear HB'
        clear z0 z1 z2 z3 z4
        have z0 := KX.cell 0 (v := .int .i64 1) rfl
        have z1 := KX.cell 1 (v := .bool true) rfl
        have z2 := KX.cell 2 (v := .string num) rfl
        have z3 := KX.cell 3 (v := .int .i64 0) rfl
        have z4 := KX.cell 4 (v := .string den) rfl
        go_wp2_with fail
        refine (hO1 _).mono ?_
        rintro r wz ⟨rfl, rfl⟩
        go_wp2_with fail
        refine (bWrite9 gb (([] : B) ++ (ByteArray.mk #[45]).data.toList) (str O1) _ HB (by first | (simp; done) | (simp; omega)) (by omega)).mono ?_
        rintro r v4 ⟨rfl, HB', hb⟩
        replace KX := Bk_low KX hb gl
        replace BX := low hb BX
        clear HB hb
        have HB := HB'
        clear HB'
        clear z0 z1 z2 z3 z4
        have z0 := KX.cell 0 (v := .int .i64 1) rfl
        have z1 := KX.cell 1 (v := .bool true) rfl
        have z2 := KX.cell 2 (v := .string num) rfl
        have z3 := KX.cell 3 (v := .int .i64 0) rfl
        have z4 := KX.cell 4 (v := .string den) rfl
        have hS := bString9 gb (([] : B) ++ (ByteArray.mk #[45]).data.toList ++ (str O1).data.toList) _ HB
        go_wp2_with fail
        refine hS.mono ?_
        rintro r v9 ⟨rfl, hb⟩
        replace BX := low hb BX
        clear hS HB hb KX
        go_wp2
        refine bodyPost_ret (v := .tuple #[.string (str (([] : B) ++ (ByteArray.mk #[45]).data.toList ++ (str O1).data.toList)), .int .i64 0]) (by simp [results, Tryz.results18, go_sem]) rfl ?_
        exact ⟨by rw [HTX.out]; simp [str_list], BX⟩
      · have te : (e != 0) = true := by simpa using he
        have KX := K2
        have BX := B2
        have HB := HB0
        clear K2 B2 HB0
        have z0 := KX.cell 0 (v := .int .i64 1) rfl
        have z1 := KX.cell 1 (v := .bool true) rfl
        have z2 := KX.cell 2 (v := .string num) rfl
        have z3 := KX.cell 3 (v := .int .i64 e) rfl
        have z4 := KX.cell 4 (v := .string den) rfl
        go_wp2_with fail
        refine (bWrite9 gb (([] : B)) (ByteArray.mk #[45]) _ HB (by first | (simp; done) | (simp; omega)) (by decide)).mono ?_
        rintro r v3 ⟨rfl, HB', hb⟩
        replace KX := Bk_low KX hb gl
        replace BX := low hb BX
        clear HB hb
        have HB := HB'
        clear HB'
        clear z0 z1 z2 z3 z4
        have z0 := KX.cell 0 (v := .int .i64 1) rfl
        have z1 := KX.cell 1 (v := .bool true) rfl
        have z2 := KX.cell 2 (v := .string num) rfl
        have z3 := KX.cell 3 (v := .int .i64 e) rfl
        have z4 := KX.cell 4 (v := .string den) rfl
        go_wp2_with fail
        refine (hO1 _).mono ?_
        rintro r wz ⟨rfl, rfl⟩
        go_wp2_with fail
        refine (bWrite9 gb (([] : B) ++ (ByteArray.mk #[45]).data.toList) (str O1) _ HB (by first | (simp; done) | (simp; omega)) (by omega)).mono ?_
        rintro r v4 ⟨rfl, HB', hb⟩
        replace KX := Bk_low KX hb gl
        replace BX := low hb BX
        clear HB hb
        have HB := HB'
        clear HB'
        clear z0 z1 z2 z3 z4
        have z0 := KX.cell 0 (v := .int .i64 1) rfl
        have z1 := KX.cell 1 (v := .bool true) rfl
        have z2 := KX.cell 2 (v := .string num) rfl
        have z3 := KX.cell 3 (v := .int .i64 e) rfl
        have z4 := KX.cell 4 (v := .string den) rfl
        go_wp2_with fail
        refine (hIt (tl _ BX)).mono ?_
        rintro r v5 ⟨rfl, hb⟩
        replace KX := KX.later hb
        replace BX := BX.trans (hb.mono BX.size)
        replace HB := isB_later HB hb
        clear hb
        clear z0 z1 z2 z3 z4
        go_wp2_with fail
        refine (bWrite9 gb (([] : B) ++ (ByteArray.mk #[45]).data.toList ++ (str O1).data.toList) (str (101 :: IT)) _ HB (by first | (simp; done) | (simp; omega)) (by omega)).mono ?_
        rintro r v6 ⟨rfl, HB', hb⟩
        replace KX := Bk_low KX hb gl
        replace BX := low hb BX
        clear HB hb
        have HB := HB'
        clear HB'
        have hS := bString9 gb (([] : B) ++ (ByteArray.mk #[45]).data.toList ++ (str O1).data.toList ++ (str (101 :: IT)).data.toList) _ HB
        go_wp2_with fail
        refine hS.mono ?_
        rintro r v9 ⟨rfl, hb⟩
        replace BX := low hb BX
        clear hS HB hb KX
        go_wp2
        refine bodyPost_ret (v := .tuple #[.string (str (([] : B) ++ (ByteArray.mk #[45]).data.toList ++ (str O1).data.toList ++ (str (101 :: IT)).data.toList)), .int .i64 0]) (by simp [results, Tryz.results18, go_sem]) rfl ?_
        exact ⟨by rw [HTX.out]; simp [str_list, he], BX⟩
    · skip
      have KX := K2
      have BX := B2
      have HB := HB0
      clear K2 B2 HB0
      have z0 := KX.cell 0 (v := .int .i64 2) rfl
      have z1 := KX.cell 1 (v := .bool true) rfl
      have z2 := KX.cell 2 (v := .string num) rfl
      have z3 := KX.cell 3 (v := .int .i64 e) rfl
      have z4 := KX.cell 4 (v := .string den) rfl
      go_wp2_with fail
      refine (bWrite9 gb (([] : B)) (ByteArray.mk #[45]) _ HB (by first | (simp; done) | (simp; omega)) (by decide)).mono ?_
      rintro r v3 ⟨rfl, HB', hb⟩
      replace KX := Bk_low KX hb gl
      replace BX := low hb BX
      clear HB hb
      have HB := HB'
      clear HB'
      clear z0 z1 z2 z3 z4
      have z0 := KX.cell 0 (v := .int .i64 2) rfl
      have z1 := KX.cell 1 (v := .bool true) rfl
      have z2 := KX.cell 2 (v := .string num) rfl
      have z3 := KX.cell 3 (v := .int .i64 e) rfl
      have z4 := KX.cell 4 (v := .string den) rfl
      go_wp2_with fail
      refine (bWrite9 gb (([] : B) ++ (ByteArray.mk #[45]).data.toList) (ByteArray.mk #[48, 120]) _ HB (by first | (simp; done) | (simp; omega)) (by decide)).mono ?_
      rintro r v4 ⟨rfl, HB', hb⟩
      replace KX := Bk_low KX hb gl
      replace BX := low hb BX
      clear HB hb
      have HB := HB'
      clear HB'
      clear z0 z1 z2 z3 z4
      have z0 := KX.cell 0 (v := .int .i64 2) rfl
      have z1 := KX.cell 1 (v := .bool true) rfl
      have z2 := KX.cell 2 (v := .string num) rfl
      have z3 := KX.cell 3 (v := .int .i64 e) rfl
      have z4 := KX.cell 4 (v := .string den) rfl
      go_wp2_with fail
      refine (hO1 _).mono ?_
      rintro r wz ⟨rfl, rfl⟩
      go_wp2_with fail
      refine (bWrite9 gb (([] : B) ++ (ByteArray.mk #[45]).data.toList ++ (ByteArray.mk #[48, 120]).data.toList) (str O1) _ HB (by first | (simp; done) | (simp; omega)) (by omega)).mono ?_
      rintro r v5 ⟨rfl, HB', hb⟩
      replace KX := Bk_low KX hb gl
      replace BX := low hb BX
      clear HB hb
      have HB := HB'
      clear HB'
      clear z0 z1 z2 z3 z4
      have z0 := KX.cell 0 (v := .int .i64 2) rfl
      have z1 := KX.cell 1 (v := .bool true) rfl
      have z2 := KX.cell 2 (v := .string num) rfl
      have z3 := KX.cell 3 (v := .int .i64 e) rfl
      have z4 := KX.cell 4 (v := .string den) rfl
      go_wp2_with fail
      refine (hIt (tl _ BX)).mono ?_
      rintro r v6 ⟨rfl, hb⟩
      replace KX := KX.later hb
      replace BX := BX.trans (hb.mono BX.size)
      replace HB := isB_later HB hb
      clear hb
      clear z0 z1 z2 z3 z4
      go_wp2_with fail
      refine (bWrite9 gb (([] : B) ++ (ByteArray.mk #[45]).data.toList ++ (ByteArray.mk #[48, 120]).data.toList ++ (str O1).data.toList) (str (112 :: IT)) _ HB (by first | (simp; done) | (simp; omega)) (by omega)).mono ?_
      rintro r v7 ⟨rfl, HB', hb⟩
      replace KX := Bk_low KX hb gl
      replace BX := low hb BX
      clear HB hb
      have HB := HB'
      clear HB'
      have hS := bString9 gb (([] : B) ++ (ByteArray.mk #[45]).data.toList ++ (ByteArray.mk #[48, 120]).data.toList ++ (str O1).data.toList ++ (str (112 :: IT)).data.toList) _ HB
      go_wp2_with fail
      refine hS.mono ?_
      rintro r v9 ⟨rfl, hb⟩
      replace BX := low hb BX
      clear hS HB hb KX
      go_wp2
      refine bodyPost_ret (v := .tuple #[.string (str (([] : B) ++ (ByteArray.mk #[45]).data.toList ++ (ByteArray.mk #[48, 120]).data.toList ++ (str O1).data.toList ++ (str (112 :: IT)).data.toList)), .int .i64 0]) (by simp [results, Tryz.results18, go_sem]) rfl ?_
      exact ⟨by rw [HTX.out]; simp [str_list], BX⟩
    · skip
      have KX := K2
      have BX := B2
      have HB := HB0
      clear K2 B2 HB0
      have z0 := KX.cell 0 (v := .int .i64 3) rfl
      have z1 := KX.cell 1 (v := .bool true) rfl
      have z2 := KX.cell 2 (v := .string num) rfl
      have z3 := KX.cell 3 (v := .int .i64 e) rfl
      have z4 := KX.cell 4 (v := .string den) rfl
      go_wp2_with fail
      refine (bWrite9 gb (([] : B)) (ByteArray.mk #[45]) _ HB (by first | (simp; done) | (simp; omega)) (by decide)).mono ?_
      rintro r v3 ⟨rfl, HB', hb⟩
      replace KX := Bk_low KX hb gl
      replace BX := low hb BX
      clear HB hb
      have HB := HB'
      clear HB'
      clear z0 z1 z2 z3 z4
      have z0 := KX.cell 0 (v := .int .i64 3) rfl
      have z1 := KX.cell 1 (v := .bool true) rfl
      have z2 := KX.cell 2 (v := .string num) rfl
      have z3 := KX.cell 3 (v := .int .i64 e) rfl
      have z4 := KX.cell 4 (v := .string den) rfl
      go_wp2_with fail
      refine (hO1 _).mono ?_
      rintro r wz ⟨rfl, rfl⟩
      go_wp2_with fail
      refine (bWrite9 gb (([] : B) ++ (ByteArray.mk #[45]).data.toList) (str O1) _ HB (by first | (simp; done) | (simp; omega)) (by omega)).mono ?_
      rintro r v4 ⟨rfl, HB', hb⟩
      replace KX := Bk_low KX hb gl
      replace BX := low hb BX
      clear HB hb
      have HB := HB'
      clear HB'
      clear z0 z1 z2 z3 z4
      have z0 := KX.cell 0 (v := .int .i64 3) rfl
      have z1 := KX.cell 1 (v := .bool true) rfl
      have z2 := KX.cell 2 (v := .string num) rfl
      have z3 := KX.cell 3 (v := .int .i64 e) rfl
      have z4 := KX.cell 4 (v := .string den) rfl
      go_wp2_with fail
      refine (hO2 _).mono ?_
      rintro r wz ⟨rfl, rfl⟩
      go_wp2_with fail
      refine (bWrite9 gb (([] : B) ++ (ByteArray.mk #[45]).data.toList ++ (str O1).data.toList) (str (47 :: O2)) _ HB (by first | (simp; done) | (simp; omega)) (by omega)).mono ?_
      rintro r v5 ⟨rfl, HB', hb⟩
      replace KX := Bk_low KX hb gl
      replace BX := low hb BX
      clear HB hb
      have HB := HB'
      clear HB'
      clear z0 z1 z2 z3 z4
      have hS := bString9 gb (([] : B) ++ (ByteArray.mk #[45]).data.toList ++ (str O1).data.toList ++ (str (47 :: O2)).data.toList) _ HB
      go_wp2_with fail
      refine hS.mono ?_
      rintro r v9 ⟨rfl, hb⟩
      replace BX := low hb BX
      clear hS HB hb KX
      go_wp2
      refine bodyPost_ret (v := .tuple #[.string (str (([] : B) ++ (ByteArray.mk #[45]).data.toList ++ (str O1).data.toList ++ (str (47 :: O2)).data.toList)), .int .i64 0]) (by simp [results, Tryz.results18, go_sem]) rfl ?_
      exact ⟨by rw [HTX.out]; simp [str_list], BX⟩
end Go.Proofs.YtfgpjplfplbcdaaGreatDoor

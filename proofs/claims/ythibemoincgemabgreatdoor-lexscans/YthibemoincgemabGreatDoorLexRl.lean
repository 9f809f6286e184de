/- Layer 9: the document's Parse; the walk of LexScans (written by genlexrl.py). -/
import Derived.Test.YthibemoincgemabGreatDoorLexRk
namespace Go.Proofs.YthibemoincgemabGreatDoor
open Go.ChangeShapes Go.WideShapes Go.ChangeAt Go.RowKit
open Lx
set_option linter.unusedVariables false
set_option maxHeartbeats 6400000 in
set_option maxRecDepth 100000 in
theorem rparse9_all (s : ByteArray) (hs : s.size ≤ 10000) (w : World) :
    Calls Tryz.prog 13 #[.string s] w fun e w' => e = .returned (.tuple #[.agg (nmA (paN s)), .int .i64 (paC s), .int .i64 (paP s)]) ∧ Below w.heap.size w w' := by
  have hS := fun w => rscan9_all s hs 0 w
  have hle := scan_stop_le s 0 (Nat.zero_le _)
  rw [Nat.zero_add] at hle
  have b0 := Bk.new w 26 zero5
  have hb0 : Below w.heap.size w (w.alloc (.cells zero5 26)) := (Below.refl _ w).alloc (Nat.le_refl _) _
  have HB : Hid (Bk (w.alloc (.cells zero5 26)) w.heap.size 26 zero5) := b0
  clear b0
  have hlt0 : w.heap.size < (w.alloc (.cells zero5 26)).heap.size := by simp
  by_cases hok : scOk s 0
  · have e1 : scN s 0 = Lx.numOf (scanP s.data.toList 0) := by unfold scN; rw [if_pos hok]; rfl
    have e2 : scT s 0 = ((scanP s.data.toList 0).stop : Int) := by unfold scT; rw [if_pos hok, Int.zero_add]; rfl
    have e3 : scC s 0 = 0 := by unfold scC; rw [if_pos hok]
    have e4 : scP s 0 = -1 := by unfold scP; rw [if_pos hok]
    rw [e1, e2, e3, e4] at hS
    clear e1 e2 e3 e4
    by_cases hst : (scanP s.data.toList 0).stop = s.size
    · have p1 : paN s = Lx.numOf (scanP s.data.toList 0) := by unfold paN; rw [if_pos ⟨hok, hst⟩]
      have p2 : paC s = 0 := by unfold paC; rw [if_pos hok, if_pos hst]
      have p3 : paP s = -1 := by unfold paP; rw [if_pos hok, if_pos hst]
      rw [p1, p2, p3]
      rw [hst] at hS
      clear p1 p2 p3 hok hst hle
      generalize Lx.numOf (scanP s.data.toList 0) = nn at *
      go_enter Tryz.func13, Tryz.ntmps13
      go_wp2_with fail
      refine (hS _).mono ?_
      rintro e w1 ⟨rfl, hb1⟩
      change Below (w.alloc (.cells zero5 26)).heap.size (w.alloc (.cells zero5 26)) w1 at hb1
      have B1 := HB.out.later hb1
      have hl1 := hb1.size
      have hbA := hb0.trans (hb1.mono hb0.size)
      have z0 := B1.cell 0 rfl
      have zf0 := B1.frozen 0
      have z1 := B1.cell 1 rfl
      have zf1 := B1.frozen 1
      have z2 := B1.cell 2 rfl
      have zf2 := B1.frozen 2
      have z3 := B1.cell 3 rfl
      have zf3 := B1.frozen 3
      have z4 := B1.cell 4 rfl
      have zf4 := B1.frozen 4
      have hne : ¬ w.heap.size = w1.heap.size := by omega
      have hne2 : ¬ w1.heap.size = w.heap.size := by omega
      have hltw : w.heap.size < w1.heap.size := by omega
      have HB1 : Hid (Bk w1 w.heap.size 26 zero5) := B1
      clear B1
      clear HB hS
      have hbB : Below w1.heap.size w1 (w1.alloc (.cells (nmA nn) 26)) := (Below.refl _ w1).alloc (Nat.le_refl _) _
      unfold nmA at hbB ⊢
      go_wp2
      have T := Tn.all5 w1 w.heap.size (.int .i64 nn.kind) (.bool nn.neg) (.string (str nn.num)) (.int .i64 nn.exp) (.string (str nn.den))
      have BA := Bk.all5 HB1.out (.int .i64 nn.kind) (.bool nn.neg) (.string (str nn.num)) (.int .i64 nn.exp) (.string (str nn.den))
      have hbT := Tn.below hbA T (Nat.le_refl _) (Nat.le_refl _)
      generalize ((((w1.setCell ⟨w.heap.size, 0, none⟩ (.int .i64 nn.kind)).setCell ⟨w.heap.size, 1, none⟩ (.bool nn.neg)).setCell ⟨w.heap.size, 2, none⟩ (.string (str nn.num))).setCell ⟨w.heap.size, 3, none⟩ (.int .i64 nn.exp)).setCell ⟨w.heap.size, 4, none⟩ (.string (str nn.den)) = w2 at *
      have hbC : Below w2.heap.size w2 (w2.alloc (.cells (nmA nn) 26)) := (Below.refl _ w2).alloc (Nat.le_refl _) _
      refine bodyPost_ret (results_c2 rfl _ _ w.heap.size 26 (nmA nn) _ rfl (BA.later hbC) Tryz.underlying26 rfl (by kernel_rfl)) rfl ?_
      exact ⟨rfl, hbT.trans (hbC.mono hbT.size)⟩
    · have hlt : (scanP s.data.toList 0).stop < s.size := by omega
      have p1 : paN s = nmZ := by unfold paN; rw [if_neg (fun q => hst q.2)]
      have p2 : paC s = trl (s[(scanP s.data.toList 0).stop]'hlt) := by unfold paC; rw [if_pos hok, if_neg hst, Na.get_byte hlt]
      have p3 : paP s = ((scanP s.data.toList 0).stop : Int) := by unfold paP; rw [if_pos hok, if_neg hst]
      rw [p1, p2, p3]
      have hne9 : (((scanP s.data.toList 0).stop : Int) == (s.size : Int)) = false := by simp; omega
      have hi : ((scanP s.data.toList 0).stop : Int) < (s.size : Int) := by omega
      clear p1 p2 p3 hok hst hle
      generalize Lx.numOf (scanP s.data.toList 0) = nn at *
      generalize (scanP s.data.toList 0).stop = st at *
      have hu := fun (k : UInt8) => beq_u8 (s[st]'hlt) k
      have HX : ∀ x, (s[st]'hlt) = x → Hid ((s[st]'hlt) = x) := fun x h => h
      have h43 := hu 43
      have h45 := hu 45
      have h101 := hu 101
      have h69 := hu 69
      have h112 := hu 112
      have h80 := hu 80
      clear hu HX
      generalize hq : (s[st]'hlt) = x at *
      change ((x.toNat : Int) == 43) = _ at h43
      change ((x.toNat : Int) == 45) = _ at h45
      change ((x.toNat : Int) == 101) = _ at h101
      change ((x.toNat : Int) == 69) = _ at h69
      change ((x.toNat : Int) == 112) = _ at h112
      change ((x.toNat : Int) == 80) = _ at h80
      by_cases c43 : x = 43
      · have HQ : Hid (trl x = 91) := by show trl x = 91; rw [c43]; decide
        rw [beq_iff_eq.mpr c43] at h43
        clear c43

        go_enter Tryz.func13, Tryz.ntmps13
        go_wp2_with fail
        refine (hS _).mono ?_
        rintro e w1 ⟨rfl, hb1⟩

        change Below (w.alloc (.cells zero5 26)).heap.size (w.alloc (.cells zero5 26)) w1 at hb1
        have B1 := HB.out.later hb1
        have hl1 := hb1.size
        have hbA := hb0.trans (hb1.mono hb0.size)
        have z0 := B1.cell 0 rfl
        have zf0 := B1.frozen 0
        have z1 := B1.cell 1 rfl
        have zf1 := B1.frozen 1
        have z2 := B1.cell 2 rfl
        have zf2 := B1.frozen 2
        have z3 := B1.cell 3 rfl
        have zf3 := B1.frozen 3
        have z4 := B1.cell 4 rfl
        have zf4 := B1.frozen 4
        have hne : ¬ w.heap.size = w1.heap.size := by omega
        have hne2 : ¬ w1.heap.size = w.heap.size := by omega
        have hltw : w.heap.size < w1.heap.size := by omega
        have HB1 : Hid (Bk w1 w.heap.size 26 zero5) := B1
        clear B1

        clear HB hS
        have hbB : Below w1.heap.size w1 (w1.alloc (.cells (nmA nn) 26)) := (Below.refl _ w1).alloc (Nat.le_refl _) _
        unfold nmA at hbB ⊢
        go_wp2

        have T := Tn.all5 w1 w.heap.size (.int .i64 0) (.bool false) (.string ⟨#[]⟩) (.int .i64 0) (.string ⟨#[]⟩)
        have BA := Bk.all5 HB1.out (.int .i64 0) (.bool false) (.string ⟨#[]⟩) (.int .i64 0) (.string ⟨#[]⟩)
        have hbT := Tn.below hbA T (Nat.le_refl _) (Nat.le_refl _)
        generalize ((((w1.setCell ⟨w.heap.size, 0, none⟩ (.int .i64 0)).setCell ⟨w.heap.size, 1, none⟩ (.bool false)).setCell ⟨w.heap.size, 2, none⟩ (.string ⟨#[]⟩)).setCell ⟨w.heap.size, 3, none⟩ (.int .i64 0)).setCell ⟨w.heap.size, 4, none⟩ (.string ⟨#[]⟩) = w2 at *
        have hbC : Below w2.heap.size w2 (w2.alloc (.cells (nmA nn) 26)) := (Below.refl _ w2).alloc (Nat.le_refl _) _
        refine bodyPost_ret (results_c2 rfl _ _ w.heap.size 26 (nmA nmZ) _ rfl (BA.later hbC) Tryz.underlying26 rfl (by kernel_rfl)) rfl ?_
        exact ⟨by rw [HQ.out]; rfl, hbT.trans (hbC.mono hbT.size)⟩
      · by_cases c45 : x = 45
        · have HQ : Hid (trl x = 91) := by show trl x = 91; rw [c45]; decide
          rw [beq_iff_eq.mpr c45] at h45
          rw [beq_eq_false_iff_ne.mpr c43] at h43
          clear c43 c45

          go_enter Tryz.func13, Tryz.ntmps13
          go_wp2_with fail
          refine (hS _).mono ?_
          rintro e w1 ⟨rfl, hb1⟩

          change Below (w.alloc (.cells zero5 26)).heap.size (w.alloc (.cells zero5 26)) w1 at hb1
          have B1 := HB.out.later hb1
          have hl1 := hb1.size
          have hbA := hb0.trans (hb1.mono hb0.size)
          have z0 := B1.cell 0 rfl
          have zf0 := B1.frozen 0
          have z1 := B1.cell 1 rfl
          have zf1 := B1.frozen 1
          have z2 := B1.cell 2 rfl
          have zf2 := B1.frozen 2
          have z3 := B1.cell 3 rfl
          have zf3 := B1.frozen 3
          have z4 := B1.cell 4 rfl
          have zf4 := B1.frozen 4
          have hne : ¬ w.heap.size = w1.heap.size := by omega
          have hne2 : ¬ w1.heap.size = w.heap.size := by omega
          have hltw : w.heap.size < w1.heap.size := by omega
          have HB1 : Hid (Bk w1 w.heap.size 26 zero5) := B1
          clear B1

          clear HB hS
          have hbB : Below w1.heap.size w1 (w1.alloc (.cells (nmA nn) 26)) := (Below.refl _ w1).alloc (Nat.le_refl _) _
          unfold nmA at hbB ⊢
          go_wp2

          have T := Tn.all5 w1 w.heap.size (.int .i64 0) (.bool false) (.string ⟨#[]⟩) (.int .i64 0) (.string ⟨#[]⟩)
          have BA := Bk.all5 HB1.out (.int .i64 0) (.bool false) (.string ⟨#[]⟩) (.int .i64 0) (.string ⟨#[]⟩)
          have hbT := Tn.below hbA T (Nat.le_refl _) (Nat.le_refl _)
          generalize ((((w1.setCell ⟨w.heap.size, 0, none⟩ (.int .i64 0)).setCell ⟨w.heap.size, 1, none⟩ (.bool false)).setCell ⟨w.heap.size, 2, none⟩ (.string ⟨#[]⟩)).setCell ⟨w.heap.size, 3, none⟩ (.int .i64 0)).setCell ⟨w.heap.size, 4, none⟩ (.string ⟨#[]⟩) = w2 at *
          have hbC : Below w2.heap.size w2 (w2.alloc (.cells (nmA nn) 26)) := (Below.refl _ w2).alloc (Nat.le_refl _) _
          refine bodyPost_ret (results_c2 rfl _ _ w.heap.size 26 (nmA nmZ) _ rfl (BA.later hbC) Tryz.underlying26 rfl (by kernel_rfl)) rfl ?_
          exact ⟨by rw [HQ.out]; rfl, hbT.trans (hbC.mono hbT.size)⟩
        · by_cases c101 : x = 101
          · have HQ : Hid (trl x = 92) := by show trl x = 92; rw [c101]; decide
            rw [beq_iff_eq.mpr c101] at h101
            rw [beq_eq_false_iff_ne.mpr c43] at h43
            rw [beq_eq_false_iff_ne.mpr c45] at h45
            clear c43 c45 c101

            go_enter Tryz.func13, Tryz.ntmps13
            go_wp2_with fail
            refine (hS _).mono ?_
            rintro e w1 ⟨rfl, hb1⟩

            change Below (w.alloc (.cells zero5 26)).heap.size (w.alloc (.cells zero5 26)) w1 at hb1
            have B1 := HB.out.later hb1
            have hl1 := hb1.size
            have hbA := hb0.trans (hb1.mono hb0.size)
            have z0 := B1.cell 0 rfl
            have zf0 := B1.frozen 0
            have z1 := B1.cell 1 rfl
            have zf1 := B1.frozen 1
            have z2 := B1.cell 2 rfl
            have zf2 := B1.frozen 2
            have z3 := B1.cell 3 rfl
            have zf3 := B1.frozen 3
            have z4 := B1.cell 4 rfl
            have zf4 := B1.frozen 4
            have hne : ¬ w.heap.size = w1.heap.size := by omega
            have hne2 : ¬ w1.heap.size = w.heap.size := by omega
            have hltw : w.heap.size < w1.heap.size := by omega
            have HB1 : Hid (Bk w1 w.heap.size 26 zero5) := B1
            clear B1

            clear HB hS
            have hbB : Below w1.heap.size w1 (w1.alloc (.cells (nmA nn) 26)) := (Below.refl _ w1).alloc (Nat.le_refl _) _
            unfold nmA at hbB ⊢
            go_wp2

            have T := Tn.all5 w1 w.heap.size (.int .i64 0) (.bool false) (.string ⟨#[]⟩) (.int .i64 0) (.string ⟨#[]⟩)
            have BA := Bk.all5 HB1.out (.int .i64 0) (.bool false) (.string ⟨#[]⟩) (.int .i64 0) (.string ⟨#[]⟩)
            have hbT := Tn.below hbA T (Nat.le_refl _) (Nat.le_refl _)
            generalize ((((w1.setCell ⟨w.heap.size, 0, none⟩ (.int .i64 0)).setCell ⟨w.heap.size, 1, none⟩ (.bool false)).setCell ⟨w.heap.size, 2, none⟩ (.string ⟨#[]⟩)).setCell ⟨w.heap.size, 3, none⟩ (.int .i64 0)).setCell ⟨w.heap.size, 4, none⟩ (.string ⟨#[]⟩) = w2 at *
            have hbC : Below w2.heap.size w2 (w2.alloc (.cells (nmA nn) 26)) := (Below.refl _ w2).alloc (Nat.le_refl _) _
            refine bodyPost_ret (results_c2 rfl _ _ w.heap.size 26 (nmA nmZ) _ rfl (BA.later hbC) Tryz.underlying26 rfl (by kernel_rfl)) rfl ?_
            exact ⟨by rw [HQ.out]; rfl, hbT.trans (hbC.mono hbT.size)⟩
          · by_cases c69 : x = 69
            · have HQ : Hid (trl x = 92) := by show trl x = 92; rw [c69]; decide
              rw [beq_iff_eq.mpr c69] at h69
              rw [beq_eq_false_iff_ne.mpr c43] at h43
              rw [beq_eq_false_iff_ne.mpr c45] at h45
              rw [beq_eq_false_iff_ne.mpr c101] at h101
              clear c43 c45 c101 c69

              go_enter Tryz.func13, Tryz.ntmps13
              go_wp2_with fail
              refine (hS _).mono ?_
              rintro e w1 ⟨rfl, hb1⟩

              change Below (w.alloc (.cells zero5 26)).heap.size (w.alloc (.cells zero5 26)) w1 at hb1
              have B1 := HB.out.later hb1
              have hl1 := hb1.size
              have hbA := hb0.trans (hb1.mono hb0.size)
              have z0 := B1.cell 0 rfl
              have zf0 := B1.frozen 0
              have z1 := B1.cell 1 rfl
              have zf1 := B1.frozen 1
              have z2 := B1.cell 2 rfl
              have zf2 := B1.frozen 2
              have z3 := B1.cell 3 rfl
              have zf3 := B1.frozen 3
              have z4 := B1.cell 4 rfl
              have zf4 := B1.frozen 4
              have hne : ¬ w.heap.size = w1.heap.size := by omega
              have hne2 : ¬ w1.heap.size = w.heap.size := by omega
              have hltw : w.heap.size < w1.heap.size := by omega
              have HB1 : Hid (Bk w1 w.heap.size 26 zero5) := B1
              clear B1

              clear HB hS
              have hbB : Below w1.heap.size w1 (w1.alloc (.cells (nmA nn) 26)) := (Below.refl _ w1).alloc (Nat.le_refl _) _
              unfold nmA at hbB ⊢
              go_wp2

              have T := Tn.all5 w1 w.heap.size (.int .i64 0) (.bool false) (.string ⟨#[]⟩) (.int .i64 0) (.string ⟨#[]⟩)
              have BA := Bk.all5 HB1.out (.int .i64 0) (.bool false) (.string ⟨#[]⟩) (.int .i64 0) (.string ⟨#[]⟩)
              have hbT := Tn.below hbA T (Nat.le_refl _) (Nat.le_refl _)
              generalize ((((w1.setCell ⟨w.heap.size, 0, none⟩ (.int .i64 0)).setCell ⟨w.heap.size, 1, none⟩ (.bool false)).setCell ⟨w.heap.size, 2, none⟩ (.string ⟨#[]⟩)).setCell ⟨w.heap.size, 3, none⟩ (.int .i64 0)).setCell ⟨w.heap.size, 4, none⟩ (.string ⟨#[]⟩) = w2 at *
              have hbC : Below w2.heap.size w2 (w2.alloc (.cells (nmA nn) 26)) := (Below.refl _ w2).alloc (Nat.le_refl _) _
              refine bodyPost_ret (results_c2 rfl _ _ w.heap.size 26 (nmA nmZ) _ rfl (BA.later hbC) Tryz.underlying26 rfl (by kernel_rfl)) rfl ?_
              exact ⟨by rw [HQ.out]; rfl, hbT.trans (hbC.mono hbT.size)⟩
            · by_cases c112 : x = 112
              · have HQ : Hid (trl x = 92) := by show trl x = 92; rw [c112]; decide
                rw [beq_iff_eq.mpr c112] at h112
                rw [beq_eq_false_iff_ne.mpr c43] at h43
                rw [beq_eq_false_iff_ne.mpr c45] at h45
                rw [beq_eq_false_iff_ne.mpr c101] at h101
                rw [beq_eq_false_iff_ne.mpr c69] at h69
                clear c43 c45 c101 c69 c112

                go_enter Tryz.func13, Tryz.ntmps13
                go_wp2_with fail
                refine (hS _).mono ?_
                rintro e w1 ⟨rfl, hb1⟩

                change Below (w.alloc (.cells zero5 26)).heap.size (w.alloc (.cells zero5 26)) w1 at hb1
                have B1 := HB.out.later hb1
                have hl1 := hb1.size
                have hbA := hb0.trans (hb1.mono hb0.size)
                have z0 := B1.cell 0 rfl
                have zf0 := B1.frozen 0
                have z1 := B1.cell 1 rfl
                have zf1 := B1.frozen 1
                have z2 := B1.cell 2 rfl
                have zf2 := B1.frozen 2
                have z3 := B1.cell 3 rfl
                have zf3 := B1.frozen 3
                have z4 := B1.cell 4 rfl
                have zf4 := B1.frozen 4
                have hne : ¬ w.heap.size = w1.heap.size := by omega
                have hne2 : ¬ w1.heap.size = w.heap.size := by omega
                have hltw : w.heap.size < w1.heap.size := by omega
                have HB1 : Hid (Bk w1 w.heap.size 26 zero5) := B1
                clear B1

                clear HB hS
                have hbB : Below w1.heap.size w1 (w1.alloc (.cells (nmA nn) 26)) := (Below.refl _ w1).alloc (Nat.le_refl _) _
                unfold nmA at hbB ⊢
                go_wp2

                have T := Tn.all5 w1 w.heap.size (.int .i64 0) (.bool false) (.string ⟨#[]⟩) (.int .i64 0) (.string ⟨#[]⟩)
                have BA := Bk.all5 HB1.out (.int .i64 0) (.bool false) (.string ⟨#[]⟩) (.int .i64 0) (.string ⟨#[]⟩)
                have hbT := Tn.below hbA T (Nat.le_refl _) (Nat.le_refl _)
                generalize ((((w1.setCell ⟨w.heap.size, 0, none⟩ (.int .i64 0)).setCell ⟨w.heap.size, 1, none⟩ (.bool false)).setCell ⟨w.heap.size, 2, none⟩ (.string ⟨#[]⟩)).setCell ⟨w.heap.size, 3, none⟩ (.int .i64 0)).setCell ⟨w.heap.size, 4, none⟩ (.string ⟨#[]⟩) = w2 at *
                have hbC : Below w2.heap.size w2 (w2.alloc (.cells (nmA nn) 26)) := (Below.refl _ w2).alloc (Nat.le_refl _) _
                refine bodyPost_ret (results_c2 rfl _ _ w.heap.size 26 (nmA nmZ) _ rfl (BA.later hbC) Tryz.underlying26 rfl (by kernel_rfl)) rfl ?_
                exact ⟨by rw [HQ.out]; rfl, hbT.trans (hbC.mono hbT.size)⟩
              · by_cases c80 : x = 80
                · have HQ : Hid (trl x = 92) := by show trl x = 92; rw [c80]; decide
                  rw [beq_iff_eq.mpr c80] at h80
                  rw [beq_eq_false_iff_ne.mpr c43] at h43
                  rw [beq_eq_false_iff_ne.mpr c45] at h45
                  rw [beq_eq_false_iff_ne.mpr c101] at h101
                  rw [beq_eq_false_iff_ne.mpr c69] at h69
                  rw [beq_eq_false_iff_ne.mpr c112] at h112
                  clear c43 c45 c101 c69 c112 c80

                  go_enter Tryz.func13, Tryz.ntmps13
                  go_wp2_with fail
                  refine (hS _).mono ?_
                  rintro e w1 ⟨rfl, hb1⟩

                  change Below (w.alloc (.cells zero5 26)).heap.size (w.alloc (.cells zero5 26)) w1 at hb1
                  have B1 := HB.out.later hb1
                  have hl1 := hb1.size
                  have hbA := hb0.trans (hb1.mono hb0.size)
                  have z0 := B1.cell 0 rfl
                  have zf0 := B1.frozen 0
                  have z1 := B1.cell 1 rfl
                  have zf1 := B1.frozen 1
                  have z2 := B1.cell 2 rfl
                  have zf2 := B1.frozen 2
                  have z3 := B1.cell 3 rfl
                  have zf3 := B1.frozen 3
                  have z4 := B1.cell 4 rfl
                  have zf4 := B1.frozen 4
                  have hne : ¬ w.heap.size = w1.heap.size := by omega
                  have hne2 : ¬ w1.heap.size = w.heap.size := by omega
                  have hltw : w.heap.size < w1.heap.size := by omega
                  have HB1 : Hid (Bk w1 w.heap.size 26 zero5) := B1
                  clear B1

                  clear HB hS
                  have hbB : Below w1.heap.size w1 (w1.alloc (.cells (nmA nn) 26)) := (Below.refl _ w1).alloc (Nat.le_refl _) _
                  unfold nmA at hbB ⊢
                  go_wp2

                  have T := Tn.all5 w1 w.heap.size (.int .i64 0) (.bool false) (.string ⟨#[]⟩) (.int .i64 0) (.string ⟨#[]⟩)
                  have BA := Bk.all5 HB1.out (.int .i64 0) (.bool false) (.string ⟨#[]⟩) (.int .i64 0) (.string ⟨#[]⟩)
                  have hbT := Tn.below hbA T (Nat.le_refl _) (Nat.le_refl _)
                  generalize ((((w1.setCell ⟨w.heap.size, 0, none⟩ (.int .i64 0)).setCell ⟨w.heap.size, 1, none⟩ (.bool false)).setCell ⟨w.heap.size, 2, none⟩ (.string ⟨#[]⟩)).setCell ⟨w.heap.size, 3, none⟩ (.int .i64 0)).setCell ⟨w.heap.size, 4, none⟩ (.string ⟨#[]⟩) = w2 at *
                  have hbC : Below w2.heap.size w2 (w2.alloc (.cells (nmA nn) 26)) := (Below.refl _ w2).alloc (Nat.le_refl _) _
                  refine bodyPost_ret (results_c2 rfl _ _ w.heap.size 26 (nmA nmZ) _ rfl (BA.later hbC) Tryz.underlying26 rfl (by kernel_rfl)) rfl ?_
                  exact ⟨by rw [HQ.out]; rfl, hbT.trans (hbC.mono hbT.size)⟩
                · have HQ : Hid (trl x = 90) := by
                    show trl x = 90
                    unfold trl
                    rw [if_neg (by simp [c43, c45]), if_neg (by simp [c101, c69, c112, c80])]
                  rw [beq_eq_false_iff_ne.mpr c43] at h43
                  rw [beq_eq_false_iff_ne.mpr c45] at h45
                  rw [beq_eq_false_iff_ne.mpr c101] at h101
                  rw [beq_eq_false_iff_ne.mpr c69] at h69
                  rw [beq_eq_false_iff_ne.mpr c112] at h112
                  rw [beq_eq_false_iff_ne.mpr c80] at h80
                  clear c43 c45 c101 c69 c112 c80

                  go_enter Tryz.func13, Tryz.ntmps13
                  go_wp2_with fail
                  refine (hS _).mono ?_
                  rintro e w1 ⟨rfl, hb1⟩

                  change Below (w.alloc (.cells zero5 26)).heap.size (w.alloc (.cells zero5 26)) w1 at hb1
                  have B1 := HB.out.later hb1
                  have hl1 := hb1.size
                  have hbA := hb0.trans (hb1.mono hb0.size)
                  have z0 := B1.cell 0 rfl
                  have zf0 := B1.frozen 0
                  have z1 := B1.cell 1 rfl
                  have zf1 := B1.frozen 1
                  have z2 := B1.cell 2 rfl
                  have zf2 := B1.frozen 2
                  have z3 := B1.cell 3 rfl
                  have zf3 := B1.frozen 3
                  have z4 := B1.cell 4 rfl
                  have zf4 := B1.frozen 4
                  have hne : ¬ w.heap.size = w1.heap.size := by omega
                  have hne2 : ¬ w1.heap.size = w.heap.size := by omega
                  have hltw : w.heap.size < w1.heap.size := by omega
                  have HB1 : Hid (Bk w1 w.heap.size 26 zero5) := B1
                  clear B1

                  clear HB hS
                  have hbB : Below w1.heap.size w1 (w1.alloc (.cells (nmA nn) 26)) := (Below.refl _ w1).alloc (Nat.le_refl _) _
                  unfold nmA at hbB ⊢
                  go_wp2

                  have T := Tn.all5 w1 w.heap.size (.int .i64 0) (.bool false) (.string ⟨#[]⟩) (.int .i64 0) (.string ⟨#[]⟩)
                  have BA := Bk.all5 HB1.out (.int .i64 0) (.bool false) (.string ⟨#[]⟩) (.int .i64 0) (.string ⟨#[]⟩)
                  have hbT := Tn.below hbA T (Nat.le_refl _) (Nat.le_refl _)
                  generalize ((((w1.setCell ⟨w.heap.size, 0, none⟩ (.int .i64 0)).setCell ⟨w.heap.size, 1, none⟩ (.bool false)).setCell ⟨w.heap.size, 2, none⟩ (.string ⟨#[]⟩)).setCell ⟨w.heap.size, 3, none⟩ (.int .i64 0)).setCell ⟨w.heap.size, 4, none⟩ (.string ⟨#[]⟩) = w2 at *
                  have hbC : Below w2.heap.size w2 (w2.alloc (.cells (nmA nn) 26)) := (Below.refl _ w2).alloc (Nat.le_refl _) _
                  refine bodyPost_ret (results_c2 rfl _ _ w.heap.size 26 (nmA nmZ) _ rfl (BA.later hbC) Tryz.underlying26 rfl (by kernel_rfl)) rfl ?_
                  exact ⟨by rw [HQ.out]; rfl, hbT.trans (hbC.mono hbT.size)⟩
  · have e1 : scN s 0 = nmZ := by unfold scN; rw [if_neg hok]
    have e2 : scT s 0 = 0 := by unfold scT; rw [if_neg hok]
    have e3 : scC s 0 = 90 := by unfold scC; rw [if_neg hok]
    have e4 : scP s 0 = 0 := by unfold scP; rw [if_neg hok]
    have p1 : paN s = nmZ := by unfold paN; rw [if_neg (fun q => hok q.1)]
    have p2 : paC s = 90 := by unfold paC; rw [if_neg hok]
    have p3 : paP s = 0 := by unfold paP; rw [if_neg hok]
    rw [e1, e2, e3, e4] at hS
    rw [p1, p2, p3]
    clear e1 e2 e3 e4 p1 p2 p3 hok hle
    go_enter Tryz.func13, Tryz.ntmps13
    go_wp2_with fail
    refine (hS _).mono ?_
    rintro e w1 ⟨rfl, hb1⟩
    change Below (w.alloc (.cells zero5 26)).heap.size (w.alloc (.cells zero5 26)) w1 at hb1
    have B1 := HB.out.later hb1
    have hl1 := hb1.size
    have hbA := hb0.trans (hb1.mono hb0.size)
    have z0 := B1.cell 0 rfl
    have zf0 := B1.frozen 0
    have z1 := B1.cell 1 rfl
    have zf1 := B1.frozen 1
    have z2 := B1.cell 2 rfl
    have zf2 := B1.frozen 2
    have z3 := B1.cell 3 rfl
    have zf3 := B1.frozen 3
    have z4 := B1.cell 4 rfl
    have zf4 := B1.frozen 4
    have hne : ¬ w.heap.size = w1.heap.size := by omega
    have hne2 : ¬ w1.heap.size = w.heap.size := by omega
    have hltw : w.heap.size < w1.heap.size := by omega
    have HB1 : Hid (Bk w1 w.heap.size 26 zero5) := B1
    clear B1
    clear HB hS
    have hbB : Below w1.heap.size w1 (w1.alloc (.cells (nmA nmZ) 26)) := (Below.refl _ w1).alloc (Nat.le_refl _) _
    unfold nmA nmZ at hbB ⊢
    simp only at hbB ⊢
    go_wp2
    have T := Tn.all5 w1 w.heap.size (.int .i64 0) (.bool false) (.string ⟨#[]⟩) (.int .i64 0) (.string ⟨#[]⟩)
    have BA := Bk.all5 HB1.out (.int .i64 0) (.bool false) (.string ⟨#[]⟩) (.int .i64 0) (.string ⟨#[]⟩)
    have hbT := Tn.below hbA T (Nat.le_refl _) (Nat.le_refl _)
    generalize ((((w1.setCell ⟨w.heap.size, 0, none⟩ (.int .i64 0)).setCell ⟨w.heap.size, 1, none⟩ (.bool false)).setCell ⟨w.heap.size, 2, none⟩ (.string ⟨#[]⟩)).setCell ⟨w.heap.size, 3, none⟩ (.int .i64 0)).setCell ⟨w.heap.size, 4, none⟩ (.string ⟨#[]⟩) = w2 at *
    have hbC : Below w2.heap.size w2 (w2.alloc (.cells (nmA nmZ) 26)) := (Below.refl _ w2).alloc (Nat.le_refl _) _
    refine bodyPost_ret (results_c2 rfl _ _ w.heap.size 26 (nmA nmZ) _ rfl (BA.later hbC) Tryz.underlying26 rfl (by kernel_rfl)) rfl ?_
    exact ⟨by rfl, hbT.trans (hbC.mono hbT.size)⟩
theorem Lx.ErrIs.later {w w' : World} {er : Value} {c p : Int} (h : ErrIs w er c p) (hb : Below w.heap.size w w') : ErrIs w' er c p := by
  rcases h with h | ⟨h, g, e, hF⟩
  · exact Or.inl h
  · exact Or.inr ⟨h, g, e, hF.later hb⟩
set_option maxHeartbeats 6400000 in
set_option maxRecDepth 100000 in
theorem scans_walk {s0 : ByteArray} {fr : Int} (hs0 : s0.size ≤ maxLen) (i0 : -9223372036854775808 ≤ fr) (i1 : fr ≤ 9223372036854775807) {w : World} (hE : ErrVar w) :
    Calls Tryz.prog 4 #[.string s0, .int .i64 fr] w fun r w' => r = .returned (.bool true) ∧ Below w.heap.size w w' := by
  have hc := cut9_any s0 w
  go_enter Tryz.func4, Tryz.ntmps4
  go_wp2_with fail
  refine hc.mono ?_
  rintro e w1 ⟨s, rfl, hs, hce, rfl⟩
  clear hc hce
  have hsI : (s.size : Int) ≤ 300 := by omega
  have h1 := fun fr w => scan9_all s (by unfold maxLen; omega) fr w
  have h2 := fun fr w => rscan9_all s (by omega) fr w
  go_wp2
  go_loopw [5] (fun i wr => ∃ k : Int, i = .int .i64 k ∧ -1 ≤ k ∧ k ≤ (s.size : Int) + 2 ∧ Below w.heap.size w wr) (fun i _ => ((s.size : Int) + 2 - RowKit.intOf i).toNat)
  case atStart => exact ⟨-1, rfl, by omega, by omega, Below.refl _ _⟩
  case round =>
    obtain ⟨k, rfl, hk0, hk1, hB⟩ := hrel
    by_cases hlt : k ≤ (s.size : Int) + 1
    · have d0 : decide (k ≤ (s.size : Int) + 1) = true := by simp; omega
      by_cases hn : k < 0
      · have d1 : decide (k < 0) = true := by simp; omega
        have h1 := fun w => h1 fr w
        have h2 := fun w => h2 fr w
        generalize scN s fr = N at *
        generalize scT s fr = T at *
        generalize scC s fr = C at *
        generalize scP s fr = P at *
        unfold nmA at h1 h2
        go_wp2_with fail
        refine (h1 _).mono ?_
        rintro e w2 ⟨er, rfl, he, hb⟩
        have hB := hB.trans (hb.mono hB.size)
        clear h1 hb
        have bn := Bk.new w2 26 #[.int .i64 N.kind, .bool N.neg, .string (str N.num), .int .i64 N.exp, .string (str N.den)]
        have hbn : Below w2.heap.size w2 (w2.alloc (.cells #[.int .i64 N.kind, .bool N.neg, .string (str N.num), .int .i64 N.exp, .string (str N.den)] 26)) := (Below.refl _ w2).alloc (Nat.le_refl _) _
        have HBN : Hid (Bk (w2.alloc (.cells #[.int .i64 N.kind, .bool N.neg, .string (str N.num), .int .i64 N.exp, .string (str N.den)] 26)) w2.heap.size 26 #[.int .i64 N.kind, .bool N.neg, .string (str N.num), .int .i64 N.exp, .string (str N.den)]) := bn
        clear bn
        go_wp2_with fail
        refine (h2 _).mono ?_
        rintro e w3 ⟨rfl, hb⟩
        have B1 := HBN.out.later hb
        have hl3 := hb.size
        rw [World.size_alloc] at hl3
        have hbb := hbn.trans (hb.mono hbn.size)
        have hB := hB.trans (hbb.mono hB.size)
        have z0 := B1.cell 0 rfl
        have z1 := B1.cell 1 rfl
        have z2 := B1.cell 2 rfl
        have z3 := B1.cell 3 rfl
        have z4 := B1.cell 4 rfl
        have hne : ¬ w2.heap.size = w3.heap.size := by omega
        have hne2 : ¬ w3.heap.size = w2.heap.size := by omega
        have hltw : w2.heap.size < w3.heap.size := by omega
        have hbm : Below w3.heap.size w3 (w3.alloc (.cells #[.int .i64 N.kind, .bool N.neg, .string (str N.num), .int .i64 N.exp, .string (str N.den)] 26)) := (Below.refl _ w3).alloc (Nat.le_refl _) _
        have hB := hB.trans (hbm.mono hB.size)
        have ht := told9_any (he.later (hbb.trans (hbm.mono hbb.size))) (hE.later hB)
        clear h2 HBN hb hbn B1 hbm hbb he
        go_wp2_with fail
        refine ht.mono ?_
        rintro e w4 ⟨rfl, hb⟩
        have hB := hB.trans (hb.mono hB.size)
        clear ht hb
        go_wp2
        go_roundw
        case rel => exact ⟨k + 1, by go_num, by omega, by omega, hB⟩
        case measure => simp [RowKit.intOf]; omega
      · have d1 : decide (k < 0) = false := by simp; omega
        have h1 := fun w => h1 k w
        have h2 := fun w => h2 k w
        generalize scN s k = N at *
        generalize scT s k = T at *
        generalize scC s k = C at *
        generalize scP s k = P at *
        unfold nmA at h1 h2
        go_wp2_with fail
        refine (h1 _).mono ?_
        rintro e w2 ⟨er, rfl, he, hb⟩
        have hB := hB.trans (hb.mono hB.size)
        clear h1 hb
        have bn := Bk.new w2 26 #[.int .i64 N.kind, .bool N.neg, .string (str N.num), .int .i64 N.exp, .string (str N.den)]
        have hbn : Below w2.heap.size w2 (w2.alloc (.cells #[.int .i64 N.kind, .bool N.neg, .string (str N.num), .int .i64 N.exp, .string (str N.den)] 26)) := (Below.refl _ w2).alloc (Nat.le_refl _) _
        have HBN : Hid (Bk (w2.alloc (.cells #[.int .i64 N.kind, .bool N.neg, .string (str N.num), .int .i64 N.exp, .string (str N.den)] 26)) w2.heap.size 26 #[.int .i64 N.kind, .bool N.neg, .string (str N.num), .int .i64 N.exp, .string (str N.den)]) := bn
        clear bn
        go_wp2_with fail
        refine (h2 _).mono ?_
        rintro e w3 ⟨rfl, hb⟩
        have B1 := HBN.out.later hb
        have hl3 := hb.size
        rw [World.size_alloc] at hl3
        have hbb := hbn.trans (hb.mono hbn.size)
        have hB := hB.trans (hbb.mono hB.size)
        have z0 := B1.cell 0 rfl
        have z1 := B1.cell 1 rfl
        have z2 := B1.cell 2 rfl
        have z3 := B1.cell 3 rfl
        have z4 := B1.cell 4 rfl
        have hne : ¬ w2.heap.size = w3.heap.size := by omega
        have hne2 : ¬ w3.heap.size = w2.heap.size := by omega
        have hltw : w2.heap.size < w3.heap.size := by omega
        have hbm : Below w3.heap.size w3 (w3.alloc (.cells #[.int .i64 N.kind, .bool N.neg, .string (str N.num), .int .i64 N.exp, .string (str N.den)] 26)) := (Below.refl _ w3).alloc (Nat.le_refl _) _
        have hB := hB.trans (hbm.mono hB.size)
        have ht := told9_any (he.later (hbb.trans (hbm.mono hbb.size))) (hE.later hB)
        clear h2 HBN hb hbn B1 hbm hbb he
        go_wp2_with fail
        refine ht.mono ?_
        rintro e w4 ⟨rfl, hb⟩
        have hB := hB.trans (hb.mono hB.size)
        clear ht hb
        go_wp2
        go_roundw
        case rel => exact ⟨k + 1, by go_num, by omega, by omega, hB⟩
        case measure => simp [RowKit.intOf]; omega
    · have d0 : decide (k ≤ (s.size : Int) + 1) = false := by simp; omega
      have h1 := fun w => parse9_all s (by unfold maxLen; omega) w
      have h2 := fun w => rparse9_all s (by omega) w
      generalize paN s = N at *
      generalize paC s = C at *
      generalize paP s = P at *
      unfold nmA at h1 h2
      go_wp2_with fail
      refine (h1 _).mono ?_
      rintro e w2 ⟨er, rfl, he, hb⟩
      have hB := hB.trans (hb.mono hB.size)
      clear h1 hb
      have bn := Bk.new w2 26 #[.int .i64 N.kind, .bool N.neg, .string (str N.num), .int .i64 N.exp, .string (str N.den)]
      have hbn : Below w2.heap.size w2 (w2.alloc (.cells #[.int .i64 N.kind, .bool N.neg, .string (str N.num), .int .i64 N.exp, .string (str N.den)] 26)) := (Below.refl _ w2).alloc (Nat.le_refl _) _
      have HBN : Hid (Bk (w2.alloc (.cells #[.int .i64 N.kind, .bool N.neg, .string (str N.num), .int .i64 N.exp, .string (str N.den)] 26)) w2.heap.size 26 #[.int .i64 N.kind, .bool N.neg, .string (str N.num), .int .i64 N.exp, .string (str N.den)]) := bn
      clear bn
      go_wp2_with fail
      refine (h2 _).mono ?_
      rintro e w3 ⟨rfl, hb⟩
      have B1 := HBN.out.later hb
      have hl3 := hb.size
      rw [World.size_alloc] at hl3
      have hbb := hbn.trans (hb.mono hbn.size)
      have hB := hB.trans (hbb.mono hB.size)
      have z0 := B1.cell 0 rfl
      have z1 := B1.cell 1 rfl
      have z2 := B1.cell 2 rfl
      have z3 := B1.cell 3 rfl
      have z4 := B1.cell 4 rfl
      have hne : ¬ w2.heap.size = w3.heap.size := by omega
      have hne2 : ¬ w3.heap.size = w2.heap.size := by omega
      have hltw : w2.heap.size < w3.heap.size := by omega
      have hbm : Below w3.heap.size w3 (w3.alloc (.cells #[.int .i64 N.kind, .bool N.neg, .string (str N.num), .int .i64 N.exp, .string (str N.den)] 26)) := (Below.refl _ w3).alloc (Nat.le_refl _) _
      have hB := hB.trans (hbm.mono hB.size)
      have ht := told9_any (he.later (hbb.trans (hbm.mono hbb.size))) (hE.later hB)
      clear h2 HBN hb hbn B1 hbm hbb he
      go_wp2_with fail
      refine ht.mono ?_
      rintro e w4 ⟨rfl, hb⟩
      have hB := hB.trans (hb.mono hB.size)
      clear ht hb
      go_wp2
      go_ret
      exact ⟨rfl, hB⟩
end Go.Proofs.YthibemoincgemabGreatDoor

/- Layer 9: lex.Parse. -/
import Derived.Test.YtnnpakllehldhaaGreatDoorLexScan
namespace Go.Proofs.YtnnpakllehldhaaGreatDoor
open Go.ChangeShapes Go.WideShapes Go.ChangeAt Go.RowKit
open Lx
set_option linter.unusedVariables false
namespace Lx
/-- the error of a byte behind a numeral -/
def trl (c : UInt8) : Int := if ([43, 45] : B).contains c then 91 else if ([101, 69, 112, 80] : B).contains c then 92 else 90
/-- what Parse answers -/
def ParseQ (w : World) (s : ByteArray) (p : Pc) (e : Ending) (w' : World) : Prop :=
  ((∃ g at_ c, e = .returned (.tuple #[.agg (nmA nmZ), .iface 54 (.pointer (some ⟨g, 0, none⟩))]) ∧ Flt w' g at_ c ∧ w.heap.size ≤ g ∧ g < w'.heap.size ∧
      ((p.kind = 0 ∧ at_ = 0 ∧ c = 90) ∨ (p.kind ≠ 0 ∧ ∃ h : p.stop < s.size, at_ = p.stop ∧ c = trl (s[p.stop]'h)))) ∨
   (p.kind ≠ 0 ∧ p.stop = s.size ∧ e = .returned (.tuple #[.agg (nmA (Lx.numOf p)), .nilIface]))) ∧ Below w.heap.size w w'
def ScanQ (w : World) (s : ByteArray) (fr : Int) (p : Pc) (e : Ending) (w' : World) : Prop :=
  ((∃ g, e = .returned (.tuple #[.agg (nmA nmZ), .int .i64 0, .iface 54 (.pointer (some ⟨g, 0, none⟩))]) ∧ Flt w' g fr 90 ∧ w.heap.size ≤ g ∧ g < w'.heap.size ∧ (fr < 0 ∨ (s.size : Int) < fr ∨ p.kind = 0)) ∨
   (0 ≤ fr ∧ fr ≤ (s.size : Int) ∧ p.kind ≠ 0 ∧ e = .returned (.tuple #[.agg (nmA (Lx.numOf p)), .int .i64 (fr + p.stop), .nilIface]))) ∧ Below w.heap.size w w'
theorem scan_stop_le (s : ByteArray) (k : Nat) (hk : k ≤ s.size) : k + (scanP s.data.toList k).stop ≤ s.size := by
  have := (ok_longest ((s.data.toList.drop k).take 65536)).st
  unfold scanP
  rw [List.length_take, List.length_drop, ← Lib.size_eq] at this
  omega
theorem beq_u8 (x : UInt8) (k : UInt8) : ((x.toNat : Int) == (k.toNat : Int)) = (x == k) := by
  by_cases h : x = k
  · subst h; simp
  · have h2 : (x == k) = false := by simpa using h
    rw [h2]
    exact beq_eq_false_iff_ne.2 fun e => h (UInt8.toNat_inj.1 (by exact_mod_cast e))
end Lx
set_option maxHeartbeats 800000 in
set_option maxRecDepth 100000 in
theorem trailing_any (x : UInt8) (w : World) :
    Calls Tryz.prog 50 #[.int .u8 x.toNat] w fun e w' => e = .returned (.int .i64 (trl x)) ∧ w' = w := by
  have h1 := beq_u8 x 43
  have h2 := beq_u8 x 45
  have h3 := beq_u8 x 101
  have h4 := beq_u8 x 69
  have h5 := beq_u8 x 112
  have h6 := beq_u8 x 80
  have ht : trl x = if (x == 43 || x == 45) then 91 else if (x == 101 || (x == 69 || (x == 112 || x == 80))) then 92 else 90 := by
    unfold trl
    simp only [List.contains_cons, List.contains_nil, Bool.or_false]
  rw [ht]
  clear ht
  change ((x.toNat : Int) == 43) = _ at h1
  change ((x.toNat : Int) == 45) = _ at h2
  change ((x.toNat : Int) == 101) = _ at h3
  change ((x.toNat : Int) == 69) = _ at h4
  change ((x.toNat : Int) == 112) = _ at h5
  change ((x.toNat : Int) == 80) = _ at h6
  generalize (x == 43) = b1 at *
  generalize (x == 45) = b2 at *
  generalize (x == 101) = b3 at *
  generalize (x == 69) = b4 at *
  generalize (x == 112) = b5 at *
  generalize (x == 80) = b6 at *
  cases b1
  · cases b2
    · cases b3
      · cases b4
        · cases b5
          · cases b6
            all_goals (go_enter Tryz.func50, Tryz.ntmps50; go_wp2; go_ret; exact ⟨rfl, rfl⟩)
          · go_enter Tryz.func50, Tryz.ntmps50
            go_wp2
            go_ret
            exact ⟨rfl, rfl⟩
        · go_enter Tryz.func50, Tryz.ntmps50
          go_wp2
          go_ret
          exact ⟨rfl, rfl⟩
      · go_enter Tryz.func50, Tryz.ntmps50
        go_wp2
        go_ret
        exact ⟨rfl, rfl⟩
    · go_enter Tryz.func50, Tryz.ntmps50
      go_wp2
      go_ret
      exact ⟨rfl, rfl⟩
  · go_enter Tryz.func50, Tryz.ntmps50
    go_wp2
    go_ret
    exact ⟨rfl, rfl⟩
set_option maxHeartbeats 3200000 in
set_option maxRecDepth 100000 in
theorem parse9_aux (s : ByteArray) (p : Pc) (hS : ∀ w, Calls Tryz.prog 48 #[.string s, .int .i64 0] w (ScanQ w s 0 p)) (hle : p.stop ≤ s.size) (w : World) : Calls Tryz.prog 31 #[.string s] w (ParseQ w s p) := by
  have b0 := Bk.new w 30 zero5
  have hb0 : Below w.heap.size w (w.alloc (.cells zero5 30)) := (Below.refl _ w).alloc (Nat.le_refl _) _
  have HB : Hid (Bk (w.alloc (.cells zero5 30)) w.heap.size 30 zero5) := b0
  clear b0
  have hlt0 : w.heap.size < (w.alloc (.cells zero5 30)).heap.size := by simp
  go_enter Tryz.func31, Tryz.ntmps31
  go_wp2_with fail
  refine (hS _).mono ?_
  rintro e w1 ⟨hr, hb1⟩
  change Below (w.alloc (.cells zero5 30)).heap.size (w.alloc (.cells zero5 30)) w1 at hb1
  have B1 := HB.out.later hb1
  have hl1 := hb1.size
  have hbA := hb0.trans (hb1.mono hb0.size)
  have z0 := B1.cell 0 rfl
  have zf0 := B1.frozen 0
  have z1 := B1.cell 1 rfl
  have zf1 := B1.frozen 1
  have z2 := B1.cell 2 rfl
  have zf2 := B1.frozen 2
  have z3 := B1.cell 3 rfl
  have zf3 := B1.frozen 3
  have z4 := B1.cell 4 rfl
  have zf4 := B1.frozen 4
  have hne : ¬ w.heap.size = w1.heap.size := by omega
  have hne2 : ¬ w1.heap.size = w.heap.size := by omega
  have hltw : w.heap.size < w1.heap.size := by omega
  have HB1 : Hid (Bk w1 w.heap.size 30 zero5) := B1
  clear B1 HB hS
  rcases hr with ⟨g, rfl, hF, hg1, hg2, hk⟩ | ⟨_, _, hk, rfl⟩
  · have hk0 : p.kind = 0 := by omega
    have HK : Hid (p.kind = 0) := hk0
    have hg0 : w.heap.size < g := by
      have : (w.alloc (.cells zero5 30)).heap.size ≤ g := hg1
      rw [World.size_alloc] at this; omega
    clear hk0 hk
    unfold nmA nmZ
    simp only
    go_wp2
    have T := Tn.all5 w1 w.heap.size (.int .i64 0) (.bool false) (.string ⟨#[]⟩) (.int .i64 0) (.string ⟨#[]⟩)
    have BA := Bk.all5 HB1.out (.int .i64 0) (.bool false) (.string ⟨#[]⟩) (.int .i64 0) (.string ⟨#[]⟩)
    have hbT := Tn.below hbA T (Nat.le_refl _) (Nat.le_refl _)
    have hF1 := (T.cell (a := ⟨g, 0, none⟩) hg2 (show g ≠ w.heap.size by omega)).trans hF.1
    have hF2 := (T.cell (a := ⟨g, 1, none⟩) hg2 (show g ≠ w.heap.size by omega)).trans hF.2
    have hg3 := Nat.lt_of_lt_of_le hg2 T.size
    generalize ((((w1.setCell ⟨w.heap.size, 0, none⟩ (.int .i64 0)).setCell ⟨w.heap.size, 1, none⟩ (.bool false)).setCell ⟨w.heap.size, 2, none⟩ (.string ⟨#[]⟩)).setCell ⟨w.heap.size, 3, none⟩ (.int .i64 0)).setCell ⟨w.heap.size, 4, none⟩ (.string ⟨#[]⟩) = w2 at *
    have hbB : Below w2.heap.size w2 (w2.alloc (.cells (nmA nmZ) 30)) := (Below.refl _ w2).alloc (Nat.le_refl _) _
    refine bodyPost_ret (results_c1 rfl _ _ w.heap.size 30 (nmA nmZ) _ rfl (BA.later hbB) Tryz.underlying30 rfl (by kernel_rfl)) rfl ?_
    have hF' := Flt.later ⟨hF1, hF2⟩ hg3 hbB
    exact ⟨Or.inl ⟨g, 0, 90, rfl, hF', by omega, Nat.lt_of_lt_of_le hg3 hbB.size, Or.inl ⟨HK.out, rfl, rfl⟩⟩, hbT.trans (hbB.mono hbT.size)⟩
  · have HK : Hid (p.kind ≠ 0) := hk
    clear hk
    generalize hN : Lx.numOf p = nn at *
    have HN : Hid (Lx.numOf p = nn) := hN
    clear hN
    have hbB : Below w1.heap.size w1 (w1.alloc (.cells (nmA nn) 30)) := (Below.refl _ w1).alloc (Nat.le_refl _) _
    have HBB : Hid (Bk (w1.alloc (.cells (nmA nn) 30)) w.heap.size 30 zero5) := HB1.out.later hbB
    rw [Int.zero_add]
    by_cases hst : p.stop < s.size
    · have hi : (p.stop : Int) < (s.size : Int) := by omega
      have ht := trailing_any (s[p.stop]'hst)
      have hc := fun w => wrap9_any (p.stop : Int) (trl (s[p.stop]'hst)) w
      unfold nmA at hbB HBB ⊢
      go_wp2_with fail
      refine (ht _).mono ?_
      rintro e w2 ⟨rfl, hw2⟩
      rw [hw2]
      go_wp2_with fail
      refine (hc _).mono ?_
      rintro e w3 ⟨g, rfl, hF, hg1, hg2, hb3⟩
      have B3 := HBB.out.later hb3
      have y0 := B3.cell 0 rfl
      have yf0 := B3.frozen 0
      have y1 := B3.cell 1 rfl
      have yf1 := B3.frozen 1
      have y2 := B3.cell 2 rfl
      have yf2 := B3.frozen 2
      have y3 := B3.cell 3 rfl
      have yf3 := B3.frozen 3
      have y4 := B3.cell 4 rfl
      have yf4 := B3.frozen 4
      have HB3 : Hid (Bk w3 w.heap.size 30 zero5) := B3
      clear B3
      go_wp2
      have T := Tn.all5 w3 w.heap.size (.int .i64 0) (.bool false) (.string ⟨#[]⟩) (.int .i64 0) (.string ⟨#[]⟩)
      refine bodyPost_ret (results_c1 rfl _ _ w.heap.size 30 (nmA nmZ) _ rfl (Bk.all5 HB3.out _ _ _ _ _) Tryz.underlying30 rfl (by kernel_rfl)) rfl ?_
      have hq : w.heap.size < g := by have := hbB.size; omega
      have hbC := hbA.trans (hbB.mono hbA.size)
      refine ⟨Or.inl ⟨g, p.stop, trl (s[p.stop]'hst), rfl, ⟨(T.cell hg2 (show g ≠ w.heap.size by omega)).trans hF.1, (T.cell hg2 (show g ≠ w.heap.size by omega)).trans hF.2⟩, by omega, Nat.lt_of_lt_of_le hg2 T.size, Or.inr ⟨HK.out, hst, rfl, rfl⟩⟩, ?_⟩
      exact Tn.below (hbC.trans (hb3.mono hbC.size)) T (Nat.le_refl _) (Nat.le_refl _)
    · have hi : ¬ (p.stop : Int) < (s.size : Int) := by omega
      have hse : p.stop = s.size := by omega
      have HE : Hid (p.stop = s.size) := hse
      clear hse
      unfold nmA at hbB HBB ⊢
      go_wp2
      have T := Tn.all5 w1 w.heap.size (.int .i64 nn.kind) (.bool nn.neg) (.string (str nn.num)) (.int .i64 nn.exp) (.string (str nn.den))
      have BA := Bk.all5 HB1.out (.int .i64 nn.kind) (.bool nn.neg) (.string (str nn.num)) (.int .i64 nn.exp) (.string (str nn.den))
      have hbT := Tn.below hbA T (Nat.le_refl _) (Nat.le_refl _)
      generalize ((((w1.setCell ⟨w.heap.size, 0, none⟩ (.int .i64 nn.kind)).setCell ⟨w.heap.size, 1, none⟩ (.bool nn.neg)).setCell ⟨w.heap.size, 2, none⟩ (.string (str nn.num))).setCell ⟨w.heap.size, 3, none⟩ (.int .i64 nn.exp)).setCell ⟨w.heap.size, 4, none⟩ (.string (str nn.den)) = w2 at *
      have hbC : Below w2.heap.size w2 (w2.alloc (.cells (nmA nn) 30)) := (Below.refl _ w2).alloc (Nat.le_refl _) _
      refine bodyPost_ret (results_c1 rfl _ _ w.heap.size 30 (nmA nn) _ rfl (BA.later hbC) Tryz.underlying30 rfl (by kernel_rfl)) rfl ?_
      exact ⟨Or.inr ⟨HK.out, HE.out, by rw [HN.out]; rfl⟩, hbT.trans (hbC.mono hbT.size)⟩
theorem parse9_any (s : ByteArray) (hs : s.size ≤ maxLen) (w : World) : Calls Tryz.prog 31 #[.string s] w (ParseQ w s (scanP s.data.toList 0)) := by
  have hle := scan_stop_le s 0 (Nat.zero_le _)
  rw [Nat.zero_add] at hle
  exact parse9_aux s (scanP s.data.toList 0) (fun w => scan_in s hs 0 (Nat.zero_le _) w) hle w
end Go.Proofs.YtnnpakllehldhaaGreatDoor

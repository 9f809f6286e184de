/- package atof: slowRoad, first, shortened, strings.TrimRight. -/
import Derived.Test.YtjeoiffloghonaaGreatDoorAtfD
import Derived.Test.YtjeoiffloghonaaGreatDoorLemTrim
import Derived.Deep.DeepCutAuto
namespace Go.Proofs.YtjeoiffloghonaaGreatDoor
open Go.ChangeShapes Go.WideShapes Go.ChangeAt Go.RowKit
open Na Ar Lx
set_option linter.unusedVariables false
/-- a slice of one road, the slow one, over a numeral that lies at g -/
def Slow1 (w : World) (a : Addr) (g : Nat) : Prop := w.cell? a = some (.func (.func 82) #[] #[.pointer (some ⟨g, 0, none⟩)])
set_option maxHeartbeats 1600000 in
set_option maxRecDepth 100000 in
theorem slowRoad_any (k : Int) (ng : Bool) (num : ByteArray) (e : Int) (den : ByteArray) (w : World) :
    Calls Tryz.prog 34 #[.agg (numC k ng num e den)] w fun r w' => ∃ g h, r = .returned (.slice (some ⟨h, 0, none⟩) 1 1) ∧ Slow1 w' ⟨h, 0, none⟩ g ∧ Bk w' g 23 (numC k ng num e den) ∧ Below w.heap.size w w' := by
  have hb0 : Below w.heap.size w (w.alloc (.cells (numC k ng num e den) 23)) := (Below.refl _ w).alloc (Nat.le_refl _) _
  have B0 := Bk.new w 23 (numC k ng num e den)
  obtain ⟨w0, hw0⟩ : ∃ w0, w0 = w.alloc (.cells (numC k ng num e den) 23) := ⟨_, rfl⟩
  rw [← hw0] at hb0 B0
  obtain ⟨g, hg⟩ : ∃ g, g = w.heap.size := ⟨_, rfl⟩
  rw [← hg] at B0
  go_enter Tryz.func34, Tryz.ntmps34
  go_wp2
  rw [← hw0, ← hg]
  have hs : w0.heap.size = g + 1 := by rw [hw0, hg]; simp
  go_ret
  refine ⟨g, g + 1, rfl, ?_, B0.later ((Below.refl _ _).alloc (Nat.le_refl _) _), ?_⟩
  · unfold Slow1
    rw [← hs]
    exact (Bk.new w0 _ _).cell 0 rfl
  · rw [← hg] at hb0
    exact hb0.alloc (by omega) _
set_option maxHeartbeats 1600000 in
set_option maxRecDepth 100000 in
/-- one road, which is sure -/
theorem first1_any {h g : Nat} {w : World} (hc : Slow1 w ⟨h, 0, none⟩ g) {Q : Int → Int → Prop} (hs : Calls Tryz.prog 82 #[.pointer (some ⟨g, 0, none⟩)] w fun r w' => ∃ b E, r = .returned (.tuple #[.int .u64 b, .int .i64 E]) ∧ Q b E ∧ U b ∧ Below w.heap.size w w') :
    Calls Tryz.prog 73 #[.slice (some ⟨h, 0, none⟩) 1 1] w fun r w' => ∃ b E, r = .returned (.tuple #[.int .u64 b, .int .i64 E]) ∧ Q b E ∧ U b ∧ Below w.heap.size w w' := by
  unfold Slow1 at hc
  go_enter Tryz.func73, Tryz.ntmps73
  go_wp2_with fail
  refine wp_loop_rounds 2 ?_
  rw [rounds_succ]
  go_wp2_with (go_at_call 82; refine hs.mono ?_; rintro r w1 ⟨b, E, rfl, hq, ub, hb⟩; have HQ : Hid (Q b E) := hq; clear hq)
  · go_ret2
    exact ⟨_, _, rfl, HQ.out, ub, hb⟩
  · rw [rounds_succ]
    go_wp2
    go_ret2
    exact ⟨_, _, rfl, HQ.out, ub, hb⟩
/-- three roads, the last of which is sure -/
structure Roads3 (w : World) (h g gm ge gr : Nat) : Prop where
  one : w.cell? ⟨h, 0, none⟩ = some (.func (.func 78) #[] #[.pointer (some ⟨gm, 0, none⟩), .pointer (some ⟨ge, 0, none⟩), .pointer (some ⟨gr, 0, none⟩)])
  two : w.cell? ⟨h, 1, none⟩ = some (.func (.func 80) #[] #[.pointer (some ⟨gm, 0, none⟩), .pointer (some ⟨ge, 0, none⟩), .pointer (some ⟨gr, 0, none⟩)])
  three : w.cell? ⟨h, 2, none⟩ = some (.func (.func 82) #[] #[.pointer (some ⟨g, 0, none⟩)])
theorem Roads3.later {w w' : World} {h g gm ge gr : Nat} (r : Roads3 w h g gm ge gr) (hb : Below w.heap.size w w') : Roads3 w' h g gm ge gr := by
  have hl : h < w.heap.size := cell_lt7 r.one
  refine ⟨?_, ?_, ?_⟩
  · rw [hb.cell (p := ⟨h, 0, none⟩) hl]; exact r.one
  · rw [hb.cell (p := ⟨h, 1, none⟩) hl]; exact r.two
  · rw [hb.cell (p := ⟨h, 2, none⟩) hl]; exact r.three
set_option maxHeartbeats 3200000 in
set_option maxRecDepth 100000 in
theorem first3_any {h g gm ge gr c : Nat} {w : World} (hr : Roads3 w h g gm ge gr) {Q1 Q2 Q : Int → Int → Prop}
    (h1 : ∀ w1, Below w.heap.size w w1 → Calls Tryz.prog 78 #[.pointer (some ⟨gm, 0, none⟩), .pointer (some ⟨ge, 0, none⟩), .pointer (some ⟨gr, 0, none⟩)] w1 fun r w' => ∃ b E, r = .returned (.tuple #[.int .u64 b, .int .i64 E]) ∧ Q1 b E ∧ U b ∧ Below w1.heap.size w1 w')
    (h2 : ∀ w1, Below w.heap.size w w1 → Calls Tryz.prog 80 #[.pointer (some ⟨gm, 0, none⟩), .pointer (some ⟨ge, 0, none⟩), .pointer (some ⟨gr, 0, none⟩)] w1 fun r w' => ∃ b E, r = .returned (.tuple #[.int .u64 b, .int .i64 E]) ∧ Q2 b E ∧ U b ∧ Below w1.heap.size w1 w')
    (h3 : ∀ w1, Below w.heap.size w w1 → Calls Tryz.prog 82 #[.pointer (some ⟨g, 0, none⟩)] w1 fun r w' => ∃ b E, r = .returned (.tuple #[.int .u64 b, .int .i64 E]) ∧ Q b E ∧ U b ∧ Below w1.heap.size w1 w')
    (k1 : ∀ b E, Q1 b E → E ≠ 100 → Q b E) (k2 : ∀ b E, Q2 b E → E ≠ 100 → Q b E) :
    Calls Tryz.prog 73 #[.slice (some ⟨h, 0, none⟩) 3 c] w fun r w' => ∃ b E, r = .returned (.tuple #[.int .u64 b, .int .i64 E]) ∧ Q b E ∧ U b ∧ Below w.heap.size w w' := by
  have hcl : ∀ w1, Below w.heap.size w w1 → Roads3 w1 h g gm ge gr := fun w1 q => hr.later q
  obtain ⟨x0, x1, x2⟩ := hr
  have p1 := h1 w (Below.refl _ _)
  have K1 : Hid _ := k1
  have K2 : Hid _ := k2
  clear k1 k2
  go_enter Tryz.func73, Tryz.ntmps73
  go_wp2_with fail
  refine wp_loop_rounds 4 ?_
  rw [rounds_succ]
  go_wp2_with fail
  refine p1.mono ?_
  rintro r w1 ⟨b, E, rfl, hq, ub, hb⟩
  clear p1 h1
  by_cases hE : E = 100
  · subst hE
    clear hq
    obtain ⟨y0, y1, y2⟩ := hcl w1 hb
    have p2 := h2 w1 hb
    clear h2 x0 x1 x2
    go_wp2_with fail
    rw [rounds_succ]
    go_wp2_with fail
    refine p2.mono ?_
    rintro r w2 ⟨b2, E2, rfl, hq, ub2, hb2⟩
    clear p2
    have B := hb.trans (hb2.mono hb.size)
    by_cases hE : E2 = 100
    · subst hE
      clear hq
      obtain ⟨z0, z1, z2⟩ := hcl w2 B
      have p3 := h3 w2 B
      clear h3 y0 y1 y2 hb hb2
      go_wp2_with fail
      rw [rounds_succ]
      go_wp2_with fail
      refine p3.mono ?_
      rintro r w3 ⟨b3, E3, rfl, hq, ub3, hb3⟩
      have HQ : Hid (Q b3 E3) := hq
      have B := B.trans (hb3.mono B.size)
      clear hq p3 hcl
      go_wp2_with fail
      · go_ret2
        exact ⟨_, _, rfl, HQ.out, ub3, B⟩
      · rw [rounds_succ]
        go_wp2
        go_ret2
        exact ⟨_, _, rfl, HQ.out, ub3, B⟩
    · have HQ : Hid (Q b2 E2) := K2.out _ _ hq hE
      have t : (E2 != 100) = true := bne_yes hE
      clear hq hE h3 hcl
      go_wp2_with fail
      go_ret2
      exact ⟨_, _, rfl, HQ.out, ub2, B⟩
  · have HQ : Hid (Q b E) := K1.out _ _ hq hE
    have t : (E != 100) = true := bne_yes hE
    clear hq hE h2 h3 hcl
    go_wp2_with fail
    go_ret2
    exact ⟨_, _, rfl, HQ.out, ub, hb⟩
/-! ### strings.TrimRight at zeros -/
set_option maxHeartbeats 1600000 in
set_option maxRecDepth 100000 in
theorem trimRight_zero (s : ByteArray) (hs : s.size ≤ 9223372036854775807) (h0 : 0 < s.size) (w : World) :
    Calls Tryz.prog 76 #[.string s, .string ⟨#[48]⟩] w fun e w' => e = .returned (.string (str (trimR [48] s.data.toList))) ∧ w' = w := by
  have hemps : s.toList.isEmpty = false := by
    rw [Lib.toList_data]
    cases h : s.data.toList with
    | nil => have := Lib.size_eq s; rw [h, List.length_nil] at this; omega
    | cons _ _ => rfl
  have hemp : (ByteArray.mk #[48]).toList.isEmpty = false := by rw [Lib.toList_data]; rfl
  have hx : ∀ h, (ByteArray.mk #[48])[0]'h = 48 := fun _ => rfl
  go_enter Tryz.func76, Tryz.ntmps76
  go_wp2_with (go_at_call 130; refine (trimRightByte_any _ hs 48 _).mono ?_; rintro e w' ⟨rfl, rfl⟩)
  go_ret
  exact ⟨rfl, rfl⟩
theorem perDigit_any (k : Int) (w : World) : Calls Tryz.prog 129 #[.int .i64 k] w fun r w' => r = .returned (.int .i64 (perD k)) ∧ w' = w := by
  by_cases hk : k = 2
  · have HP : Hid (perD k = 4) := by show perD k = 4; unfold perD; rw [if_pos hk]
    have t : (k == 2) = true := beq_of hk
    clear hk
    go_enter Tryz.func129, Tryz.ntmps129
    go_wp2
    go_ret
    exact ⟨by rw [HP.out]; rfl, rfl⟩
  · have HP : Hid (perD k = 1) := by show perD k = 1; unfold perD; rw [if_neg hk]
    have t : (k == 2) = false := beq_no hk
    clear hk
    go_enter Tryz.func129, Tryz.ntmps129
    go_wp2
    go_ret
    exact ⟨by rw [HP.out]; rfl, rfl⟩
end Go.Proofs.YtjeoiffloghonaaGreatDoor

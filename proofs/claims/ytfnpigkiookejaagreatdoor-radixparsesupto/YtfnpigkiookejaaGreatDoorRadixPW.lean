/- RadixParses' walk. -/
import Derived.Test.YtfnpigkiookejaaGreatDoorBaseF
namespace Go.Proofs.YtfnpigkiookejaaGreatDoor
open Go.ChangeShapes Go.WideShapes Go.ChangeAt Go.RowKit
open Na Ar
set_option linter.unusedVariables false
set_option maxRecDepth 100000 in
theorem isNil_any (w : World) : Calls Tryz.prog 8 #[.nilIface, .int .i64 0, .int .i64 (-1)] w fun e w' => e = .returned (.bool true) ∧ Below w.heap.size w w' := by
  go_enter Tryz.func8, Tryz.ntmps8
  go_wp2_with fail
  refine (codeNil_any w).mono ?_
  rintro e w1 ⟨rfl, hb1⟩
  go_wp2_with fail
  refine (placeNil_any w1).mono ?_
  rintro e w2 ⟨rfl, hb2⟩
  have hB := hb1.trans (hb2.mono hb1.size)
  go_wp2
  go_ret
  exact ⟨rfl, hB⟩
set_option maxRecDepth 100000 in
theorem isFault_any {g : Nat} {p c : Int} {w : World} (hF : FaultAt w g p c) (hE : ErrVar w) : Calls Tryz.prog 8 #[.iface 51 (.pointer (some ⟨g, 0, none⟩)), .int .i64 c, .int .i64 p] w fun e w' => e = .returned (.bool true) ∧ Below w.heap.size w w' := by
  go_enter Tryz.func8, Tryz.ntmps8
  go_wp2_with fail
  refine (codeFault_any hF hE).mono ?_
  rintro e w1 ⟨rfl, hb1⟩
  go_wp2_with fail
  refine (placeFault_any (hF.later hb1) (hE.later hb1)).mono ?_
  rintro e w2 ⟨rfl, hb2⟩
  have hB := hb1.trans (hb2.mono hb1.size)
  clear hF hE hb1 hb2
  go_wp2
  go_ret
  exact ⟨rfl, hB⟩
set_option maxHeartbeats 3200000 in
set_option maxRecDepth 100000 in
theorem parses_walk (s : ByteArray) (b : Int) (hs : s.size ≤ 1048576) (w : World) (hE : ErrVar w) (hal : ∀ w, Calls Tryz.prog 6 #[] w fun e w' => e = .returned (.bool true) ∧ Below w.heap.size w w') :
    Calls Tryz.prog 3 #[.string s, .int .i64 b] w fun e w' => e = .returned (.bool true) ∧ Below w.heap.size w w' := by
  have p1 := parseF_any s b (by omega) w
  have p2 := fun w => refParse_any s b (by omega) w
  go_enter Tryz.func3, Tryz.ntmps3
  go_wp2_with fail
  refine p1.mono ?_
  rintro e w1 ⟨code, p, hP, hres, hb1⟩
  rcases hres with ⟨hc, v, rfl, ho⟩ | ⟨hc, g, rfl, hf⟩
  · subst hc
    obtain ⟨va, vc, rfl, hv⟩ := ho.readsC
    have HL : Hid ((words (numB s b s.size)).length ≤ 4096) := by
      rcases hP with ⟨_, q, _⟩ | ⟨_, _, q, _⟩ | ⟨_, _, _, _, _, q, _⟩ | ⟨_, _, _, q, _⟩ | ⟨_, _, q, _⟩
      · omega
      · omega
      · omega
      · omega
      · exact q
    have HP : Hid (PCode s b 0 p) := hP
    obtain ⟨vl, hvl⟩ : ∃ vl, vl = (words (numB s b s.size)).length := ⟨_, rfl⟩
    rw [← hvl] at hv ⊢
    clear hvl p1 ho hP
    go_wp2_with fail
    refine (p2 _).mono ?_
    rintro e w2 ⟨ya, yl, yc, code2, q2, rfl, ⟨hP2, hy⟩, hb2⟩
    obtain ⟨rfl, rfl⟩ := pcode_uniq HP.out hP2
    have hp : p = -1 := by
      rcases HP.out with ⟨_, q, _⟩ | ⟨_, _, q, _⟩ | ⟨_, _, _, _, _, q, _⟩ | ⟨_, _, _, q, _⟩ | ⟨_, _, _, _, q⟩
      · omega
      · omega
      · omega
      · omega
      · exact q
    subst hp
    have hv2 := hv.later hb2
    have hB2 := hb1.trans (hb2.mono hb1.size)
    have HY : Hid (RowC w2 ya yl yc (words (numB s b s.size))) := by
      show RowC _ _ _ _ _
      unfold pList at hy
      rw [if_pos rfl] at hy
      exact hy
    clear hP2 hy hv p2 HP
    go_wp2_with fail
    refine (hal _).mono ?_
    rintro e w3 ⟨rfl, hb3⟩
    have hv3 := hv2.later hb3
    have hy3 := HY.out.later hb3
    have hB3 := hB2.trans (hb3.mono hB2.size)
    clear hv2 HY
    go_wp2_with fail
    refine (sameN hv3 hy3 (Nat.le_trans HL.out (by omega)) (Nat.le_trans HL.out (by omega)) rfl).mono ?_
    rintro e w4 ⟨rfl, hb4⟩
    have hB4 := hB3.trans (hb4.mono hB3.size)
    clear hv3 hy3
    go_wp2_with fail
    refine (isNil_any _).mono ?_
    rintro e w5 ⟨rfl, hb5⟩
    have hB5 := hB4.trans (hb5.mono hB4.size)
    go_wp2
    go_ret
    exact ⟨rfl, hB5⟩
  · have HP : Hid (PCode s b code p) := hP
    clear p1 hP
    go_wp2_with fail
    refine (p2 _).mono ?_
    rintro e w2 ⟨ya, yl, yc, code2, q2, rfl, ⟨hP2, hy⟩, hb2⟩
    obtain ⟨rfl, rfl⟩ := pcode_uniq HP.out hP2
    have hf2 := hf.later hb2
    have hB2 := hb1.trans (hb2.mono hb1.size)
    have hyl : yl = 0 := by
      unfold pList at hy
      rw [if_neg hc] at hy
      exact hy.1.1.symm
    have HY : Hid (RowC w2 ya yl yc []) := by
      show RowC _ _ _ _ _
      unfold pList at hy
      rw [if_neg hc] at hy
      exact hy
    clear hP2 hy hf p2 HP hyl
    go_wp2_with fail
    refine (hal _).mono ?_
    rintro e w3 ⟨rfl, hb3⟩
    have hf3 := hf2.later hb3
    have hy3 := HY.out.later hb3
    have hB3 := hB2.trans (hb3.mono hB2.size)
    have hnil : RowC w3 none 0 0 [] := ⟨⟨rfl, Or.inl rfl⟩, Nat.le_refl _, Nat.zero_le _⟩
    clear hf2 HY
    go_wp2_with fail
    refine (sameN hnil hy3 (by simp) (by simp) rfl).mono ?_
    rintro e w4 ⟨rfl, hb4⟩
    have hf4 := hf3.later hb4
    have hB4 := hB3.trans (hb4.mono hB3.size)
    have hE4 := hE.later hB4
    clear hf3 hy3 hnil
    go_wp2_with fail
    refine (isFault_any hf4 hE4).mono ?_
    rintro e w5 ⟨rfl, hb5⟩
    have hB5 := hB4.trans (hb5.mono hB4.size)
    clear hf4 hE4
    go_wp2
    go_ret
    exact ⟨rfl, hB5⟩
end Go.Proofs.YtfnpigkiookejaaGreatDoor

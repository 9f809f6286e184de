/- rat.read; plumbref05.digits. -/
import Derived.Test.YtopcdpeepchgfacGreatDoorRatP1
import Derived.Test.YtopcdpeepchgfacGreatDoorBaseF
namespace Go.Proofs.YtopcdpeepchgfacGreatDoor
open Go.ChangeShapes Go.WideShapes Go.ChangeAt Go.RowKit
open Na Ar
set_option linter.unusedVariables false
theorem pcode_bd {s : ByteArray} {b c p : Int} (h : PCode s b c p) : -1 ≤ p ∧ p ≤ (s.size : Int) ∧ (c = 0 → p = -1) ∧ (c = 0 ∨ c = 21 ∨ c = 40 ∨ c = 41) := by
  rcases h with ⟨_, a2, a3⟩ | ⟨_, _, a2, a3⟩ | ⟨_, i, i1, _, _, a2, a3⟩ | ⟨_, _, _, a2, a3⟩ | ⟨_, _, _, a2, a3⟩ <;> omega
set_option maxHeartbeats 1600000 in
set_option maxRecDepth 100000 in
theorem read_any (s : ByteArray) (q : Int) (hs : s.size ≤ 10000000) (h0 : 0 ≤ q) (h1 : q ≤ 100000000) (w : World) (hE : ErrVar w) :
    Calls Tryz.prog 36 #[.string s, .int .i64 q] w fun e w' => ∃ code p, PCode s 10 code p ∧ ParseRes w (numB s 10 s.size) code (q + p) e w' := by
  have hP := parseF_any s 10 hs w
  go_enter Tryz.func36, Tryz.ntmps36
  go_wp2_with fail
  refine hP.mono ?_
  rintro e w1 ⟨code, p, hc, hr, hb⟩
  clear hP
  have bd := pcode_bd hc
  rcases hr with ⟨rfl, v, rfl, ho⟩ | ⟨hne, g, rfl, hF⟩
  · go_wp2_with fail
    go_ret2
    exact ⟨0, p, hc, Or.inl ⟨rfl, _, rfl, ho⟩, hb⟩
  · have hE1 := hE.later hb
    have k1 := placeFault_any hF hE1
    have hP : ∀ w2, Below w1.heap.size w1 w2 → Calls Tryz.prog 12 #[.iface 74 (.pointer (some ⟨g, 0, none⟩))] w2 fun e w' => e = .returned (.int .i64 code) ∧ Below w2.heap.size w2 w' := fun w2 h => codeFault_any (hF.later h) (hE1.later h)
    go_wp2_with fail
    refine k1.mono ?_
    rintro e w2 ⟨rfl, hb2⟩
    go_wp2_with fail
    refine (hP _ hb2).mono ?_
    rintro e w3 ⟨rfl, hb3⟩
    go_wp2_with fail
    refine (wrapF_any _ _ _).mono ?_
    rintro e w4 ⟨g', rfl, hF', hb4⟩
    go_wp2_with fail
    go_ret2
    have hB2 := hb.trans (hb2.mono hb.size)
    have hB3 := hB2.trans (hb3.mono hB2.size)
    exact ⟨code, p, hc, Or.inr ⟨hne, g', rfl, hF'⟩, hB3.trans (hb4.mono hB3.size)⟩
namespace Na
theorem dig_iff (r : Int) : valN r < 10 ↔ 48 ≤ r ∧ r ≤ 57 := by
  unfold valN
  split
  · omega
  · split
    · omega
    · split <;> omega
end Na
/-- behind the digits from a on -/
def DigEnd (s : ByteArray) (a e : Nat) : Prop := a ≤ e ∧ e ≤ s.size ∧ (∀ j, a ≤ j → j < e → dgt s j < 10) ∧ (e < s.size → 10 ≤ dgt s e)
theorem digEnd_any (s : ByteArray) (a : Nat) (hs : s.size ≤ 10000000) (ha : a ≤ s.size) (w : World) :
    Calls Tryz.prog 89 #[.string s, .int .i64 (a : Int)] w fun e w' => ∃ k : Nat, e = .returned (.int .i64 (k : Int)) ∧ DigEnd s a k ∧ w = w' := by
  go_enter Tryz.func89, Tryz.ntmps89
  go_wp2
  go_loop [1] (fun v => ∃ k : Nat, v = .int .i64 (k : Int) ∧ a ≤ k ∧ k ≤ s.size ∧ Hid (∀ j, a ≤ j → j < k → dgt s j < 10)) (fun v => s.size - (intOf v).toNat)
  case atStart => exact ⟨a, rfl, Nat.le_refl _, ha, fun j h1 h2 => by omega⟩
  case round =>
    obtain ⟨k, rfl, k1, k2, k3⟩ := hrel
    by_cases hk : k < s.size
    · have hb := get_byte hk
      have hdv : dgt s k = valN (((s[k]'hk).toNat : Nat) : Int) := by unfold dgt; rw [hb]
      have hi := dig_iff (((s[k]'hk).toNat : Nat) : Int)
      rw [← hdv] at hi
      have h1 : (k : Int) < (s.size : Int) := by omega
      by_cases c1 : 48 ≤ (((s[k]'hk).toNat : Nat) : Int)
      · by_cases c2 : (((s[k]'hk).toNat : Nat) : Int) ≤ 57
        · have HN : Hid (∀ j, a ≤ j → j < k + 1 → dgt s j < 10) := fun j h1 h2 => by
            by_cases q : j < k
            · exact k3.out j h1 q
            · have : j = k := by omega
              rw [this]; exact hi.mpr ⟨c1, c2⟩
          clear k3 hi hdv hb
          go_wp2
          go_round
          case rel => exact ⟨k + 1, rfl, by omega, by omega, HN⟩
          case measure => simp [intOf]; omega
        · have HD : Hid (DigEnd s a k) := ⟨k1, k2, k3.out, fun h => by omega⟩
          clear k3 hi hdv hb
          go_wp2
          go_ret
          exact ⟨k, rfl, HD.out, rfl⟩
      · have HD : Hid (DigEnd s a k) := ⟨k1, k2, k3.out, fun h => by omega⟩
        clear k3 hi hdv hb
        go_wp2
        go_ret
        exact ⟨k, rfl, HD.out, rfl⟩
    · have h1 : ¬ (k : Int) < (s.size : Int) := by omega
      have HD : Hid (DigEnd s a k) := ⟨k1, k2, k3.out, fun h => by omega⟩
      clear k3
      go_wp2
      go_ret
      exact ⟨k, rfl, HD.out, rfl⟩
end Go.Proofs.YtopcdpeepchgfacGreatDoor

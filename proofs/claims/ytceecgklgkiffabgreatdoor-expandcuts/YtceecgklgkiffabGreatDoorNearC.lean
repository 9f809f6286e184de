/- package near: Scaled. -/
import Derived.Test.YtceecgklgkiffabGreatDoorNearScl
import Derived.KernelRfl
namespace Go.Proofs.YtceecgklgkiffabGreatDoor
open Go.ChangeShapes Go.WideShapes Go.ChangeAt Go.RowKit
open Na Ar
set_option linter.unusedVariables false
theorem scaled_bad {w : World} {a : Option Addr} {n c : Nat} {x mode : Int} {neg more : Bool} (h : mode < 0 ∨ 4 < mode) :
    Calls Tryz.prog 117 #[.bool neg, .slice a n c, .int .i64 x, .bool more, .int .i64 mode] w fun e w' => e = .returned (.tuple #[.int .u64 0, .int .i64 71]) ∧ Below w.heap.size w w' := by
  have hk := known_no h w
  clear h
  go_enter Tryz.func117, Tryz.ntmps117
  go_wp2_with fail
  refine hk.mono ?_
  rintro e w1 ⟨rfl, rfl⟩
  clear hk
  go_wp2
  go_ret2
  exact ⟨rfl, Below.refl _ _⟩
/-- the way of a mode, in its variable -/
def Wy (w : World) (g : Nat) (S : Bool) (f : Nat) : Prop := w.heap[g]? = some (.cells #[.bool S, .func (.func f) #[] #[]] 174)
theorem Wy.lt {w : World} {g f : Nat} {S : Bool} (h : Wy w g S f) : g < w.heap.size := by
  unfold Wy at h
  apply Decidable.byContradiction
  intro hc
  rw [Array.getElem?_eq_none (by omega)] at h
  cases h
theorem Wy.later {w w' : World} {g f : Nat} {S : Bool} (h : Wy w g S f) (hb : Below w.heap.size w w') : Wy w' g S f := by
  unfold Wy
  rw [hb.block g h.lt]; exact h
theorem Wy.cells {w : World} {g f : Nat} {S : Bool} (h : Wy w g S f) : w.cell? ⟨g, 0, none⟩ = some (.bool S) ∧ w.cell? ⟨g, 1, none⟩ = some (.func (.func f) #[] #[]) := by
  unfold Wy at h
  unfold World.cell?
  simp [h]
theorem wy_new (w : World) (S : Bool) (f : Nat) : Wy (w.alloc (.cells #[.bool S, .func (.func f) #[] #[]] 174)) w.heap.size S f := heap_alloc_new _ _
theorem fn_enters {neg : Bool} {mode : Int} (h0 : 0 ≤ mode) (h1 : mode ≤ 4) (args : Array Value) (w : World) : (callFunc (fnK neg mode) args).run Tryz.prog w = .ok (.enter (fnK neg mode) args) w := by
  rcases fnK_cases (neg := neg) h0 h1 with ⟨ef, _⟩ | ⟨ef, _⟩ | ⟨ef, _⟩ <;> rw [ef] <;> kernel_rfl
set_option maxHeartbeats 3200000 in
set_option maxRecDepth 100000 in
theorem scaled_go {w : World} {a : Option Addr} {n c : Nat} {xs : List Int} (hr : RowC w a n c xs) (hx : Ws xs) (hn : n ≤ 4000000) {x mode : Int} (x0 : -9223372036854775808 ≤ x) (x1 : x ≤ 9223372036854775807) {neg more : Bool} (h0 : 0 ≤ mode) (h1 : mode ≤ 4) (hG : GrVar w) :
    Calls Tryz.prog 117 #[.bool neg, .slice a n c, .int .i64 x, .bool more, .int .i64 mode] w fun e w' => ∃ b E, e = .returned (.tuple #[.int .u64 b, .int .i64 E]) ∧ RoundIs (scA (num xs) x) (scB 1 x) more neg mode b E ∧ U b ∧ Below w.heap.size w w' := by
  have l1 := hr.1.1
  have p1 := num_nonneg hx
  have hble := bits_le (N := num xs) (k := xs.length) p1 (num_bd hx)
  obtain ⟨m, X, k, e1, e2', e3, m0, m1, X0, X1, hf, hlo, hhi⟩ := cut_tells (x := x) (more := more) (neg := neg) p1 (by omega) h0 h1
  unfold CutEnds at hlo
  have hcut := fun w1 (h : Below w.heap.size w w1) => cut_any (hr.later h) hx hn x0 x1 more
  rw [e1, e3, e2'] at hcut
  have hk := known_yes h0 h1 w
  have hway := wayOf_any (neg := neg) h0 h1 hG
  have hmU : U m := by unfold U; omega
  have hJ := fun w => f6Join_any false X hmU w
  have hjc := join_cut m0 m1 X0 hf
  have hB : 0 < scB 1 x := scB_pos (by omega)
  have hhe := fun h => huge_ends (mode := mode) (neg := neg) (more := more) hB (hhi h) h0 h1
  have hst := fun (h : onK neg mode m k = true) => on_stay h
  have hgo : ∀ w, Calls Tryz.prog (fnK neg mode) #[.int .u64 m, .int .i64 k] w fun e w' => e = .returned (.bool (onK neg mode m k)) ∧ w = w' := fun w => by
    rcases fnK_cases (neg := neg) h0 h1 with ⟨ef, em, es⟩ | ⟨ef, es, eo⟩ | ⟨ef, es, eo⟩
    · rw [ef]
      have : onK neg mode m k = onK false 0 m k := by rw [em]; unfold onK; rfl
      rw [this]
      exact nearest_any hmU w
    · rw [ef, eo]; exact inward_any m k w
    · rw [ef, eo]; exact outward_any m k w
  have hcf := fun args w => fn_enters (neg := neg) h0 h1 args w
  generalize stK neg mode = S at *
  generalize fnK neg mode = f at *
  generalize onK neg mode m k = g at *
  generalize scA (num xs) x = A at *
  generalize scB 1 x = B at *
  clear hr hx e1 e2' e3 p1 hble l1 hG hhi
  go_enter Tryz.func117, Tryz.ntmps117
  go_wp2_with fail
  refine hk.mono ?_
  rintro e w1 ⟨rfl, rfl⟩
  clear hk
  go_wp2_with fail
  refine hway.mono ?_
  rintro e w2 ⟨rfl, hb2⟩
  clear hway
  have t2 := wy_new w2 S f
  have hal := alloc_below (w := w2) (.cells #[.bool S, .func (.func f) #[] #[]] 174)
  go_wp2_with fail
  have hB2 := hb2.trans (hal.mono hb2.size)
  have hc := hcut _ hB2
  refine hc.mono ?_
  rintro e w3 ⟨rfl, hb3⟩
  have t3 := t2.later hb3
  have hB3 := hB2.trans (hb3.mono hB2.size)
  clear hcut hc t2 hal hB2 hb3
  go_wp2_with fail
  refine (hJ w3).mono ?_
  rintro e w4 ⟨b, E, rfl, hg4, hji⟩
  have hb4 : Below w3.heap.size w3 w4 := hg4.2
  have t4 := t3.later hb4
  have hB4 := hB3.trans (hb4.mono hB3.size)
  clear hJ hg4 t3 hb4 hB3
  obtain ⟨k1, k2⟩ := t4.cells
  generalize w2.heap.size = gg at *
  by_cases hX : X ≤ 971
  · obtain ⟨rfl, rfl⟩ := joinIs_uniq hji (hjc.1 hX)
    obtain ⟨d0, d1, ce⟩ := hlo hX
    clear hji hjc hlo hhe hX hf
    generalize (X + 1074) * 4503599627370496 + m = d at *
    obtain ⟨ng, ud⟩ := neg_of d0 d1
    obtain ⟨nx1, nx2⟩ := next_of d0 d1
    have hN := fun w => f6Next_any ud w
    have hNeg := fun w => f6Neg_any ud w
    rw [ng] at hNeg
    have q0 : sgB false = 0 := rfl
    have HU : Hid (U (d + sgB true)) := by show U _; rw [← ng]; exact U_negW ud
    go_wp2_with fail
    refine (hgo w4).mono ?_
    rintro e w5 ⟨rfl, rfl⟩
    clear hgo hcf
    cases g
    · have HR : Hid (RoundIs A B more neg mode (d + sgB neg) 0) := ce.1 rfl
      clear ce hN nx1 nx2 hst ng
      cases neg
      · have HR' : Hid (RoundIs A B more false mode d 0) := by have := HR.out; rw [q0, Int.add_zero] at this; exact this
        clear hNeg HR
        go_wp2
        go_ret2
        exact ⟨_, _, rfl, HR'.out, ud, hB4⟩
      · clear q0
        generalize d + sgB true = d9 at *
        go_wp2_with fail
        refine (hNeg w4).mono ?_
        rintro e w6 ⟨rfl, rfl⟩
        clear hNeg
        go_wp2
        go_ret2
        exact ⟨_, _, rfl, HR.out, HU.out, hB4⟩
    · have hS := hst rfl
      subst hS
      by_cases hd : d < mostP
      · obtain ⟨z1, z2⟩ := nx1 hd
        rw [z1, z2] at hN
        have HR : Hid (RoundIs A B more neg mode (d + 1 + sgB neg) 0) := ce.2.1 rfl hd
        obtain ⟨ng', ud'⟩ := neg_of (d := d + 1) (by omega) (by omega)
        have hNeg' := fun w => f6Neg_any ud' w
        rw [ng'] at hNeg'
        have HU' : Hid (U (d + 1 + sgB true)) := by show U _; rw [← ng']; exact U_negW ud'
        clear ce hNeg nx1 nx2 hst ng z1 z2 ng' HU
        generalize d + 1 = dn at *
        go_wp2_with fail
        refine (hN w4).mono ?_
        rintro e w6 ⟨rfl, rfl⟩
        clear hN
        cases neg
        · have HR' : Hid (RoundIs A B more false mode dn 0) := by have := HR.out; rw [q0, Int.add_zero] at this; exact this
          clear hNeg' HR
          go_wp2
          go_ret2
          exact ⟨_, _, rfl, HR'.out, ud', hB4⟩
        · clear q0
          generalize dn + sgB true = d9 at *
          go_wp2_with fail
          refine (hNeg' w4).mono ?_
          rintro e w6 ⟨rfl, rfl⟩
          clear hNeg'
          go_wp2
          go_ret2
          exact ⟨_, _, rfl, HR.out, HU'.out, hB4⟩
      · have hd' : d = mostP := by omega
        have z2 := nx2 hd'
        have HR : Hid (RoundIs A B more neg mode 0 70) := ce.2.2 rfl hd'
        rw [z2] at hN
        generalize nxW d = dn at hN
        clear ce hNeg nx1 nx2 hst ng z2 HU hd hd' q0
        go_wp2_with fail
        refine (hN w4).mono ?_
        rintro e w6 ⟨rfl, rfl⟩
        clear hN
        go_wp2
        go_ret2
        exact ⟨_, _, rfl, HR.out, by unfold U; omega, hB4⟩
  · obtain ⟨rfl, rfl⟩ := joinIs_uniq hji (hjc.2 (by omega))
    obtain ⟨he1, he2⟩ := hhe (by omega)
    clear hji hjc hlo hhe hf hgo hst hcf
    cases S
    · have HR : Hid (RoundIs A B more neg mode 0 70) := he1 rfl
      clear he1 he2
      go_wp2
      go_ret2
      exact ⟨_, _, rfl, HR.out, by unfold U; omega, hB4⟩
    · have HR : Hid (RoundIs A B more neg mode (mostP + sgB neg) 0) := he2 rfl
      clear he1 he2
      have e0 : mostP = 9218868437227405311 := rfl
      rw [e0] at HR
      obtain ⟨ng, ud⟩ := neg_of (d := 9218868437227405311) (by omega) (by decide)
      have hNeg := fun w => f6Neg_any ud w
      rw [ng] at hNeg
      have HU : Hid (U (9218868437227405311 + sgB true)) := by show U _; rw [← ng]; exact U_negW ud
      clear ng e0
      cases neg
      · have HR' : Hid (RoundIs A B more false mode 9218868437227405311 0) := HR.out
        clear hNeg HR HU
        go_wp2
        go_ret2
        exact ⟨_, _, rfl, HR'.out, ud, hB4⟩
      · generalize 9218868437227405311 + sgB true = d9 at *
        go_wp2_with fail
        refine (hNeg w4).mono ?_
        rintro e w6 ⟨rfl, rfl⟩
        clear hNeg
        go_wp2
        go_ret2
        exact ⟨_, _, rfl, HR.out, HU.out, hB4⟩
end Go.Proofs.YtceecgklgkiffabGreatDoor

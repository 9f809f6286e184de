/- Layer 17: the law's own: cut, told, the same lists. -/
import Derived.Test.YtinagjljebbceaaDoorWkF
import Derived.Deep.RegionHeld3
namespace Go.Proofs.YtinagjljebbceaaDoor
open Go.ChangeShapes Go.WideShapes Go.ChangeAt Go.RowKit
open Ep Oc Tr Wk
set_option linter.unusedVariables false
theorem pt_same (w : World) (x y : Int) : (Op.equalIn 10000 93 (.agg #[.int .u64 x, .int .u64 y]) (.agg #[.int .u64 x, .int .u64 y])).run Tryd.prog w = .ok true w := by
  rw [show (10000 : Nat) = 9999 + 1 from rfl, run_equalIn_struct w 9999 93 _ _ (by kernel_rfl) (by kernel_rfl)]
  simp [Program.fieldsOf, Tryd.underlying93, Op.eqFields, part, go_sem]
set_option maxHeartbeats 3200000 in
set_option maxRecDepth 100000 in
theorem eqLines_same {w : World} {S1 S2 : Nat → Prop} {u1 u2 : Value} {ps : List Pt} (h1 : Pts S1 w u1 ps) (h2 : Pts S2 w u2 ps) :
    Calls Tryd.prog 58 #[u1, u2] w fun e w' => e = .returned (.bool true) ∧ ∃ d, w' = w.drewN d := by
  obtain ⟨hl, a1, c1, rfl, hc1⟩ := h1
  obtain ⟨_, a2, c2, rfl, hc2⟩ := h2
  obtain ⟨L, hL⟩ : ∃ L, L = ps.length := ⟨_, rfl⟩
  have HL : Hid (L = ps.length) := hL
  rw [← hL] at hl ⊢
  have HC1 : Hid (∀ i p, ps[i]? = some p → ∃ b o, a1 = some ⟨b, o, none⟩ ∧ S1 b ∧ U6 p.1 ∧ U6 p.2 ∧ w.cell? ⟨b, o + 2 * i, none⟩ = some (.int .u64 p.1) ∧ w.cell? ⟨b, o + 2 * i + 1, none⟩ = some (.int .u64 p.2)) := hc1
  have HC2 : Hid (∀ i p, ps[i]? = some p → ∃ b o, a2 = some ⟨b, o, none⟩ ∧ S2 b ∧ U6 p.1 ∧ U6 p.2 ∧ w.cell? ⟨b, o + 2 * i, none⟩ = some (.int .u64 p.1) ∧ w.cell? ⟨b, o + 2 * i + 1, none⟩ = some (.int .u64 p.2)) := hc2
  clear hL hc1 hc2
  go_enter Tryd.func58, Tryd.ntmps58
  go_wp2
  go_loopw [5] (fun i wr => ∃ (j d : Nat), i = .int .i64 (j : Int) ∧ j ≤ L ∧ wr = w.drewN d) (fun i _ => L - (intOf i).toNat)
  case atStart => exact ⟨0, 0, rfl, Nat.zero_le _, rfl⟩
  case round =>
    obtain ⟨j, d, rfl, hj, rfl⟩ := hrel
    by_cases hlt : j < L
    · obtain ⟨p, hp⟩ : ∃ p, ps[j]? = some p := ⟨_, List.getElem?_eq_getElem (by rw [← HL.out]; exact hlt)⟩
      obtain ⟨b1, o1, rfl, _, _, _, k1, k2⟩ := HC1.out j p hp
      obtain ⟨b2, o2, rfl, _, _, _, k3, k4⟩ := HC2.out j p hp
      obtain ⟨x, y⟩ := p
      simp only at k1 k2 k3 k4
      rw [Nat.mul_comm 2 j] at k1 k2 k3 k4
      have hq : ∀ w, (binOp .neq 93 (.agg #[.int .u64 x, .int .u64 y]) (.agg #[.int .u64 x, .int .u64 y])).run Tryd.prog w = .ok (.bool false) w := fun w => by
        rw [run_neq_struct, pt_same]
        rfl
      clear hp HC1 HC2
      go_wp2
      go_quiet (fail)
      go_wp2
      go_roundw
      case rel => exact ⟨j + 1, d + nq, by go_num, by omega, by simp [World.drewN]⟩
      case measure => simp [intOf]; omega
    · go_wp2
      go_ret
      exact ⟨rfl, d, rfl⟩
set_option maxHeartbeats 3200000 in
set_option maxRecDepth 100000 in
theorem sames_same {w : World} {b1 b2 : Nat} {u1 u2 : Value} {os : List Bool} (h1 : Bo w b1 u1 os) (h2 : Bo w b2 u2 os) :
    Calls Tryd.prog 19 #[u1, u2] w fun e w' => e = .returned (.bool true) ∧ ∃ d, w' = w.drewN d := by
  have hcell : ∀ {b : Nat} {u : Value}, Bo w b u os → ∃ a c, u = .slice a os.length c ∧ os.length ≤ c ∧ c ≤ 9223372036854775807 ∧ ∀ i x, os[i]? = some x → ∃ g, a = some ⟨g, 0, none⟩ ∧ w.cell? ⟨g, i, none⟩ = some (.bool x) := by
    intro b u h
    rcases h with ⟨rfl, rfl⟩ | ⟨g, cap, cur, rfl, hb, hg, h3, h4, h5, h6, h7⟩
    · exact ⟨none, 0, rfl, Nat.le_refl _, by omega, fun i x hx => by cases hx⟩
    · refine ⟨_, cap, rfl, h3, by unfold maxLen at h4; omega, fun i x hx => ⟨g, rfl, ?_⟩⟩
      rw [cell_of_row w g i cur _ (0, 0) hg]
      have : (os.map Value.bool)[i]? = some (.bool x) := by rw [List.getElem?_map, hx]; rfl
      rw [← h6, List.getElem?_take] at this
      split at this
      · simpa using this
      · cases this
  obtain ⟨a1, c1, rfl, l1, m1, hc1⟩ := hcell h1
  obtain ⟨a2, c2, rfl, l2, m2, hc2⟩ := hcell h2
  obtain ⟨L, hL⟩ : ∃ L, L = os.length := ⟨_, rfl⟩
  have HL : Hid (L = os.length) := hL
  rw [← hL] at l1 l2 ⊢
  have HC1 : Hid (∀ i x, os[i]? = some x → ∃ g, a1 = some ⟨g, 0, none⟩ ∧ w.cell? ⟨g, i, none⟩ = some (.bool x)) := hc1
  have HC2 : Hid (∀ i x, os[i]? = some x → ∃ g, a2 = some ⟨g, 0, none⟩ ∧ w.cell? ⟨g, i, none⟩ = some (.bool x)) := hc2
  clear hL hc1 hc2 hcell h1 h2
  go_enter Tryd.func19, Tryd.ntmps19
  go_wp2
  go_loopw [5] (fun i wr => ∃ (j d : Nat), i = .int .i64 (j : Int) ∧ j ≤ L ∧ wr = w.drewN d) (fun i _ => L - (intOf i).toNat)
  case atStart => exact ⟨0, 0, rfl, Nat.zero_le _, rfl⟩
  case round =>
    obtain ⟨j, d, rfl, hj, rfl⟩ := hrel
    by_cases hlt : j < L
    · obtain ⟨x, hp⟩ : ∃ x, os[j]? = some x := ⟨_, List.getElem?_eq_getElem (by rw [← HL.out]; exact hlt)⟩
      obtain ⟨g1, rfl, k1⟩ := HC1.out j x hp
      obtain ⟨g2, rfl, k2⟩ := HC2.out j x hp
      have hx : (x != x) = false := by simp
      clear hp HC1 HC2
      go_wp2
      go_quiet (fail)
      go_wp2
      go_roundw
      case rel => exact ⟨j + 1, d + nq, by go_num, by omega, by simp [World.drewN]⟩
      case measure => simp [intOf]; omega
    · go_wp2
      go_ret
      exact ⟨rfl, d, rfl⟩
set_option maxHeartbeats 1600000 in
theorem told_nil (p : Int) (w : World) :
    Calls Tryd.prog 12 #[.nilIface, .int .i64 0, .int .i64 p] w fun e w' => e = .returned (.bool true) ∧ w' = w := by
  go_enter Tryd.func12, Tryd.ntmps12
  go_wp2
  go_ret
  exact ⟨rfl, rfl⟩
set_option maxHeartbeats 1600000 in
set_option maxRecDepth 100000 in
theorem told_yes {w : World} {g : Nat} {p c : Int} (hF : FaultAt w g p c) (hE : ErrVar w) (hc : c ≠ 0) :
    Calls Tryd.prog 12 #[.iface 111 (.pointer (some ⟨g, 0, none⟩)), .int .i64 c, .int .i64 p] w fun e w' => e = .returned (.bool true) ∧ Below w.heap.size w w' := by
  have t0 : (c == 0) = false := by simpa using hc
  have t1 : (c == c) = true := by simp
  have t2 : (p == p) = true := by simp
  have hC := codeFault_any hF hE
  have hP := fun (w' : World) (hb : Below w.heap.size w w') => placeFault_any (hF.later hb) (hE.later hb)
  clear hF hE hc
  go_enter Tryd.func12, Tryd.ntmps12
  go_wp2_with fail
  refine hC.mono ?_
  rintro e w1 ⟨rfl, hb1⟩
  have hP1 := hP w1 hb1
  clear hC hP
  go_wp2_with fail
  refine hP1.mono ?_
  rintro e w2 ⟨rfl, hb2⟩
  have hb := hb1.trans (hb2.mono hb1.size)
  clear hP1 hb2 hb1
  go_wp2
  go_ret
  exact ⟨rfl, hb⟩
set_option maxHeartbeats 3200000 in
set_option maxRecDepth 100000 in
theorem cut17_any {w : World} {a : Option Addr} {n c : Nat} {l : List UInt8} (h : Rb w a n c l) :
    Calls Tryd.prog 13 #[.slice a n c] w fun e w' => ∃ v, e = .returned v ∧ Ob w' w.heap.size v (l.take 1500) ∧ Below w.heap.size w w' := by
  have HL : Hid (l.length = n) := h.len
  have hcc := h.2
  go_enter Tryd.func13, Tryd.ntmps13
  go_wp2
  go_loopw [3, 4] (fun v i wr => ∃ j : Nat, j ≤ n ∧ j ≤ 1500 ∧ i = .int .i64 (j : Int) ∧ Ob wr w.heap.size v (l.take j) ∧ Below w.heap.size w wr) (fun _ i _ => 1500 - (intOf i).toNat)
  case atStart => exact ⟨0, Nat.zero_le _, Nat.zero_le _, rfl, Ob.nil _ _, Below.refl _ _⟩
  case round =>
    obtain ⟨j, hj, hj2, rfl, hO, hb⟩ := hrel
    by_cases hlt : j < n
    · by_cases hlt2 : j < 1500
      · have hr := h.later hb
        obtain ⟨b, off, rfl, hbB, hcl⟩ := hr.cells (by omega)
        have k1 := hcl j hlt
        have HT : Hid (l.take (j + 1) = l.take j ++ [l.getD j 0]) := takeU (by rw [HL.out]; exact hlt)
        have hOA : Ob (wr.alloc (.cells #[.int .u8 ((l.getD j 0).toNat : Int)] 5)) w.heap.size u3 (l.take j) := hO.alloc _
        have hR1 := rb_one wr (x := l.getD j 0) rfl
        have hbs := hb.size
        have hlen : (l.take j).length ≤ 2000 := by rw [List.length_take]; omega
        have HB : Hid (Below w.heap.size w wr) := hb
        have HBA : Hid (Below w.heap.size w (wr.alloc (.cells #[.int .u8 ((l.getD j 0).toNat : Int)] 5))) := hb.alloc hb.size _
        generalize l.take j = P at *
        generalize l.getD j 0 = y at *
        clear hcl hr hb hO
        go_wp2_with (at_builtin; refine wpList_app8 rfl _ _ rfl rfl hOA rfl hR1 (by omega) (by simp; omega) ?_)
        intro v1 w1 hO1 hg1 hkp
        have hb1 := hOA.below HBA.out (Nat.le_refl _) hg1
        clear hkp hg1 hOA hR1
        go_wp2
        go_roundw
        case rel => exact ⟨j + 1, by omega, by omega, by go_num, by rw [HT.out]; exact hO1, hb1⟩
        case measure => simp [intOf]; omega
      · have hj15 : j = 1500 := by omega
        subst hj15
        go_wp2
        go_ret
        exact ⟨_, rfl, hO, hb⟩
    · have HE : Hid (l.take j = l.take 1500) := by
        show _ = _
        rw [List.take_of_length_le (by rw [HL.out]; omega), List.take_of_length_le (by rw [HL.out]; omega)]
      go_wp2
      go_ret
      exact ⟨_, rfl, by rw [← HE.out]; exact hO, hb⟩
end Go.Proofs.YtinagjljebbceaaDoor

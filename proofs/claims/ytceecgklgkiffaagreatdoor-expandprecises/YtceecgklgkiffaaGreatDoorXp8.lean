import Derived.Deep.RegionLaw
import Derived.Below
import Derived.BigQuiet
import Derived.BigRegion
import Derived.ChangeOld
import Derived.Deep.DeepCutAuto
import Derived.Deep.QuietTactic
import Derived.Deep.RegionWith
import Derived.Laws.BitsAllLaws
import Derived.Laws.CopyRow
import Derived.Laws.IdiomCopy
import Derived.Laws.IdiomRangeMap
import Derived.OpenShut
import Derived.OwnWalk
import Derived.ProofKit
import Derived.ShutString
import Derived.WalkKit
import Derived.WalkLawsBesides
import Derived.WalkSpells
import Derived.Test.YtceecgklgkiffaaGreatDoorXp5
/- plumbref03.Mul: the walk. -/
namespace Go.Proofs.YtceecgklgkiffaaGreatDoor
open Go.ChangeShapes Go.WideShapes Go.ChangeAt Go.RowKit
open Na Ar
set_option linter.unusedVariables false
theorem step_append_own {P : Program} {ops : Array Oper} {o : Oper} {a : Act} {w : World} {K : Act → World → Prop} {Q : Exit → Act → World → Prop} {E : Prop}
    (hg : o.guard = none) (s x : Operand) (t : TypeId) (hop : o.op = Op.call { callee := Callee.builtin Builtin.append, args := #[s, x], argTypes := #[t, t] })
    (base : Nat) (e : TypeId) (i : TypeInfo) (z : Value) (size bytes : Nat) (h1 : P.underlying t = some (.slice e)) (h2 : P.info? e = some i) (h3 : i.zero = some z) (h4 : i.size = size) (h5 : i.bytes = bytes) (h6 : z.cells.size = size) (h7 : 0 < size)
    (v : Value) (n : Nat) (xs : List Value) (hs : a.eval s = v) (hown : w.ownsRow base e size v n xs)
    (ad : Addr) (m c : Nat) (news : List Value) (hx : a.eval x = .slice (some ad) m c) (hn : news.length = m * size) (hc : ∀ j u, news[j]? = some u → w.cell? (ad.add j) = some u) (h1c : ∀ u ∈ news, u.oneCell' = true)
    (b1 : n + m ≤ maxLen) (b2 : (n + m) * bytes ≤ 140737488355328) (hbase : base ≤ w.heap.size)
    (hK : ∀ v' w', w'.ownsRow base e size v' (n + m) (xs ++ news) → w.grownBy w' v.ownBlock → K (a.put o.dst v') w') :
    if Region.wanted o (yielded ops a.tmps) = true then Oper.wp P o a w K Q else E := by
  have hw : Region.wanted o (yielded ops a.tmps) = true := by simp [Region.wanted, hg]
  rw [if_pos hw]
  exact wp_append_own w s x t hop base e i z size bytes h1 h2 h3 h4 h5 h6 h7 v n xs hs hown ad m c news hx hn hc h1c b1 b2 hbase fun v' w' h2 h3 _ => hK v' w' h2 h3
namespace Na
theorem Dg.getAll {B : Int} (hB : 0 < B) {xs : List Int} (h : Dg B xs) (k : Nat) : 0 ≤ xs.getD k 0 ∧ xs.getD k 0 < B := by
  by_cases hk : k < xs.length
  · exact h.get hk
  · have e : xs.getD k 0 = 0 := by rw [List.getD_eq_getElem?_getD, List.getElem?_eq_none (by omega)]; rfl
    rw [e]; omega
/-- halves laid together to words -/
def joinW (ds : List Int) : Nat → List Int
  | 0 => []
  | k + 1 => joinW ds k ++ [ds.getD (2 * k) 0 + 4294967296 * ds.getD (2 * k + 1) 0]
theorem joinW_length (ds : List Int) (k : Nat) : (joinW ds k).length = k := by
  induction k with
  | zero => rfl
  | succ k ih => simp [joinW, ih]
theorem joinW_ws {ds : List Int} (h : Dg 4294967296 ds) (k : Nat) : Ws (joinW ds k) := by
  induction k with
  | zero => exact Dg.nil _
  | succ k ih =>
    have a := h.getAll (by omega) (2 * k)
    have b := h.getAll (by omega) (2 * k + 1)
    refine ih.append ?_
    intro y hy
    rw [List.mem_singleton] at hy
    subst hy
    omega
theorem joinW_num {ds : List Int} (k : Nat) (hk : 2 * k ≤ ds.length) : num (joinW ds k) = val 4294967296 (ds.take (2 * k)) := by
  induction k with
  | zero => simp [joinW, num, val]
  | succ k ih =>
    have e : num (joinW ds (k + 1)) = num (joinW ds k) + 18446744073709551616 ^ (joinW ds k).length * (ds.getD (2 * k) 0 + 4294967296 * ds.getD (2 * k + 1) 0) := by
      show val _ (joinW ds k ++ [_]) = _
      rw [val_append]; simp [val]; rfl
    rw [e, joinW_length, ih (by omega), show 2 * (k + 1) = 2 * k + 1 + 1 by omega, take_valB (by omega), take_valB (by omega)]
    have p : (18446744073709551616 : Int) ^ k = 4294967296 ^ (2 * k) := by rw [Int.pow_mul]; rfl
    rw [p, Int.pow_succ]
    grind
theorem joinW_done {ds : List Int} {k : Nat} (hl : ds.length = 2 * k + 1) (h0 : ds.getD (2 * k) 0 = 0) : num (joinW ds k) = val 4294967296 ds := by
  rw [joinW_num k (by omega)]
  have e : ds.take (2 * k + 1) = ds := List.take_of_length_le (by omega)
  have t := take_valB (B := 4294967296) (xs := ds) (k := 2 * k) (by omega)
  rw [e, h0] at t
  simpa using t.symm
theorem or_joinR {x y : Int} (hy : H y) (hx : H x) : bits .or .u64 y (IntKind.u64.wrap (x * 4294967296)) = y + 4294967296 * x := by
  unfold H at *
  rw [wrapU, u64_or _ _ (by omega) (by omega) (by omega) (by omega), Nat.or_comm]
  have e : x * 4294967296 % 18446744073709551616 = x * 4294967296 := by omega
  rw [e]
  have : ((x * 4294967296).toNat ||| y.toNat) = (x * 4294967296).toNat + y.toNat := nat_join 32 _ _ (by omega) (by omega)
  rw [this]; omega
theorem half_at {x : Int} (h : U x) (i : Nat) : bits .and .u64 (x / 2 ^ (32 * (i % 2))) 4294967295 = (if i % 2 = 0 then x % 4294967296 else x / 4294967296) := by
  unfold U at h
  rcases Nat.mod_two_eq_zero_or_one i with e | e
  · rw [e, if_pos rfl, and_half (by unfold U; simp; omega)]; simp
  · rw [e, if_neg (by omega), and_half (by unfold U; simp; omega)]
    simp; omega
end Na

set_option maxHeartbeats 3200000 in
set_option maxRecDepth 100000 in
theorem ref3Mul_any {a b : Option Addr} {n m c1 c2 : Nat} {xs ys : List Int} {w : World} (hr1 : RowAt .u64 w a n xs) (hr2 : RowAt .u64 w b m ys) (hx : Ws xs) (hy : Ws ys) (hn : n ≤ 2000000) (hm : m ≤ 2000000) :
    Calls Tryz.prog 86 #[.slice a n c1, .slice b m c2] w fun e w' => ∃ v, e = .returned v ∧ Own .u64 w' w.heap.size 22 v (words (num xs * num ys)) ∧ Below w.heap.size w w' := by
  obtain ⟨i_u64, hi_u64, hz0_u64, hz1_u64, hz2_u64⟩ := info_parts info_u64
  have HX : Hid (xs.length = n) := hr1.1
  have HY : Hid (ys.length = m) := hr2.1
  have lx : Hid ((halves xs).length = 2 * n) := by show _ = _; rw [halves_length, HX.out]
  have ly : Hid ((halves ys).length = 2 * m) := by show _ = _; rw [halves_length, HY.out]
  have dx := halves_dg hx
  have dy := halves_dg hy
  have gx := fun k => halves_get hx k
  have gy := fun k => halves_get hy k
  have HV : Hid (val 4294967296 (halves xs) * val 4294967296 (halves ys) = num xs * num ys) := by show _ = _; rw [halves_val, halves_val]
  have hst := homI_start (halves xs) (halves ys)
  obtain ⟨ps, hps⟩ : ∃ ps, ps = halves xs := ⟨_, rfl⟩
  obtain ⟨qs, hqs⟩ : ∃ qs, qs = halves ys := ⟨_, rfl⟩
  rw [← hps] at lx dx gx HV hst
  rw [← hqs] at ly dy gy HV hst
  rw [lx.out, ly.out] at hst
  clear hps hqs
  obtain ⟨L, hL⟩ : ∃ L, L = 2 * (n + m) + 1 := ⟨_, rfl⟩
  have HL : Hid (L = 2 * (n + m) + 1) := hL
  have hLb : (L : Int) ≤ 9000000 := by omega
  have hL2 : 2 * n + 2 * m + 1 = L := by omega
  rw [hL2] at hst
  have hc : (2 : Int) * ((n : Int) + (m : Int)) + 1 = (L : Int) := by omega
  clear hL2 hL
  go_enter Tryz.func86, Tryz.ntmps86
  go_wp2_with (at_make; refine wpList_make_full _ rfl _ _ 30 rfl w.heap.size 22 i_u64 (.int .u64 0) 1 Tryz.underlying30 hi_u64 hz0_u64 hz1_u64 .i64 .i64 _ _ L rfl rfl (by omega) (by omega) (by rw [hz2_u64]; omega) (by unfold maxLen; omega) (Nat.le_refl _) ?_)
  intro w3 hmade hgr
  have hown := own_zeros hmade
  have hb3 : Below w.heap.size w w3 := (Below.refl _ _).grown hgr (Nat.le_refl _) (fun k hk => by cases hk)
  obtain ⟨g, hg⟩ : ∃ g, g = w.heap.size := ⟨_, rfl⟩
  rw [← hg] at hown ⊢
  have hgw : w.heap.size ≤ g := by omega
  replace hown := hown.wider hgw
  clear hmade hgr hg
  go_wp2
  go_loopw [6, 7, 8, 9, 10, 11] (fun i _ _ _ _ _ wr => ∃ (k : Nat) (ds : List Int), i = .int .i64 k ∧ k ≤ 2 * n ∧ Own .u64 wr w.heap.size 22 (.slice (some ⟨g, 0, none⟩) L L) ds ∧ HomI ps qs k ds ∧ Below w.heap.size w wr) (fun i _ _ _ _ _ _ => 2 * n - (intOf i).toNat)
  case atStart => exact ⟨0, _, rfl, by omega, hown, hst, hb3⟩
  case round =>
    obtain ⟨i, ds, rfl, hi, hod, hinv, hnx⟩ := hrel
    clear hown hst hb3
    by_cases hlt : i < 2 * n
    · obtain ⟨x1, o1, rfl, hx1, hc1⟩ := hr1.at (by omega)
      have hxa := (hnx.cell (p := ⟨x1, o1 + i / 2, none⟩) hx1).trans (hc1 (i / 2) (by omega))
      have ux : U (xs.getD (i / 2) 0) := hx.getAnyB (i / 2)
      have ga := gx i
      have ha := dx.getAll (by omega) i
      have hi2 : ((i : Int) / 2).toNat = i / 2 := by omega
      have hA := half_at ux i
      rw [← ga] at hA
      generalize xs.getD (i / 2) 0 = x at *
      obtain ⟨A, hAe⟩ : ∃ A, A = ps.getD i 0 := ⟨_, rfl⟩
      have HA : Hid (A = ps.getD i 0) := hAe
      rw [← hAe] at hA ha
      have hin0 := himI_start (ys := qs) (o := i) (x := A) hinv.1
      have hdl : ds.length = L := by have := hinv.2.1; rw [lx.out, ly.out] at this; rw [this, HL.out]; omega
      have HDL : Hid (ds.length = L) := hdl
      have hiL : i + 2 * m < L := by rw [HL.out]; omega
      clear ga hAe ux hc1 gx hdl
      go_wp2
      go_loopw [8, 9, 10, 11] (fun c j _ _ w4 => ∃ (k : Nat) (C : Int) (es : List Int), j = .int .i64 k ∧ c = .int .u64 C ∧ k ≤ 2 * m ∧ Own .u64 w4 w.heap.size 22 (.slice (some ⟨g, 0, none⟩) L L) es ∧ HimI ds qs i A k C es ∧ Below w.heap.size w w4) (fun _ j _ _ _ => 2 * m - (intOf j).toNat)
      case atStart => exact ⟨0, 0, ds, rfl, rfl, by omega, hod, hin0, hnx⟩
      case round =>
        obtain ⟨j, C, es, rfl, rfl, hj, hoe, hri, hnx4⟩ := hrel
        have hel : L = es.length := by rw [hri.2.1, HDL.out]
        clear hod hin0 hnx
        by_cases hjl : j < 2 * m
        · obtain ⟨x2, o2, rfl, hx2, hc2⟩ := hr2.at (by omega)
          have hyb := (hnx4.cell (p := ⟨x2, o2 + j / 2, none⟩) hx2).trans (hc2 (j / 2) (by omega))
          have uy : U (ys.getD (j / 2) 0) := hy.getAnyB (j / 2)
          have gb := gy j
          have hb := dy.getAll (by omega) j
          have hB := half_at uy j
          rw [← gb] at hB
          have hce := hoe.cellAt hel (j := i + j) (by omega)
          have hfz := hoe.frozenAt hel (i + j)
          have hu := hri.1.getAll (by omega) (i + j)
          have hC := hri.2.2.1
          have hstep := himI_step hri dy ha (by rw [ly.out]; exact hjl) (by omega)
          have hset := hoe.set hel (i + j) (hfLo A (qs.getD j 0) (es.getD (i + j) 0) C)
          have bd := hf_bd ha hb hu hC
          generalize ys.getD (j / 2) 0 = y at *
          generalize qs.getD j 0 = B at *
          generalize es.getD (i + j) 0 = D at *
          have hlo : bits .and .u64 (A * B + D + C) 4294967295 = hfLo A B D C := and_half (by unfold U; exact bd.1)
          obtain ⟨⟨q1, q2⟩, q3, q4⟩ := bd
          obtain ⟨a0, a1⟩ := ha
          obtain ⟨b0, b1⟩ := hb
          obtain ⟨u0, u1⟩ := hu
          obtain ⟨k0, k1⟩ := hC
          have hj2 : ((j : Int) / 2).toNat = j / 2 := by omega
          have hij : ((i : Int) + (j : Int)).toNat = i + j := by omega
          have hgb := hoe.base_le
          clear hri hoe gb uy hel gy hc2 q4
          go_wp2
          go_roundw
          case rel => exact ⟨j + 1, _, _, by go_num, rfl, by omega, hset, hstep, hnx4.setCell hgb _⟩
          case measure => simp [intOf]; omega
        · have e : j = qs.length := by rw [ly.out]; omega
          rw [e] at hri
          rw [HA.out] at hri
          obtain ⟨z, hnext⟩ := homI_step hinv (by rw [lx.out]; exact hlt) hri
          rw [ly.out] at z hnext
          have hC := hri.2.2.1
          have hce := hoe.cellAt hel (j := i + 2 * m) (by omega)
          rw [z] at hce
          have hfz := hoe.frozenAt hel (i + 2 * m)
          have hset := fun (d : Nat) => Own.set (w := wr.drewN d) hoe hel (i + 2 * m) C
          have hgb := hoe.base_le
          have hij : ((i : Int) + 2 * (m : Int)).toNat = i + 2 * m := by omega
          obtain ⟨k0, k1⟩ := hC
          clear hri e hinv z gy
          go_wp2
          go_roundw
          case rel => exact ⟨i + 1, _, by go_num, by omega, hset 0, hnext, hnx4.setCell hgb _⟩
          case measure => simp [intOf]; omega
    · have e : i = ps.length := by rw [lx.out]; omega
      rw [e] at hinv
      have hv := hinv.2.2.2
      rw [List.take_length, HV.out] at hv
      have hdl : L = ds.length := by have := hinv.2.1; rw [lx.out, ly.out] at this; rw [this, HL.out]; omega
      have hl2 : ds.length = 2 * (n + m) + 1 := by rw [← hdl, HL.out]
      have h0 : ds.getD (2 * (n + m)) 0 = 0 := by
        have b0 := hinv.2.2.1 (2 * (n + m)) (by rw [lx.out, ly.out]; omega)
        exact b0
      have hjd := joinW_done hl2 h0
      rw [hv] at hjd
      have HJ : Hid (num (joinW ds (n + m)) = num xs * num ys) := hjd
      have hdg := hinv.1
      have hjw := fun k => joinW_ws hdg k
      have hjl := fun k => joinW_length ds k
      have HDL : Hid (L = ds.length) := hdl
      obtain ⟨S0, hS0⟩ : ∃ S0, S0 = wr.heap.size := ⟨_, rfl⟩
      have hgS : g < S0 := by rw [hS0]; exact hod.lt
      have hwS : w.heap.size ≤ S0 := by rw [hS0]; exact hnx.size
      have hrf : Below S0 wr wr := Below.refl _ _
      have hsz0 : S0 ≤ wr.heap.size := by omega
      clear hinv hv hdl hl2 h0 hjd e gx gy hS0
      go_wp2
      go_loopw [12, 13] (fun v i w4 => ∃ k : Nat, i = .int .i64 (2 * (k : Int)) ∧ k ≤ n + m ∧ Own .u64 w4 S0 22 v (joinW ds k) ∧ Below S0 wr w4) (fun _ i _ => 2 * (n + m) + 2 - (intOf i).toNat)
      case atStart => exact ⟨0, rfl, by omega, own_nil _ _ _ _, hrf⟩
      case round =>
        obtain ⟨k, rfl, hk, hov, hnx4⟩ := hrel
        have hod4 := hod.stays hnx4 hgS
        have hsz := Nat.le_trans hsz0 hnx4.size
        clear hod hsz0
        by_cases hkl : k < n + m
        · have hkL : 2 * k + 1 < L := by rw [HL.out]; omega
          have c0 := hod4.cellAt HDL.out (j := 2 * k) (by omega)
          have c1 := hod4.cellAt HDL.out (j := 2 * k + 1) (by omega)
          have d0 := hdg.getAll (by omega) (2 * k)
          have d1 := hdg.getAll (by omega) (2 * k + 1)
          have hlk := hjl k
          have HN : Hid (joinW ds (k + 1) = joinW ds k ++ [ds.getD (2 * k) 0 + 4294967296 * ds.getD (2 * k + 1) 0]) := rfl
          generalize ds.getD (2 * k) 0 = x at *
          generalize ds.getD (2 * k + 1) 0 = y at *
          have hor : bits .or .u64 x (IntKind.u64.wrap (y * 4294967296)) = x + 4294967296 * y := or_joinR d0 d1
          have iL : 2 * (k : Int) + 1 < (L : Int) := by omega
          have iL0 : 2 * (k : Int) < (L : Int) := by omega
          have iL1 : 0 ≤ 2 * (k : Int) := by omega
          have hw1 : IntKind.i64.wrap (2 * (k : Int) + 1) = 2 * (k : Int) + 1 := by
            rw [IntKind.wrap_i64]; omega
          have iL2 : 0 ≤ 2 * (k : Int) + 1 := by omega
          have i0 : (2 * (k : Int)).toNat = 2 * k := by omega
          have i1 : (2 * (k : Int) + 1).toNat = 2 * k + 1 := by omega
          clear hjl hjw hdg hod4
          go_wp2
          go_region_law (refine step_append_own rfl (.tmp 101) (.tmp 113) 30 rfl S0 22 i_u64 (.int .u64 0) 1 8 Tryz.underlying30 hi_u64 hz0_u64 hz1_u64 hz2_u64 rfl (by decide) _ _ _ rfl (hov.row.alloc _) ⟨wr.heap.size, 0, none⟩ 1 1 [.int .u64 (x + 4294967296 * y)] rfl rfl one_new one_cell (by unfold maxLen; omega) (by omega) (by simp; omega) ?_; intro v' w1 hown' hgrow)
          all_goals
            have hb' := grow_below (o := .cells #[.int .u64 (x + 4294967296 * y)] 22) hsz hov.row hnx4 ⟨hgrow.os, hgrow.tape, hgrow.output, hgrow.size, hgrow.block⟩
            have ho' := own_next hown' (by omega)
            rw [← HN.out] at ho'
            clear hown' hgrow hov hnx4
            go_wp2
            go_roundw
            case rel => exact ⟨k + 1, by go_num, by omega, ho', hb'⟩
            case measure => simp [intOf]; omega
        · have ek : k = n + m := by omega
          have iL : ¬ (2 * (k : Int) + 1 < (L : Int)) := by rw [HL.out]; omega
          have HK : Hid (num (joinW ds k) = num xs * num ys) := by show _ = _; rw [ek]; exact HJ.out
          have hw5 := hjw k
          have hl5 := hjl k
          have hB := hnx.trans (hnx4.mono hwS)
          obtain ⟨va, vc, rfl, hvr⟩ := hov.readsC
          rw [hl5] at hvr ⊢
          have cn := ref3Norm_any (cap := vc) hvr.1 hw5 (by omega)
          rw [HK.out] at cn
          clear ek hov hod4 hjl hjw hvr hl5
          go_wp2_with fail
          refine cn.mono ?_
          rintro e w5 ⟨v5, rfl, hv5, hb5⟩
          have hv6 := hv5.wider hB.size
          have hB5 := hB.trans (hb5.mono hB.size)
          clear cn hv5
          go_wp2
          go_ret
          exact ⟨_, rfl, hv6, hB5⟩
end Go.Proofs.YtceecgklgkiffaaGreatDoor


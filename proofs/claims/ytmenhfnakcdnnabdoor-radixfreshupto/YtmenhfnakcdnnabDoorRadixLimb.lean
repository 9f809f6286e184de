/- plumbref04.limbs: words cut into halves. -/
import Derived.Test.YtmenhfnakcdnnabDoorRadixTake
import Derived.Deep.RegionLaw
namespace Go.Proofs.YtmenhfnakcdnnabDoor
open Go.ChangeShapes Go.WideShapes Go.ChangeAt Go.RowKit
open Na Ar
set_option linter.unusedVariables false
theorem step_append_two {P : Program} {ops : Array Oper} {o : Oper} {a : Act} {w : World} {K : Act → World → Prop} {Q : Exit → Act → World → Prop} {E : Prop}
    (hg : o.guard = none) (s x : Operand) (t : TypeId) (hop : o.op = Op.call { callee := Callee.builtin Builtin.append, args := #[s, x], argTypes := #[t, t] })
    (base : Nat) (e : TypeId) (i : TypeInfo) (z : Value) (size bytes : Nat) (h1 : P.underlying t = some (.slice e)) (h2 : P.info? e = some i) (h3 : i.zero = some z) (h4 : i.size = size) (h5 : i.bytes = bytes) (h6 : z.cells.size = size) (h7 : 0 < size)
    (v : Value) (n : Nat) (xs : List Value) (hs : a.eval s = v) (hown : w.ownsRow base e size v n xs)
    (ad : Addr) (m c : Nat) (news : List Value) (hx : a.eval x = .slice (some ad) m c) (hn : news.length = m * size) (hc : ∀ j u, news[j]? = some u → w.cell? (ad.add j) = some u) (h1c : ∀ u ∈ news, u.oneCell' = true)
    (b1 : n + m ≤ maxLen) (b2 : (n + m) * bytes ≤ 140737488355328) (hbase : base ≤ w.heap.size)
    (hK : ∀ v' w', w'.ownsRow base e size v' (n + m) (xs ++ news) → w.grownBy w' v.ownBlock → K (a.put o.dst v') w') :
    if Region.wanted o (yielded ops a.tmps) = true then Oper.wp P o a w K Q else E := by
  have hw : Region.wanted o (yielded ops a.tmps) = true := by simp [Region.wanted, hg]
  rw [if_pos hw]
  exact wp_append_own w s x t hop base e i z size bytes h1 h2 h3 h4 h5 h6 h7 v n xs hs hown ad m c news hx hn hc h1c b1 b2 hbase fun v' w' h2 h3 _ => hK v' w' h2 h3
theorem two_new {wr : World} {e : TypeId} {v u0 : Value} : ∀ j u, ([v, u0] : List Value)[j]? = some u → (wr.alloc (.cells #[v, u0] e)).cell? ((⟨wr.heap.size, 0, none⟩ : Addr).add j) = some u := by
  intro j u hj
  match j, hj with
  | 0, hj => simp at hj; subst hj; simp [Addr.add]
  | 1, hj => simp at hj; subst hj; simp [Addr.add]
theorem two_cell {k : IntKind} {x y : Int} : ∀ u ∈ [Value.int k x, Value.int k y], u.oneCell' = true := by
  intro u hu; simp at hu; rcases hu with rfl | rfl <;> rfl
theorem own_two {w1 : World} {base : Nat} {e : TypeId} {k : IntKind} {v : Value} {n : Nat} {xs : List Int} {x y : Int} (h : w1.ownsRow base e 1 v (n + 2) (xs.map (Value.int k) ++ [.int k x, .int k y])) (hn : n = xs.length) : Own k w1 base e v (xs ++ [x, y]) := by
  subst hn; unfold Own; rw [List.map_append, List.length_append]; exact h
namespace Na
/-- the halves of the first k words -/
def spW (xs : List Int) : Nat → List Int
  | 0 => []
  | k + 1 => spW xs k ++ [xs.getD k 0 % 4294967296, xs.getD k 0 / 4294967296]
theorem spW_length (xs : List Int) (k : Nat) : (spW xs k).length = 2 * k := by
  induction k with
  | zero => rfl
  | succ k ih => simp [spW, ih]; omega
theorem spW_dg {xs : List Int} (h : Ws xs) (k : Nat) : Dg 4294967296 (spW xs k) := by
  induction k with
  | zero => exact Dg.nil _
  | succ k ih =>
    refine ih.append ?_
    have g : 0 ≤ xs.getD k 0 ∧ xs.getD k 0 < 18446744073709551616 := by
      by_cases hk : k < xs.length
      · exact h.get hk
      · have e : xs.getD k 0 = 0 := by rw [List.getD_eq_getElem?_getD, List.getElem?_eq_none (by omega)]; rfl
        rw [e]; omega
    generalize xs.getD k 0 = x at *
    intro y hy
    simp at hy
    rcases hy with rfl | rfl <;> omega
theorem spW_val (xs : List Int) (k : Nat) (hk : k ≤ xs.length) : val 4294967296 (spW xs k) = num (xs.take k) := by
  induction k with
  | zero => simp [spW, num, val]
  | succ k ih =>
    show val _ (spW xs k ++ _) = _
    rw [val_append, ih (by omega), spW_length, take_next (by omega)]
    show _ = val _ (xs.take k ++ _)
    rw [val_append]
    have l : (xs.take k).length = k := by rw [List.length_take]; omega
    rw [l]
    have p : (18446744073709551616 : Int) ^ k = 4294967296 ^ (2 * k) := by rw [Int.pow_mul]; rfl
    rw [p]
    have q := Int.mul_ediv_add_emod (xs.getD k 0) 4294967296
    congr 1
    congr 1
    simp [val]
    omega
end Na
/-- limbs of a number, none of them 0 at the end -/
def LimbsOf (w : World) (base : Nat) (a : Option Addr) (n c : Nat) (us : List Int) (V : Int) : Prop := Own .u64 w base 35 (.slice a n c) us ∧ n = us.length ∧ Dg 4294967296 us ∧ val 4294967296 us = V ∧ strip us = us
set_option maxHeartbeats 1600000 in
set_option maxRecDepth 100000 in
theorem limbs4_any {a : Option Addr} {n cap : Nat} {xs : List Int} {w : World} (hrow : RowC w a n cap xs) (hw : Ws xs) (hn : n ≤ 2500000) :
    Calls Tryd.prog 55 #[.slice a n cap] w fun e w' => ∃ (va : Option Addr) (l c : Nat) (us : List Int), e = .returned (.slice va l c) ∧ (LimbsOf w' w.heap.size va l c us (num xs) ∧ l ≤ 2 * n) ∧ Below w.heap.size w w' := by
  obtain ⟨i_u64, hi_u64, hz0_u64, hz1_u64, hz2_u64⟩ := info_parts info_u64
  have HN : Hid (xs.length = n) := hrow.1.1
  have hjl := fun k => spW_length xs k
  go_enter Tryd.func55, Tryd.ntmps55
  go_wp2
  go_loopw [3, 4] (fun v i wr => ∃ k : Nat, i = .int .i64 (k : Int) ∧ k ≤ n ∧ Own .u64 wr w.heap.size 35 v (spW xs k) ∧ Below w.heap.size w wr) (fun _ i _ => n - (RowKit.intOf i).toNat)
  case atStart => exact ⟨0, rfl, by omega, own_nil _ _ _ _, Below.refl _ _⟩
  case round =>
    obtain ⟨k, rfl, hk, hov, hnx⟩ := hrel
    have hsz := hnx.size
    have hlk := hjl k
    by_cases hlt : k < n
    · obtain ⟨b, off, rfl, hbB, hc⟩ := hrow.1.at (by omega)
      have c0 := (hnx.cell (p := ⟨b, off + k, none⟩) hbB).trans (hc k hlt)
      have d0 := hw.get (show k < xs.length by rw [HN.out]; exact hlt)
      have HJ : Hid (spW xs (k + 1) = spW xs k ++ [xs.getD k 0 % 4294967296, xs.getD k 0 / 4294967296]) := rfl
      generalize xs.getD k 0 = x at *
      have hand : bits .and .u64 x 4294967295 = x % 4294967296 := and_half d0
      have e0 : 0 ≤ x / 4294967296 := by omega
      have e1 : x / 4294967296 < 4294967296 := by omega
      clear hc hjl
      go_wp2
      go_region_law (refine step_append_two rfl (.tmp 11) (.tmp 22) 22 rfl w.heap.size 35 i_u64 (.int .u64 0) 1 8 Tryd.underlying22 hi_u64 hz0_u64 hz1_u64 hz2_u64 rfl (by decide) _ _ _ rfl (hov.row.alloc _) ⟨wr.heap.size, 0, none⟩ 2 2 [.int .u64 (x % 4294967296), .int .u64 (x / 4294967296)] rfl rfl two_new two_cell (by unfold maxLen; omega) (by omega) (by simp; omega) ?_; intro v' w1 hown' hgrow)
      all_goals
        have hb' := grow_below (o := .cells #[.int .u64 (x % 4294967296), .int .u64 (x / 4294967296)] 35) hsz hov.row hnx ⟨hgrow.os, hgrow.tape, hgrow.output, hgrow.size, hgrow.block⟩
        have ho' := own_two hown' (by omega)
        rw [← HJ.out] at ho'
        clear hown' hgrow hov hnx
        go_wp2
        go_roundw
        case rel => exact ⟨k + 1, by go_num, by omega, ho', hb'⟩
        case measure => simp [RowKit.intOf]; omega
    · have hkn : k = n := by omega
      have hv := spW_val xs k (by rw [HN.out]; exact hk)
      rw [List.take_of_length_le (by rw [HN.out]; omega)] at hv
      have HV : Hid (val 4294967296 (spW xs k) = num xs) := hv
      have hdg := spW_dg hw k
      obtain ⟨va, vc, rfl, hvr⟩ := hov.readsC
      have HLK : Hid ((spW xs k).length = 2 * k) := hlk
      have cc := cut4_any hvr (by omega)
      clear hkn hv hlk hjl
      generalize hsl : (spW xs k).length = sl at *
      go_wp2_with fail
      refine cc.mono ?_
      rintro e w' ⟨m, rfl, ⟨hmk, hm⟩, rfl⟩
      have hfin : Hid (LimbsOf wr w.heap.size va m vc (strip (spW xs k)) (num xs) ∧ m ≤ 2 * n) := by
        have hcut := hov
        rw [← hsl] at hcut hmk
        refine ⟨⟨by rw [hm]; exact hcut.cut hmk, by rw [hm, List.length_take]; omega, by rw [hm]; exact fun y hy => hdg y (List.mem_of_mem_take hy), by rw [strip_val]; exact HV.out, strip_strip _⟩, ?_⟩
        have := HLK.out
        omega
      clear cc hvr hm hov hsl
      go_wp2
      go_ret
      exact ⟨va, m, vc, _, rfl, hfin.out, hnx⟩
end Go.Proofs.YtmenhfnakcdnnabDoor

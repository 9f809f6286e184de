/- Layer 16: items laid behind one another; lists of items in new memory. -/
import Derived.Test.YtchlflmdannhaaaDoorOctK
import Derived.Deep.RegionWith
namespace Go.Proofs.YtchlflmdannhaaaDoor
open Go.ChangeShapes Go.WideShapes Go.ChangeAt Go.RowKit
open Ep Oc
set_option linter.unusedVariables false
namespace Oc
/-- how many bytes an item has -/
def itM (i : It) : Nat := if i.x % 3 = 0 then 1 else if i.x % 3 = 1 then 4 else 8
/-- the bytes of an item -/
def itB (i : It) : List UInt8 := if i.x % 3 = 0 then [UInt8.ofNat (i.v.toNat % 256)] else if i.x % 3 = 1 then ord 4 (i.v.toNat % 4294967296) i.b else ord 8 i.v.toNat i.b
def laidL : List It → List UInt8
  | [] => []
  | i :: r => itB i ++ laidL r
theorem itB_len (i : It) : (itB i).length = itM i := by
  unfold itB itM
  split
  · rfl
  · split <;> rw [ord_len]
theorem itM_le (i : It) : 1 ≤ itM i ∧ itM i ≤ 8 := by unfold itM; split <;> (try split) <;> omega
theorem itM_wd (i : It) : wdI i.x = (itM i : Int) := by
  unfold wdI itM
  split
  · rfl
  · split <;> rfl
theorem laidL_app : ∀ (a b : List It), laidL (a ++ b) = laidL a ++ laidL b
  | [], b => rfl
  | i :: r, b => by show itB i ++ laidL (r ++ b) = (itB i ++ laidL r) ++ laidL b; rw [laidL_app r b, List.append_assoc]
theorem laidL_len_le : ∀ (l : List It), (laidL l).length ≤ 8 * l.length
  | [] => by simp [laidL]
  | i :: r => by
    show (itB i ++ laidL r).length ≤ _
    have := laidL_len_le r
    have := itM_le i
    rw [List.length_append, itB_len, List.length_cons]
    omega
theorem laidL_next {l : List It} {k : Nat} (h : k < l.length) : laidL (l.take (k + 1)) = laidL (l.take k) ++ itB l[k] := by
  rw [List.take_succ_eq_append_getElem h, laidL_app]
  show _ ++ (itB l[k] ++ []) = _
  rw [List.append_nil]
theorem laidL_split {l : List It} {k : Nat} (h : k < l.length) : laidL l = laidL (l.take k) ++ (itB l[k] ++ laidL (l.drop (k + 1))) := by
  have e : l = l.take k ++ l[k] :: l.drop (k + 1) := by rw [← List.drop_eq_getElem_cons h, List.take_append_drop]
  conv => lhs; rw [e]
  rw [laidL_app]
  rfl
theorem laid_read {l : List It} {k : Nat} (h : k < l.length) : ((laidL l).drop (laidL (l.take k)).length).take (itM l[k]) = itB l[k] := by
  rw [laidL_split h, List.drop_left, List.take_append_of_le_length (by rw [itB_len]; exact Nat.le_refl _), List.take_of_length_le (by rw [itB_len]; exact Nat.le_refl _)]
theorem laid_left {l : List It} {k : Nat} (h : k < l.length) : (laidL (l.take k)).length + itM l[k] ≤ (laidL l).length := by
  rw [laidL_split h, List.length_append, List.length_append, itB_len]
  omega
/-- what is read of an item -/
def itW (i : It) : Nat := if i.x % 3 = 0 then i.v.toNat % 256 else if i.x % 3 = 1 then i.v.toNat % 4294967296 else i.v.toNat
/-- the cells of items -/
def itC : List It → List Value
  | [] => []
  | i :: r => .int .i64 i.x :: .int .u64 i.v :: .bool i.b :: itC r
theorem itC_len : ∀ (l : List It), (itC l).length = l.length * 3
  | [] => rfl
  | i :: r => by show (itC r).length + 1 + 1 + 1 = (r.length + 1) * 3; rw [itC_len r]; omega
theorem itC_app : ∀ (a b : List It), itC (a ++ b) = itC a ++ itC b
  | [], b => rfl
  | i :: r, b => by show _ :: _ :: _ :: itC (r ++ b) = _; rw [itC_app r b]; rfl
theorem itC_at : ∀ (l : List It) (i : Nat) (h : i < l.length), (itC l)[3 * i]? = some (.int .i64 l[i].x) ∧ (itC l)[3 * i + 1]? = some (.int .u64 l[i].v) ∧ (itC l)[3 * i + 2]? = some (.bool l[i].b)
  | [], i, h => by simp at h
  | a :: r, 0, h => ⟨rfl, rfl, rfl⟩
  | a :: r, i + 1, h => by
    have := itC_at r i (by simpa using h)
    show ((_ :: _ :: _ :: itC r)[3 * (i + 1)]? = _) ∧ ((_ :: _ :: _ :: itC r)[3 * (i + 1) + 1]? = _) ∧ ((_ :: _ :: _ :: itC r)[3 * (i + 1) + 2]? = _)
    rw [show 3 * (i + 1) = 3 * i + 1 + 1 + 1 by omega, show 3 * i + 1 + 1 + 1 + 1 = 3 * i + 1 + 1 + 1 + 1 from rfl, show 3 * i + 1 + 1 + 1 + 2 = (3 * i + 2) + 1 + 1 + 1 by omega]
    simp only [List.getElem?_cons_succ]
    exact this
theorem itC_one : ∀ (l : List It), ∀ u ∈ itC l, u.oneCell' = true
  | [], u, h => by cases h
  | i :: r, u, h => by
    rcases List.mem_cons.1 h with rfl | h
    · rfl
    rcases List.mem_cons.1 h with rfl | h
    · rfl
    rcases List.mem_cons.1 h with rfl | h
    · rfl
    exact itC_one r u h
end Oc
theorem info_it : (Tryd.prog.info? 40).map (fun i => (i.zero, i.size, i.bytes)) = some (some (.agg #[.int .i64 0, .int .u64 0, .bool false]), 3, 24) := by kernel_rfl
/-- a list of items in memory of the call's own -/
def OwI (w : World) (base : Nat) (v : Value) (l : List It) : Prop := w.ownsRow base 40 3 v l.length (itC l)
theorem OwI.its {w : World} {base : Nat} {v : Value} {l : List It} (h : OwI w base v l) (hok : ∀ i ∈ l, i.ok) : ∃ a c, v = .slice a l.length c ∧ Its w a l.length l ∧ l.length ≤ c ∧ c ≤ 9223372036854775807 := by
  rcases h.2 with ⟨rfl, h0⟩ | ⟨g, cap, cur, rfl, hb, hg, hn, hm, hs, ht⟩
  · refine ⟨none, 0, by rw [h0], ⟨rfl, fun i hi => by omega⟩, by omega, by omega⟩
  · refine ⟨_, cap, rfl, ⟨rfl, fun i hi => ⟨hok _ (List.getElem_mem hi), g, 0, rfl, ?_, ?_⟩⟩, hn, by unfold maxLen at hm; omega⟩
    · by_cases hlt : g < w.heap.size
      · exact hlt
      · simp [Array.getElem?_eq_none (Nat.le_of_not_lt hlt)] at hg
    · obtain ⟨e0, e1, e2⟩ := itC_at l i hi
      have hc := fun j hj => World.ownsRow.cellAt h j hj
      refine ⟨?_, ?_, ?_⟩
      · rw [Nat.zero_add, hc _ (by omega)]; exact e0
      · rw [show 0 + 3 * i + 1 = 3 * i + 1 by omega, hc _ (by omega)]; exact e1
      · rw [show 0 + 3 * i + 2 = 3 * i + 2 by omega, hc _ (by omega)]; exact e2
theorem Its.cells {w : World} {ad : Addr} {n : Nat} {l : List It} (h : Its w (some ad) n l) : ∀ j u, (itC l)[j]? = some u → w.cell? (ad.add j) = some u := by
  intro j u hj
  have hjl : j < (itC l).length := (List.getElem?_eq_some_iff.1 hj).1
  rw [itC_len] at hjl
  have hi : j / 3 < l.length := by omega
  obtain ⟨_, b, o, e, hlt, c0, c1, c2⟩ := h.2 (j / 3) hi
  obtain rfl := Option.some.inj e
  obtain ⟨e0, e1, e2⟩ := itC_at l (j / 3) hi
  rw [add_none]
  rcases (by omega : j = 3 * (j / 3) ∨ j = 3 * (j / 3) + 1 ∨ j = 3 * (j / 3) + 2) with q | q | q
  · rw [q] at hj ⊢; rw [e0] at hj; rw [← hj]; exact c0
  · rw [q] at hj ⊢; rw [e1] at hj; rw [← hj, ← Nat.add_assoc]; exact c1
  · rw [q] at hj ⊢; rw [e2] at hj; rw [← hj, ← Nat.add_assoc]; exact c2
/-- an append of items, none perhaps -/
theorem run_appI (w : World) {base : Nat} {v : Value} {l s : List It} (ho : OwI w base v l) {a : Option Addr} {m c : Nat} (hs : Its w a m s) (hb : l.length + m ≤ 10000000) (hbase : base ≤ w.heap.size) (ty : TypeId) :
    ∃ v' w', (Builtin.append_ #[50, 50] ty #[v, .slice a m c]).run Tryd.prog w = .ok v' w' ∧ OwI w' base v' (l ++ s) ∧ w.grownBy w' v.ownBlock := by
  obtain ⟨i, hi, hz0, hz1, hz2⟩ := info_parts info_it
  have hsl := hs.1
  by_cases hm : 0 < m
  · obtain ⟨_, b, o, rfl, _⟩ := hs.2 0 (by omega)
    obtain ⟨v', w', hr, h2, h3, h4⟩ := run_append_own (P := Tryd.prog) w base 50 ty 40 i _ 3 24 Tryd.underlying50 hi hz0 hz1 hz2 rfl (by omega) v l.length (itC l) ho ⟨b, o, none⟩ m c (itC s) (by rw [itC_len, hsl]) hs.cells (itC_one s) (by unfold maxLen; omega) (by omega) hbase
    refine ⟨v', w', hr, ?_, h3⟩
    unfold OwI
    rw [itC_app, List.length_append, hsl]
    exact h2
  · have hm0 : m = 0 := by omega
    subst hm0
    have he : s = [] := List.eq_nil_of_length_eq_zero hsl
    subst he
    refine ⟨v, w, ?_, by rw [List.append_nil]; exact ho, ⟨rfl, rfl, rfl, Nat.le_refl _, fun _ _ _ => rfl⟩⟩
    rcases ho.2 with ⟨rfl, _⟩ | ⟨g, cap, cur, rfl, hbg, hg, hnc, hcm, hcs, htake⟩
    · cases a <;> simp [Builtin.append_, run_underlying Tryd.underlying50, Result.andThen, sizeOf, typeInfo, hi, hz1, Builtin.lenOf, Builtin.firstCells, loadCells, loadCellsFrom]
    · cases a <;> simp [Builtin.append_, run_underlying Tryd.underlying50, Result.andThen, hnc, sizeOf, typeInfo, hi, hz1, Builtin.lenOf, Builtin.firstCells, loadCells, loadCellsFrom, storeCells]
theorem wpList_appI {w : World} {ops : Array Oper} {rest : List Oper} {o : Oper} {a : Act} {Q : Exit → Act → World → Prop} (hgd : o.guard = none) (s x : Operand)
    (ho : o.op = .call { callee := .builtin .append, args := #[s, x], argTypes := #[50, 50] }) {base : Nat} {v : Value} {l r : List It} (hs : a.eval s = v) (hO : OwI w base v l) {ad : Option Addr} {m c : Nat} (hx : a.eval x = .slice ad m c) (hr : Its w ad m r) (hb : l.length + m ≤ 10000000) (hbase : base ≤ w.heap.size)
    (h : ∀ v' w', OwI w' base v' (l ++ r) → w.grownBy w' v.ownBlock → wpList Tryd.prog ops Q rest (a.put o.dst v') w') : wpList Tryd.prog ops Q (o :: rest) a w := by
  obtain ⟨v', w', hrun, h1, h2⟩ := run_appI w hO hr hb hbase o.type (c := c)
  exact wpList_append8 hgd s x 50 ho _ _ hs hx hrun (h v' w' h1 h2)
theorem OwI.blk {w : World} {base : Nat} {v : Value} {l : List It} (h : OwI w base v l) {g : Nat} (hg : v.ownBlock = some g) : base ≤ g := by
  rcases h.2 with ⟨hv, _⟩ | ⟨g', cap, cur, hv, hb, hc, _⟩
  · rw [hv] at hg; simp [Value.ownBlock] at hg
  · rw [hv] at hg
    simp only [Value.ownBlock, Option.some.injEq] at hg
    omega
theorem OwI.below {w0 w w' : World} {base : Nat} {v : Value} {l : List It} (h : OwI w base v l) (hB : Below base w0 w) (h0 : base ≤ w0.heap.size) (hg : w.grownBy w' v.ownBlock) : Below base w0 w' :=
  hB.grown hg (Nat.le_trans h0 hB.size) (fun k hk => h.blk hk)
theorem OwI.later {w w' : World} {base : Nat} {v : Value} {l : List It} (h : OwI w base v l) (hb : Below w.heap.size w w') : OwI w' base v l := by
  obtain ⟨h1, h2⟩ := h
  refine ⟨h1, ?_⟩
  rcases h2 with h2 | ⟨g, c, cur, hv, hg, hc, r⟩
  · exact Or.inl h2
  · refine Or.inr ⟨g, c, cur, hv, hg, ?_, r⟩
    have hlt : g < w.heap.size := by
      by_cases hlt : g < w.heap.size
      · exact hlt
      · simp [Array.getElem?_eq_none (Nat.le_of_not_lt hlt)] at hc
    rw [hb.block g hlt]; exact hc
set_option maxHeartbeats 3200000 in
set_option maxRecDepth 100000 in
theorem laid16_any {w : World} {a : Option Addr} {n c : Nat} {l : List It} (h : Its w a n l) (hn : n ≤ 2000000) (hc : n ≤ c ∧ c ≤ 9223372036854775807) :
    Calls Tryd.prog 24 #[.slice a n c] w fun e w' => ∃ v, e = .returned v ∧ Ob w' w.heap.size v (laidL l) ∧ Below w.heap.size w w' := by
  have HL : Hid (l.length = n) := h.1
  go_enter Tryd.func24, Tryd.ntmps24
  go_wp2
  go_loopw [3, 4] (fun o i wr => ∃ k : Nat, k ≤ n ∧ i = .int .i64 (k : Int) ∧ Ob wr w.heap.size o (laidL (l.take k)) ∧ Below w.heap.size w wr) (fun _ i _ => n - (intOf i).toNat)
  case atStart => exact ⟨0, Nat.zero_le _, rfl, Ob.nil _ _, Below.refl _ _⟩
  case round =>
    obtain ⟨k, hk, rfl, hO3, hb3⟩ := hrel
    by_cases hlt : k < n
    · have hkl : k < l.length := by rw [HL.out]; exact hlt
      obtain ⟨hok, b, o, rfl, hbB, hjunk⟩ := h.2 k hkl
      clear hjunk
      have hcell := fun (w' : World) (hb : Below w.heap.size w w') => ((h.later hb).2 k hkl).2
      have HA : Hid (laidL (l.take (k + 1)) = laidL (l.take k) ++ itB l[k]) := laidL_next hkl
      have HN : Hid ((laidL (l.take k)).length ≤ 16000000) := by
        show _ ≤ _
        have := laidL_len_le (l.take k)
        rw [List.length_take] at this
        omega
      obtain ⟨it, hit⟩ : ∃ it, it = l[k] := ⟨_, rfl⟩
      rw [← hit] at hok hcell HA
      clear hit
      generalize laidL (l.take k) = P at *
      have cl : ∀ w' : World, Below w.heap.size w w' → w'.cell? ⟨b, o + k * 3, none⟩ = some (.int .i64 it.x) ∧ w'.cell? ⟨b, o + k * 3 + 1, none⟩ = some (.int .u64 it.v) ∧ w'.cell? ⟨b, o + k * 3 + 2, none⟩ = some (.bool it.b) := fun w' hb => by
        rw [Nat.mul_comm k 3]
        obtain ⟨b', o', e, _, c0, c1, c2⟩ := hcell w' hb
        simp only [Option.some.injEq, Addr.mk.injEq, and_true] at e
        obtain ⟨rfl, rfl⟩ := e
        exact ⟨c0, c1, c2⟩
      obtain ⟨c0, c1, c2⟩ := cl wr hb3
      have hW := fun w => wide16_any it.x it.v it.b w
      clear hcell hkl
      obtain ⟨V, hV⟩ : ∃ V : Nat, it.v = (V : Int) := ⟨it.v.toNat, by have := hok.2; omega⟩
      have hV9 : V < 18446744073709551616 := by have := hok.2; omega
      have HB : Hid (itB it = if it.x % 3 = 0 then [UInt8.ofNat (V % 256)] else if it.x % 3 = 1 then ord 4 (V % 4294967296) it.b else ord 8 V it.b) := by show _ = _; unfold itB; rw [hV]; rfl
      rw [hV] at c1 hW cl
      have hr3 : it.x % 3 = 0 ∨ it.x % 3 = 1 ∨ it.x % 3 = 2 := by omega
      generalize it.x % 3 = r at *
      generalize it.x = X at *
      generalize it.b = lt at *
      clear hok hV
      go_wp2_with fail
      refine (hW _).mono ?_
      rintro e w2 ⟨rfl, hb2⟩
      have hO2 := hO3.later hb2
      have hB2 := hb3.trans (hb2.mono hb3.size)
      obtain ⟨c0, c1, c2⟩ := cl w2 hB2
      have hs2 := hB2.size
      clear hW hO3 hb3 hb2
      rcases hr3 with rfl | rfl | rfl
      · rw [if_pos rfl] at HB
        have hX8 : Hid (((V : Int) % 256) = (((UInt8.ofNat (V % 256)).toNat : Nat) : Int)) := by show _ = _; rw [UInt8.toNat_ofNat', show (2 : Nat) ^ 8 = 256 from rfl]; omega
        rw [HB.out] at HA
        go_wp2_with (at_builtin; refine wpList_app8 rfl _ _ rfl rfl (hO2.alloc _) rfl (rb_one w2 (x := UInt8.ofNat (V % 256)) (by have := hX8.out; omega)) (by have := HN.out; omega) (by simp; omega) ?_)
        intro v5 w5 hO5 hg5 hkp
        have hb5 := (hO2.alloc _).below (hB2.alloc hB2.size _) (Nat.le_refl _) hg5
        rw [← HA.out] at hO5
        clear hkp hg5 hO2 hB2
        go_wp2
        go_roundw
        case rel => exact ⟨k + 1, by omega, by go_num, hO5, hb5⟩
        case measure => simp [intOf]; omega
      · rw [if_neg (by decide), if_pos rfl] at HB
        rw [HB.out] at HA
        obtain ⟨oa, oc, rfl, hrow⟩ := hO2.row
        have hP := put32_any (V := V % 4294967296) (little := lt) (hrow.later (below_drewN (Below.refl _ _) 1)) (by have := HN.out; omega) (by show _ < 4294967296; omega)
        have e32 : (V : Int) % 4294967296 = ((V % 4294967296 : Nat) : Int) := by omega
        have e33 : IntKind.u32.wrap (V : Int) = ((V % 4294967296 : Nat) : Int) := by simp [IntKind.wrap, IntKind.bits, IntKind.signed]
        generalize V % 4294967296 = U at *
        generalize hm : P.length = m at *
        have hBd := below_drewN hB2 1
        clear hrow hO2 hm
        go_upto_region 9 with fail
        go_region_with (go_at_call 35; refine hP.mono ?_; rintro e w5 ⟨v5, rfl, hO5, hb5⟩)
        all_goals
          have hB5 := hBd.trans (hb5.mono hBd.size)
          have hO6 := hO5.wider (base' := w.heap.size) hBd.size
          rw [← HA.out] at hO6
          clear hP hBd hb5 hO5
          go_wp2
          go_roundw
          case rel => exact ⟨k + 1, by omega, by go_num, hO6, hB5⟩
          case measure => simp [intOf]; omega
      · rw [if_neg (by decide), if_neg (by decide)] at HB
        rw [HB.out] at HA
        obtain ⟨oa, oc, rfl, hrow⟩ := hO2.row
        have hP := put64_any (V := V) (little := lt) (hrow.later (below_drewN (Below.refl _ _) 1)) (by have := HN.out; omega) hV9
        generalize hm : P.length = m at *
        have hBd := below_drewN hB2 1
        clear hrow hO2 hm
        go_upto_region 11 with fail
        go_region_with (go_at_call 36; refine hP.mono ?_; rintro e w5 ⟨v5, rfl, hO5, hb5⟩)
        all_goals
          have hB5 := hBd.trans (hb5.mono hBd.size)
          have hO6 := hO5.wider (base' := w.heap.size) hBd.size
          rw [← HA.out] at hO6
          clear hP hBd hb5 hO5
          go_wp2
          go_roundw
          case rel => exact ⟨k + 1, by omega, by go_num, hO6, hB5⟩
          case measure => simp [intOf]; omega
    · have HE : Hid (l.take k = l) := by show _ = _; rw [List.take_of_length_le (by rw [HL.out]; omega)]
      rw [HE.out] at hO3
      go_wp2
      go_ret
      exact ⟨_, rfl, hO3, hb3⟩
end Go.Proofs.YtchlflmdannhaaaDoor

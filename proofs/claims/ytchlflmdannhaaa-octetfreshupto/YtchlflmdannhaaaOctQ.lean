/- Layer 16: rows of bytes, each in a block of its own. -/
import Derived.Test.YtchlflmdannhaaaOctH
namespace Go.Proofs.Ytchlflmdannhaaa
open Go.ChangeShapes Go.WideShapes Go.ChangeAt Go.RowKit
open Ep Oc
set_option linter.unusedVariables false
/-- K rows, each in a block of its own -/
structure Fam (w : World) (base K : Nat) (g c : Nat → Nat) (ls : Nat → List UInt8) : Prop where
  ob : ∀ i, i < K → Ob w base (.slice (some ⟨g i, 0, none⟩) (ls i).length (c i)) (ls i)
  inj : ∀ i j, i < K → j < K → i ≠ j → g i ≠ g j
theorem Fam.later {w w' : World} {base K : Nat} {g c : Nat → Nat} {ls : Nat → List UInt8} (h : Fam w base K g c ls) (hb : Below w.heap.size w w') : Fam w' base K g c ls := ⟨fun i hi => (h.ob i hi).later hb, h.inj⟩
theorem Fam.lt {w : World} {base K : Nat} {g c : Nat → Nat} {ls : Nat → List UInt8} (h : Fam w base K g c ls) {i : Nat} (hi : i < K) : base ≤ g i ∧ g i < w.heap.size := (h.ob i hi).blk rfl
theorem Ob.inn8 {w w' : World} {base : Nat} {v : Value} {l : List UInt8} (h : Ob w base v l) {g : Nat} (hi : In g (g + 1) w w') (hne : v.ownBlock ≠ some g) : Ob w' base v l := by
  obtain ⟨h1, h2⟩ := h
  refine ⟨h1, ?_⟩
  rcases h2 with h2 | ⟨g', c, cur, hv, hb, hc, q⟩
  · exact Or.inl h2
  · have hlt : g' < w.heap.size := by
      by_cases hlt : g' < w.heap.size
      · exact hlt
      · simp [Array.getElem?_eq_none (Nat.le_of_not_lt hlt)] at hc
    have hg : g' ≠ g := fun e => hne (by rw [hv, e]; rfl)
    refine Or.inr ⟨g', c, cur, hv, hb, ?_, q⟩
    rw [hi.block g' hlt (by omega)]
    exact hc
/-- one row is another now -/
theorem Fam.put {w w' : World} {base K : Nat} {g c : Nat → Nat} {ls ls' : Nat → List UInt8} (h : Fam w base K g c ls) {n : Nat} (hn : n < K) (hi : In (g n) (g n + 1) w w') (hO : Ob w' base (.slice (some ⟨g n, 0, none⟩) (ls' n).length (c n)) (ls' n)) (he : ∀ i, i < K → i ≠ n → ls' i = ls i) : Fam w' base K g c ls' := by
  refine ⟨fun i hik => ?_, h.inj⟩
  by_cases q : i = n
  · subst q; exact hO
  · rw [he i hik q]
    exact (h.ob i hik).inn8 hi (by
      intro e
      have e' : g i = g n := Option.some.inj e
      exact h.inj i n hik hn q e')
/-- one row more -/
def ext1 {α : Type} (f : Nat → α) (K : Nat) (x : α) : Nat → α := fun i => if i = K then x else f i
theorem ext1_at {α : Type} (f : Nat → α) (K : Nat) (x : α) : ext1 f K x K = x := by unfold ext1; rw [if_pos rfl]
theorem ext1_lt {α : Type} (f : Nat → α) {K i : Nat} (x : α) (h : i < K) : ext1 f K x i = f i := by unfold ext1; rw [if_neg (by omega)]
theorem Fam.snoc {w w' : World} {base K : Nat} {g c : Nat → Nat} {ls : Nat → List UInt8} (h : Fam w base K g c ls) (hb : Below w.heap.size w w') (hbase : base ≤ w.heap.size) {v : Value} {l : List UInt8} (hO : Ob w' w.heap.size v l) (hl : 0 < l.length) :
    ∃ gx cx, v = .slice (some ⟨gx, 0, none⟩) l.length cx ∧ l.length ≤ cx ∧ cx ≤ 9223372036854775807 ∧ Fam w' base (K + 1) (ext1 g K gx) (ext1 c K cx) (ext1 ls K l) := by
  obtain ⟨gx, cx, rfl, h1, h2, h3, h4⟩ := hO.shape hl
  refine ⟨gx, cx, rfl, h1, h2, ⟨fun i hi => ?_, fun i j hi hj hij => ?_⟩⟩
  · by_cases q : i = K
    · subst q
      rw [ext1_at, ext1_at, ext1_at]
      exact hO.wider hbase
    · rw [ext1_lt _ _ (by omega), ext1_lt _ _ (by omega), ext1_lt _ _ (by omega)]
      exact (h.ob i (by omega)).later hb
  · by_cases q : i = K
    · subst q
      rw [ext1_at, ext1_lt _ _ (by omega)]
      have := (h.lt (i := j) (by omega)).2
      omega
    · by_cases q2 : j = K
      · subst q2
        rw [ext1_at, ext1_lt _ _ (by omega)]
        have := (h.lt (i := i) (by omega)).2
        omega
      · rw [ext1_lt _ _ (by omega), ext1_lt _ _ (by omega)]
        exact h.inj i j (by omega) (by omega) hij
theorem Fam.nil (w : World) (base : Nat) : Fam w base 0 (fun _ => 0) (fun _ => 0) (fun _ => []) := ⟨fun i hi => by omega, fun i j hi => by omega⟩
/-- slices as values -/
def slV (g c len : Nat → Nat) (lo n : Nat) : List Value := (List.range n).map fun i => .slice (some ⟨g (lo + i), 0, none⟩) (len (lo + i)) (c (lo + i))
theorem slV_len (g c len : Nat → Nat) (lo n : Nat) : (slV g c len lo n).length = n := by unfold slV; simp
theorem slV_at (g c len : Nat → Nat) (lo : Nat) {n i : Nat} (h : i < n) : (slV g c len lo n)[i]? = some (.slice (some ⟨g (lo + i), 0, none⟩) (len (lo + i)) (c (lo + i))) := by
  unfold slV
  rw [List.getElem?_map, List.getElem?_range h]
  rfl
theorem slV_more (g c len : Nat → Nat) (lo n m : Nat) : slV g c len lo (n + m) = slV g c len lo n ++ slV g c len (lo + n) m := by
  apply List.ext_getElem?
  intro i
  by_cases h : i < n
  · rw [slV_at _ _ _ _ (by omega), List.getElem?_append_left (by rw [slV_len]; exact h), slV_at _ _ _ _ h]
  · rw [List.getElem?_append_right (by rw [slV_len]; omega), slV_len]
    by_cases h2 : i < n + m
    · rw [slV_at _ _ _ _ h2, slV_at _ _ _ _ (by omega), show lo + n + (i - n) = lo + i by omega]
    · rw [List.getElem?_eq_none (by rw [slV_len]; omega), List.getElem?_eq_none (by rw [slV_len]; omega)]
theorem slV_congr {g c len g' c' len' : Nat → Nat} {lo n : Nat} (h : ∀ i, lo ≤ i → i < lo + n → g i = g' i ∧ c i = c' i ∧ len i = len' i) : slV g c len lo n = slV g' c' len' lo n := by
  unfold slV
  refine List.map_congr_left fun i hi => ?_
  have hi' := List.mem_range.1 hi
  obtain ⟨e1, e2, e3⟩ := h (lo + i) (by omega) (by omega)
  rw [e1, e2, e3]
/-- a list of slices in memory of the call's own -/
def Ar8 (w : World) (base : Nat) (v : Value) (vals : List Value) : Prop := w.ownsRow base 22 1 v vals.length vals
theorem Ar8.later {w w' : World} {base : Nat} {v : Value} {vals : List Value} (h : Ar8 w base v vals) (hb : Below w.heap.size w w') : Ar8 w' base v vals := by
  obtain ⟨h1, h2⟩ := h
  refine ⟨h1, ?_⟩
  rcases h2 with h2 | ⟨g, c, cur, hv, hg, hc, r⟩
  · exact Or.inl h2
  · refine Or.inr ⟨g, c, cur, hv, hg, ?_, r⟩
    have hlt : g < w.heap.size := by
      by_cases hlt : g < w.heap.size
      · exact hlt
      · simp [Array.getElem?_eq_none (Nat.le_of_not_lt hlt)] at hc
    rw [hb.block g hlt]; exact hc
theorem ty_ne : 5 ≠ 22 := by decide
/-- what is written into a row of bytes leaves it -/
theorem Ar8.inn {w w' : World} {base : Nat} {v : Value} {vals : List Value} (h : Ar8 w base v vals) {base2 g n c : Nat} {l : List UInt8} (hO : Ob w base2 (.slice (some ⟨g, 0, none⟩) n c) l) (hi : In g (g + 1) w w') : Ar8 w' base v vals := by
  obtain ⟨h1, h2⟩ := h
  refine ⟨h1, ?_⟩
  rcases h2 with h2 | ⟨g', c', cur, hv, hb, hc, q⟩
  · exact Or.inl h2
  · have hlt : g' < w.heap.size := by
      by_cases hlt : g' < w.heap.size
      · exact hlt
      · simp [Array.getElem?_eq_none (Nat.le_of_not_lt hlt)] at hc
    have hne : g' ≠ g := by
      rintro rfl
      rcases hO.2 with ⟨e, _⟩ | ⟨g2, c2, cur2, e, _, hc2, _⟩
      · cases e
      · simp only [Value.slice.injEq, Option.some.injEq, Addr.mk.injEq] at e
        obtain ⟨⟨rfl, _⟩, _⟩ := e
        rw [hc] at hc2
        simp only [Option.some.injEq, Obj.cells.injEq] at hc2
        exact ty_ne hc2.2.1.symm
    refine Or.inr ⟨g', c', cur, hv, hb, ?_, q⟩
    rw [hi.block g' hlt (by omega)]
    exact hc
theorem Ar8.row {w : World} {base : Nat} {v : Value} {vals : List Value} (h : Ar8 w base v vals) : ∃ a c, v = .slice a vals.length c ∧ vals.length ≤ c ∧ c ≤ 9223372036854775807 ∧ ∀ i u, vals[i]? = some u → ∃ b, a = some ⟨b, 0, none⟩ ∧ b < w.heap.size ∧ w.cell? ⟨b, i, none⟩ = some u := by
  rcases h.2 with ⟨rfl, h0⟩ | ⟨g, cap, cur, rfl, hb, hg, hn, hm, hs, ht⟩
  · exact ⟨none, 0, by rw [h0], by omega, by omega, fun i u hu => by rw [List.getElem?_eq_none (by omega)] at hu; cases hu⟩
  · refine ⟨_, cap, rfl, hn, by unfold maxLen at hm; omega, fun i u hu => ⟨g, rfl, ?_, ?_⟩⟩
    · by_cases hlt : g < w.heap.size
      · exact hlt
      · simp [Array.getElem?_eq_none (Nat.le_of_not_lt hlt)] at hg
    · have hi : i < vals.length := (List.getElem?_eq_some_iff.1 hu).1
      rw [World.ownsRow.cellAt h i (by omega)]
      exact hu
theorem Fam.congr {w : World} {base K : Nat} {g c g' c' : Nat → Nat} {ls ls' : Nat → List UInt8} (h : Fam w base K g c ls) (he : ∀ i, i < K → g i = g' i ∧ c i = c' i ∧ ls i = ls' i) : Fam w base K g' c' ls' := by
  refine ⟨fun i hi => ?_, fun i j hi hj hij => ?_⟩
  · obtain ⟨e1, e2, e3⟩ := he i hi
    rw [← e1, ← e2, ← e3]
    exact h.ob i hi
  · rw [← (he i hi).1, ← (he j hj).1]
    exact h.inj i j hi hj hij
/-- a list of slices lies in no row of bytes -/
theorem Ar8.off {w : World} {base : Nat} {v : Value} {vals : List Value} (h : Ar8 w base v vals) {base2 : Nat} {u : Value} {l : List UInt8} (hO : Ob w base2 u l) : ∀ g, u.ownBlock = some g → v.ownBlock ≠ some g := by
  intro g hu hv
  rcases h.2 with ⟨e, _⟩ | ⟨g', c', cur, e, _, hc, _⟩
  · rw [e] at hv; cases hv
  · rw [e] at hv
    simp only [Value.ownBlock, Option.some.injEq] at hv
    subst hv
    rcases hO.2 with ⟨e2, _⟩ | ⟨g2, c2, cur2, e2, _, hc2, _⟩
    · rw [e2] at hu; cases hu
    · rw [e2] at hu
      simp only [Value.ownBlock, Option.some.injEq] at hu
      subst hu
      rw [hc] at hc2
      simp only [Option.some.injEq, Obj.cells.injEq] at hc2
      exact ty_ne hc2.2.1.symm
theorem Ob.grownA {w w' : World} {base base2 : Nat} {v u : Value} {vals : List Value} {l : List UInt8} (hO : Ob w base2 u l) (h : Ar8 w base v vals) (hg : w.grownBy w' v.ownBlock) : Ob w' base2 u l := hO.keep hg (fun g hu => h.off hO g hu)
theorem Fam.grownA {w w' : World} {base base2 K : Nat} {g c : Nat → Nat} {ls : Nat → List UInt8} {v : Value} {vals : List Value} (hF : Fam w base2 K g c ls) (h : Ar8 w base v vals) (hg : w.grownBy w' v.ownBlock) : Fam w' base2 K g c ls := ⟨fun i hi => (hF.ob i hi).grownA h hg, hF.inj⟩
theorem Ar8.blk {w : World} {base : Nat} {v : Value} {vals : List Value} (h : Ar8 w base v vals) {g : Nat} (hg : v.ownBlock = some g) : base ≤ g ∧ g < w.heap.size := by
  rcases h.2 with ⟨hv, _⟩ | ⟨g', cap, cur, hv, hb, hc, _⟩
  · rw [hv] at hg; simp [Value.ownBlock] at hg
  · rw [hv] at hg
    simp only [Value.ownBlock, Option.some.injEq] at hg
    subst hg
    refine ⟨hb, ?_⟩
    by_cases hlt : g' < w.heap.size
    · exact hlt
    · simp [Array.getElem?_eq_none (Nat.le_of_not_lt hlt)] at hc
theorem Ar8.keep {w w' : World} {base : Nat} {v : Value} {vals : List Value} (h : Ar8 w base v vals) {r : Option Nat} (hg : w.grownBy w' r) (hne : ∀ g, v.ownBlock = some g → r ≠ some g) : Ar8 w' base v vals := by
  obtain ⟨h1, h2⟩ := h
  refine ⟨h1, ?_⟩
  rcases h2 with h2 | ⟨g, c, cur, hv, hb, hc, q⟩
  · exact Or.inl h2
  · have hlt : g < w.heap.size := by
      by_cases hlt : g < w.heap.size
      · exact hlt
      · simp [Array.getElem?_eq_none (Nat.le_of_not_lt hlt)] at hc
    refine Or.inr ⟨g, c, cur, hv, hb, ?_, q⟩
    rw [hg.block g hlt (fun q => hne g (by rw [hv]; rfl) q.symm)]
    exact hc
theorem Ar8.wider {w : World} {base base' : Nat} {v : Value} {vals : List Value} (h : Ar8 w base v vals) (hb : base' ≤ base) : Ar8 w base' v vals := by
  obtain ⟨h1, h2⟩ := h
  refine ⟨h1, ?_⟩
  rcases h2 with h2 | ⟨g, c, cur, hv, hg, r⟩
  · exact Or.inl h2
  · exact Or.inr ⟨g, c, cur, hv, Nat.le_trans hb hg, r⟩
theorem Ar8.nil (w : World) (base : Nat) : Ar8 w base (.slice none 0 0) [] := World.ownsRow_nil _ _ _ _
theorem info_su8 : (Try.prog.info? 22).map (fun i => (i.zero, i.size, i.bytes)) = some (some (.slice none 0 0), 1, 24) := by kernel_rfl
/-- an append of slices -/
theorem run_appA (w : World) {base : Nat} {v : Value} {vals news : List Value} (ho : Ar8 w base v vals) {ad : Addr} {m c : Nat} (hm : news.length = m) (hs : ∀ j u, news[j]? = some u → w.cell? (ad.add j) = some u) (h1 : ∀ u ∈ news, u.oneCell' = true) (hb : vals.length + m ≤ 1000000) (hbase : base ≤ w.heap.size) (ty : TypeId) :
    ∃ v' w', (Builtin.append_ #[32, 32] ty #[v, .slice (some ad) m c]).run Try.prog w = .ok v' w' ∧ Ar8 w' base v' (vals ++ news) ∧ w.grownBy w' v.ownBlock ∧ (v'.ownBlock = v.ownBlock ∨ ∃ g, v'.ownBlock = some g ∧ w.heap.size ≤ g) := by
  obtain ⟨i, hi, hz0, hz1, hz2⟩ := info_parts info_su8
  obtain ⟨v', w', hr, h2, h3, h4, h5⟩ := run_append_keep8 (P := Try.prog) w base 32 ty 22 i (.slice none 0 0) 24 Try.underlying32 hi hz0 hz1 hz2 rfl v vals.length vals ho ad m c news (by rw [hm, Nat.mul_one]) hs h1 (by unfold maxLen; omega) (by omega) hbase
  refine ⟨v', w', hr, ?_, h3, h5⟩
  unfold Ar8
  rw [List.length_append, hm]
  exact h2
theorem wpList_appA {w : World} {ops : Array Oper} {rest : List Oper} {o : Oper} {a : Act} {Q : Exit → Act → World → Prop} (hgd : o.guard = none) (s x : Operand)
    (ho : o.op = .call { callee := .builtin .append, args := #[s, x], argTypes := #[32, 32] }) {base : Nat} {v : Value} {vals news : List Value} (hs : a.eval s = v) (hO : Ar8 w base v vals) {ad : Addr} {m c : Nat} (hx : a.eval x = .slice (some ad) m c) (hm : news.length = m) (hr : ∀ j u, news[j]? = some u → w.cell? (ad.add j) = some u) (h1 : ∀ u ∈ news, u.oneCell' = true) (hb : vals.length + m ≤ 1000000) (hbase : base ≤ w.heap.size)
    (h : ∀ v' w', Ar8 w' base v' (vals ++ news) → w.grownBy w' v.ownBlock → Hid (v'.ownBlock = v.ownBlock ∨ ∃ g, v'.ownBlock = some g ∧ w.heap.size ≤ g) → wpList Try.prog ops Q rest (a.put o.dst v') w') : wpList Try.prog ops Q (o :: rest) a w := by
  obtain ⟨v', w', hrun, h2, h3, h4⟩ := run_appA w hO hm hr h1 hb hbase o.type (c := c)
  exact wpList_append8 hgd s x 32 ho _ _ hs hx hrun (h v' w' h2 h3 h4)
theorem Ar8.below {w0 w w' : World} {base : Nat} {v : Value} {vals : List Value} (h : Ar8 w base v vals) (hB : Below base w0 w) (h0 : base ≤ w0.heap.size) (hg : w.grownBy w' v.ownBlock) : Below base w0 w' :=
  hB.grown hg (Nat.le_trans h0 hB.size) (fun k hk => (h.blk hk).1)
theorem slV_one (g c len : Nat → Nat) (lo n : Nat) : ∀ u ∈ slV g c len lo n, u.oneCell' = true := by
  intro u hu
  unfold slV at hu
  obtain ⟨i, _, rfl⟩ := List.mem_map.1 hu
  rfl
namespace Oc
/-- the marks -/
def mk8 (i : Nat) : UInt8 := UInt8.ofNat (100 + i)
/-- n rows marked, the others as they were -/
def mrk (L : Nat → List UInt8) (n : Nat) : Nat → List UInt8 := fun i => if i < n then List.replicate (L i).length (mk8 i) else L i
theorem mrk_len (L : Nat → List UInt8) (n i : Nat) : (mrk L n i).length = (L i).length := by unfold mrk; split <;> simp
/-- a row half marked -/
def half8 (l : List UInt8) (x : UInt8) (q : Nat) : List UInt8 := List.replicate q x ++ l.drop q
theorem half8_len {l : List UInt8} {x : UInt8} {q : Nat} (h : q ≤ l.length) : (half8 l x q).length = l.length := by unfold half8; simp; omega
theorem half8_set {l : List UInt8} {x : UInt8} {q : Nat} (h : q < l.length) : (half8 l x q).set q x = half8 l x (q + 1) := by
  unfold half8
  rw [List.set_append_right _ _ (by simp), List.length_replicate, Nat.sub_self, List.drop_eq_getElem_cons h, List.set_cons_zero, List.replicate_succ', List.append_assoc]
  rfl
theorem half8_all (l : List UInt8) (x : UInt8) : half8 l x l.length = List.replicate l.length x := by unfold half8; simp
end Oc
end Go.Proofs.Ytchlflmdannhaaa

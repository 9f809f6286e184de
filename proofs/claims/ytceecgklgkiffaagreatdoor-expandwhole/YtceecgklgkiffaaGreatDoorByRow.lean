/- Rows of bytes in memory: reading, writing, appending, as a text. -/
import Derived.Test.YtceecgklgkiffaaGreatDoorBaseA
namespace Go.Proofs.YtceecgklgkiffaaGreatDoor
open Go.ChangeShapes Go.WideShapes Go.ChangeAt Go.RowKit
set_option linter.unusedVariables false
namespace Ep
/-- the numbers of bytes -/
def nz (l : List UInt8) : List Int := l.map fun u => (u.toNat : Int)
theorem nz_len (l : List UInt8) : (nz l).length = l.length := by unfold nz; simp
theorem nz_app (l m : List UInt8) : nz (l ++ m) = nz l ++ nz m := by unfold nz; simp
theorem nz_take (l : List UInt8) (k : Nat) : nz (l.take k) = (nz l).take k := by unfold nz; simp
theorem nz_drop (l : List UInt8) (k : Nat) : nz (l.drop k) = (nz l).drop k := by unfold nz; simp
theorem nz_at (l : List UInt8) (k : Nat) : (nz l).getD k 0 = ((l.getD k 0).toNat : Int) := by
  unfold nz
  rw [List.getD_eq_getElem?_getD, List.getD_eq_getElem?_getD, List.getElem?_map]
  cases l[k]? <;> rfl
theorem nz_bytes (l : List UInt8) : (nz l).map (fun z => UInt8.ofNat z.toNat) = l := by
  unfold nz
  rw [List.map_map]
  conv => rhs; rw [← List.map_id l]
  refine List.map_congr_left fun x _ => ?_
  simp
end Ep
open Ep
/-- a slice of bytes reads so -/
def Rb (w : World) (a : Option Addr) (n c : Nat) (l : List UInt8) : Prop := RowAt .u8 w a n (nz l) ∧ n ≤ c ∧ c ≤ 9223372036854775807
theorem Rb.len {w : World} {a : Option Addr} {n c : Nat} {l : List UInt8} (h : Rb w a n c l) : l.length = n := by rw [← nz_len]; exact h.1.1
theorem Rb.later {w w' : World} {a : Option Addr} {n c : Nat} {l : List UInt8} (h : Rb w a n c l) (hb : Below w.heap.size w w') : Rb w' a n c l := ⟨h.1.later hb, h.2⟩
theorem Rb.nil (w : World) (a : Option Addr) (c : Nat) (hc : c ≤ 9223372036854775807) : Rb w a 0 c [] := ⟨⟨rfl, Or.inl rfl⟩, Nat.zero_le _, hc⟩
theorem Rb.cells {w : World} {a : Option Addr} {n c : Nat} {l : List UInt8} (h : Rb w a n c l) (hn : 0 < n) : ∃ g o, a = some ⟨g, o, none⟩ ∧ g < w.heap.size ∧ ∀ i, i < n → w.cell? ⟨g, o + i, none⟩ = some (.int .u8 ((l.getD i 0).toNat : Int)) := by
  obtain ⟨g, o, h1, h2, h3⟩ := h.1.at hn
  exact ⟨g, o, h1, h2, fun i hi => by rw [← nz_at]; exact h3 i hi⟩
theorem Rb.take {w : World} {a : Option Addr} {n c : Nat} {l : List UInt8} (h : Rb w a n c l) {k c' : Nat} (hk : k ≤ n) (hc : k ≤ c') (hc' : c' ≤ 9223372036854775807) : Rb w a k c' (l.take k) := by
  have hl := h.len
  refine ⟨⟨by rw [nz_len, List.length_take]; omega, ?_⟩, hc, hc'⟩
  by_cases h0 : k = 0
  · exact Or.inl h0
  · obtain ⟨g, o, h1, h2, h3⟩ := h.cells (by omega)
    refine Or.inr ⟨g, o, h1, h2, fun i hi => ?_⟩
    rw [nz_at, h3 i (by omega), List.getD_eq_getElem?_getD, List.getD_eq_getElem?_getD, List.getElem?_take_of_lt hi]
theorem Rb.drop {w : World} {a : Option Addr} {n c : Nat} {l : List UInt8} (h : Rb w a n c l) {k m c' : Nat} {a' : Option Addr} (hk : k ≤ n) (hm : m = n - k) (hc : m ≤ c') (hc' : c' ≤ 9223372036854775807) (ha : 0 < m → ∀ g o, a = some ⟨g, o, none⟩ → a' = some ⟨g, o + k, none⟩) : Rb w a' m c' (l.drop k) := by
  have hl := h.len
  refine ⟨⟨by rw [nz_len, List.length_drop]; omega, ?_⟩, hc, hc'⟩
  by_cases h0 : m = 0
  · exact Or.inl h0
  · obtain ⟨g, o, h1, h2, h3⟩ := h.cells (by omega)
    refine Or.inr ⟨g, o + k, ha (by omega) g o h1, h2, fun i hi => ?_⟩
    rw [nz_at, show o + k + i = o + (k + i) by omega, h3 (k + i) (by omega), List.getD_eq_getElem?_getD, List.getD_eq_getElem?_getD, List.getElem?_drop]
theorem Rb.add {w : World} {a : Addr} {n c : Nat} {l : List UInt8} (h : Rb w (some a) n c l) : ∀ j x, (nz l)[j]? = some x → w.cell? (a.add j) = some (.int .u8 x) := by
  intro j x hj
  have hjl : j < n := by rw [← h.1.1]; exact (List.getElem?_eq_some_iff.1 hj).1
  obtain ⟨g, o, h1, _, h3⟩ := h.1.at (by omega)
  have e : a = ⟨g, o, none⟩ := Option.some.inj h1
  have e2 : (⟨g, o, none⟩ : Addr).add j = ⟨g, o + j, none⟩ := by unfold Addr.add; split <;> simp_all
  rw [e, e2, h3 j hjl, List.getD_eq_getElem?_getD, hj]
  rfl
/-- a slice of bytes in memory that may be written -/
structure Wr (w : World) (base g n : Nat) (l : List UInt8) : Prop where
  lo : base ≤ g
  hi : g < w.heap.size
  len : l.length = n
  cell : ∀ i, i < n → w.cell? ⟨g, i, none⟩ = some (.int .u8 ((l.getD i 0).toNat : Int))
  free : ∀ i, i < n → w.frozen? ⟨g, i, none⟩ = false
theorem Wr.row {w : World} {base g n : Nat} {l : List UInt8} (h : Wr w base g n l) {c : Nat} (hc : n ≤ c) (hc' : c ≤ 9223372036854775807) : Rb w (some ⟨g, 0, none⟩) n c l :=
  ⟨⟨by rw [nz_len]; exact h.len, Or.inr ⟨g, 0, rfl, h.hi, fun i hi => by rw [nz_at, Nat.zero_add]; exact h.cell i hi⟩⟩, hc, hc'⟩
theorem Wr.later {w w' : World} {base g n : Nat} {l : List UInt8} (h : Wr w base g n l) (hb : Below w.heap.size w w') : Wr w' base g n l :=
  ⟨h.lo, Nat.lt_of_lt_of_le h.hi hb.size, h.len, fun i hi => (hb.cell (p := ⟨g, i, none⟩) h.hi).trans (h.cell i hi), fun i hi => (World.frozen?_of_block (a := ⟨g, i, none⟩) (hb.block g h.hi)).trans (h.free i hi)⟩
theorem Wr.rebase {w : World} {base base' g n : Nat} {l : List UInt8} (h : Wr w base g n l) (hb : base' ≤ base) : Wr w base' g n l := ⟨Nat.le_trans hb h.lo, h.hi, h.len, h.cell, h.free⟩
theorem wr_own {w : World} {base g n cap : Nat} {l : List UInt8} (h : Own .u8 w base 5 (.slice (some ⟨g, 0, none⟩) n cap) (nz l)) (hn : n = l.length) : Wr w base g n l := by
  have hn' : n = (nz l).length := by rw [nz_len]; exact hn
  exact ⟨h.base_le, (World.ownsRow.lt h _ rfl).2, hn.symm, fun i hi => by rw [h.cellAt hn' hi, nz_at], fun i _ => h.frozenAt hn' i⟩
theorem Wr.set {w : World} {base g n : Nat} {l : List UInt8} (h : Wr w base g n l) (j : Nat) (x : UInt8) (X : Int) (hX : X = (x.toNat : Int)) (hj : j < n) : Wr (w.setCell ⟨g, j, none⟩ (.int .u8 X)) base g n (l.set j x) ∧ Below base w (w.setCell ⟨g, j, none⟩ (.int .u8 X)) := by
  subst hX
  have hsome : (w.cell? ⟨g, j, none⟩).isSome = true := by rw [h.cell j hj]; rfl
  have hin := World.cell?_setCells_in g [Value.int .u8 (x.toNat : Int)] j w (fun i hi => by
    have : i = 0 := by simpa using hi
    subst this
    simpa using hsome)
  have hout := World.cell?_setCells_out g [Value.int .u8 (x.toNat : Int)] j w
  have e : w.setCells g j [Value.int .u8 (x.toNat : Int)] = w.setCell ⟨g, j, none⟩ (.int .u8 (x.toNat : Int)) := rfl
  rw [e] at hin hout
  refine ⟨⟨h.lo, by simpa using h.hi, by rw [List.length_set]; exact h.len, fun i hi => ?_, fun i hi => ?_⟩, (Below.refl base w).setCell (p := ⟨g, j, none⟩) h.lo _⟩
  · rw [List.getD_eq_getElem?_getD, List.getElem?_set]
    by_cases q : j = i
    · subst q
      have := hin 0 (by simp)
      simp only [Nat.add_zero] at this
      rw [this, if_pos rfl, if_pos (by rw [h.len]; exact hj)]
      rfl
    · rw [hout ⟨g, i, none⟩ (fun _ _ => by simp; omega), h.cell i hi, if_neg q, List.getD_eq_getElem?_getD]
  · have := World.frozen?_setCells g [Value.int .u8 (x.toNat : Int)] j w ⟨g, i, none⟩
    rw [e] at this
    rw [this]
    exact h.free i hi
theorem info8 : (Tryz.prog.info? 5).map (fun i => (i.zero, i.size, i.bytes)) = some (some (.int .u8 0), 1, 1) := by kernel_rfl
theorem size8 : (Tryz.prog.info? 5).map (·.size) = some 1 := by kernel_rfl
theorem wpList_append8 {w : World} {ops : Array Oper} {rest : List Oper} {o : Oper} {a : Act} {Q : Exit → Act → World → Prop} (hgd : o.guard = none) (s x : Operand) (t : TypeId)
    (ho : o.op = .call { callee := .builtin .append, args := #[s, x], argTypes := #[t, t] }) (v u : Value) (hs : a.eval s = v) (hx : a.eval x = u) {v' : Value} {w' : World}
    (hr : (Builtin.append_ #[t, t] o.type #[v, u]).run Tryz.prog w = .ok v' w') (h : wpList Tryz.prog ops Q rest (a.put o.dst v') w') : wpList Tryz.prog ops Q (o :: rest) a w := by
  refine wpList_plain hgd fun K hK => ?_
  unfold Oper.wp execOp
  simp only [ho, resolve, invoke, builtin, Sem.run_bind, Sem.run_pure, Result.andThen_ok, List.map_toArray, List.map_cons, List.map_nil, hs, hx, hr]
  exact hK _ _ h
/-- a slice of bytes as a text -/
theorem conv8 {w : World} {a : Option Addr} {n c : Nat} {l : List UInt8} (h : Rb w a n c l) : (convert 60 9 (.slice a n c)).run Tryz.prog w = .ok (.string ⟨l.toArray⟩) w := by
  have hl := h.len
  cases a with
  | none =>
    by_cases h0 : n = 0
    · have e : l = [] := List.eq_nil_of_length_eq_zero (by omega)
      subst e
      subst h0
      exact run_convert_bytes_nil (P := Tryz.prog) w 60 5 Tryz.underlying60 Tryz.underlying5 0 c 9 Tryz.underlying9
    · obtain ⟨g, o, e, _⟩ := h.cells (by omega)
      cases e
  | some a =>
    have r := run_convert_bytes_back (P := Tryz.prog) w 60 9 5 a c l Tryz.underlying60 Tryz.underlying5 Tryz.underlying9 (fun j hj => by
      refine h.add j _ ?_
      unfold nz
      rw [List.getElem?_map, List.getElem?_eq_getElem hj]
      rfl)
    rw [hl] at r
    exact r
/-- a row of one byte, of two, just laid -/
theorem rb_one (w : World) {X : Int} {x : UInt8} (h : X = (x.toNat : Int)) : Rb (w.alloc (.cells #[.int .u8 X] 5)) (some ⟨w.heap.size, 0, none⟩) 1 1 [x] :=
  ⟨⟨rfl, Or.inr ⟨w.heap.size, 0, rfl, by simp, fun i hi => by
    have : i = 0 := by omega
    subst this
    subst h
    simp [nz]⟩⟩, Nat.le_refl _, by omega⟩
theorem rb_two (w : World) {X Y : Int} {x y : UInt8} (h : X = (x.toNat : Int)) (k : Y = (y.toNat : Int)) : Rb (w.alloc (.cells #[.int .u8 X, .int .u8 Y] 5)) (some ⟨w.heap.size, 0, none⟩) 2 2 [x, y] :=
  ⟨⟨rfl, Or.inr ⟨w.heap.size, 0, rfl, by simp, fun i hi => by
    subst h
    subst k
    rcases (by omega : i = 0 ∨ i = 1) with rfl | rfl <;> simp [nz]⟩⟩, Nat.le_refl _, by omega⟩
/-- a slice that the call has made -/
def Ob (w : World) (base : Nat) (v : Value) (l : List UInt8) : Prop := Own .u8 w base 5 v (nz l)
theorem Ob.nil (w : World) (base : Nat) : Ob w base (.slice none 0 0) [] := own_nil _ _ _ _
theorem Ob.later {w w' : World} {base : Nat} {v : Value} {l : List UInt8} (h : Ob w base v l) (hb : Below w.heap.size w w') : Ob w' base v l := Own.later h hb
theorem Ob.alloc {w : World} {base : Nat} {v : Value} {l : List UInt8} (h : Ob w base v l) (o : Obj) : Ob (w.alloc o) base v l := h.later (alloc_below _)
theorem Ob.wider {w : World} {base base' : Nat} {v : Value} {l : List UInt8} (h : Ob w base v l) (hb : base' ≤ base) : Ob w base' v l := Own.wider h hb
theorem Ob.row {w : World} {base : Nat} {v : Value} {l : List UInt8} (h : Ob w base v l) : ∃ a c, v = .slice a l.length c ∧ Rb w a l.length c l := by
  obtain ⟨a, c, rfl, h1, h2, h3⟩ := Own.reads h
  rw [nz_len] at *
  exact ⟨a, c, rfl, h3, h1, by unfold maxLen at h2; omega⟩
theorem Ob.rb {w : World} {base : Nat} {a : Option Addr} {n c : Nat} {l : List UInt8} (h : Ob w base (.slice a n c) l) : Rb w a n c l := by
  obtain ⟨a', c', e, hr⟩ := h.row
  simp only [Value.slice.injEq] at e
  obtain ⟨rfl, rfl, rfl⟩ := e
  exact hr
/-- an append: what the elder slice reads stays -/
theorem run_append_keep8 {P : Program} (w : World) (base : Nat) (t ty e : TypeId) (i : TypeInfo) (z : Value) (bytes : Nat) (ht : P.underlying t = some (.slice e)) (hi : P.info? e = some i) (hz : i.zero = some z)
    (hsize : i.size = 1) (hby : i.bytes = bytes) (hzs : z.cells.size = 1)
    (v : Value) (n : Nat) (xs : List Value) (hown : w.ownsRow base e 1 v n xs)
    (a : Addr) (m c : Nat) (news : List Value) (hl : news.length = m * 1) (hnews : ∀ j u, news[j]? = some u → w.cell? (a.add j) = some u) (h1 : ∀ u ∈ news, u.oneCell' = true)
    (h63 : n + m ≤ maxLen) (hbytes : (n + m) * bytes ≤ 140737488355328) (hbase : base ≤ w.heap.size) :
    ∃ v' w', (Builtin.append_ #[t, t] ty #[v, .slice (some a) m c]).run P w = .ok v' w' ∧ w'.ownsRow base e 1 v' (n + m) (xs ++ news) ∧ w.grownBy w' v.ownBlock ∧ w'.ownsRow base e 1 v n xs ∧ (v'.ownBlock = v.ownBlock ∨ ∃ g, v'.ownBlock = some g ∧ w.heap.size ≤ g) := by
  obtain ⟨v', w', hr, h2, h3, h4⟩ := run_append_own (P := P) w base t ty e i z 1 bytes ht hi hz hsize hby hzs (by omega) v n xs hown a m c news hl hnews h1 h63 hbytes hbase
  refine ⟨v', w', hr, h2, h3, ?_⟩
  subst hby
  have hsmall : n + m ≤ 9223372036854775807 := by simp only [maxLen] at h63; omega
  rcases hown.2 with ⟨rfl, rfl⟩ | ⟨g, cap, cur, rfl, hbg, hg, hnc, hcm, hcs, htake⟩
  · have hx : xs = [] := List.eq_nil_of_length_eq_zero (by simpa using hown.1)
    subst hx
    refine ⟨World.ownsRow_nil _ _ _ _, ?_⟩
    by_cases hm : m = 0
    · left
      have := h4.mpr ⟨rfl, hm⟩
      rw [this]
    · right
      have hr2 := run_append_nil (P := P) w t ty e i z ht hi hz a m c news (by rw [hsize]; exact hl) hnews (by omega) (by omega) (by have hb := hbytes; simp only [Nat.zero_add] at hb; omega)
      rw [hr2] at hr
      simp only [Result.ok.injEq] at hr
      obtain ⟨rfl, _⟩ := hr
      exact ⟨w.heap.size, rfl, Nat.le_refl _⟩
  · have hlen : (xs ++ news).length = (n + m) * 1 := by rw [List.length_append, hown.1, hl, Nat.add_mul]
    by_cases hroom : n + m ≤ cap
    · have hfit : n * i.size + news.length ≤ cur.size := by rw [hsize, hl, hcs]; omega
      have hr2 := run_append_room (P := P) w t ty e i ht hi g n cap cur hg a m c news (by rw [hsize]; exact hl) hnews h1 hroom hfit
      rw [hr2] at hr
      simp only [Result.ok.injEq] at hr
      obtain ⟨rfl, rfl⟩ := hr
      refine ⟨⟨hown.1, Or.inr ⟨g, cap, _, rfl, hbg, setRow_heap w g cur _ e _ hg, hnc, hcm, ?_, ?_⟩⟩, Or.inl rfl⟩
      · simp only [List.size_toArray, List.length_append, List.length_take, List.length_drop, Array.length_toList, hsize]
        omega
      · simp only [hsize, Nat.mul_one] at *
        rw [List.append_assoc, List.take_append_of_le_length (by rw [List.length_take, Array.length_toList]; omega), List.take_take, Nat.min_self]
        exact htake
    · have holds : ∀ j u, xs[j]? = some u → w.cell? ((⟨g, 0, none⟩ : Addr).add j) = some u := hown.cells (g := g) rfl
      have hr2 := run_append_grow (P := P) w t ty e i z ht hi hz ⟨g, 0, none⟩ n cap xs (by rw [hsize]; exact hown.1) holds a m c news (by rw [hsize]; exact hl) hnews (by omega) (by omega) (growslice_fits (by omega) hbytes)
      rw [hr2] at hr
      simp only [Result.ok.injEq] at hr
      obtain ⟨rfl, rfl⟩ := hr
      have hlt : g < w.heap.size := by
        by_cases hlt : g < w.heap.size
        · exact hlt
        · simp [Array.getElem?_eq_none (Nat.le_of_not_lt hlt)] at hg
      refine ⟨⟨hown.1, Or.inr ⟨g, cap, cur, rfl, hbg, ?_, hnc, hcm, hcs, htake⟩⟩, Or.inr ⟨w.heap.size, rfl, Nat.le_refl _⟩⟩
      rw [heap_alloc_old w.drew _ (r := g) hlt]
      exact hg
/-- an append of bytes, none perhaps -/
theorem run_app8 (w : World) {base : Nat} {v : Value} {l s : List UInt8} (ho : Ob w base v l) {a : Option Addr} {m c : Nat} (hs : Rb w a m c s) (hb : l.length + m ≤ 140737488355328) (hbase : base ≤ w.heap.size) (ty : TypeId) :
    ∃ v' w', (Builtin.append_ #[60, 60] ty #[v, .slice a m c]).run Tryz.prog w = .ok v' w' ∧ Ob w' base v' (l ++ s) ∧ w.grownBy w' v.ownBlock ∧ Ob w' base v l ∧ (v'.ownBlock = v.ownBlock ∨ ∃ g, v'.ownBlock = some g ∧ w.heap.size ≤ g) := by
  obtain ⟨i, hi, hz0, hz1, hz2⟩ := info_parts info8
  have hsl := hs.len
  by_cases hm : 0 < m
  · obtain ⟨b, off, rfl, hbB, hc⟩ := hs.cells hm
    obtain ⟨v', w', hr, h2, h3, h4, h5⟩ := run_append_keep8 (P := Tryz.prog) w base 60 ty 5 i (.int .u8 0) 1 Tryz.underlying60 hi hz0 hz1 hz2 rfl v (nz l).length ((nz l).map (Value.int .u8)) ho ⟨b, off, none⟩ m c ((nz s).map (Value.int .u8)) (by rw [List.length_map, nz_len, hsl, Nat.mul_one])
      (fun j u hj => by
        rw [List.getElem?_map] at hj
        obtain ⟨x, hx, rfl⟩ := Option.map_eq_some_iff.1 hj
        exact hs.add j x hx)
      (fun u hu => by obtain ⟨x, _, rfl⟩ := List.mem_map.1 hu; rfl) (by rw [nz_len]; unfold maxLen; omega) (by rw [nz_len]; omega) hbase
    refine ⟨v', w', hr, ?_, h3, h4, h5⟩
    unfold Ob Own
    rw [nz_app, List.map_append, List.length_append, nz_len s, hsl]
    exact h2
  · have hm0 : m = 0 := by omega
    subst hm0
    have he : s = [] := List.eq_nil_of_length_eq_zero hsl
    subst he
    refine ⟨v, w, ?_, by rw [List.append_nil]; exact ho, ⟨rfl, rfl, rfl, Nat.le_refl _, fun _ _ _ => rfl⟩, ho, Or.inl rfl⟩
    rcases ho.2 with ⟨rfl, _⟩ | ⟨g, cap, cur, rfl, hbg, hg, hnc, hcm, hcs, htake⟩
    · cases a <;> simp [Builtin.append_, run_underlying Tryz.underlying60, Result.andThen, sizeOf, typeInfo, hi, hz1, Builtin.lenOf, Builtin.firstCells, loadCells, loadCellsFrom]
    · cases a <;> simp [Builtin.append_, run_underlying Tryz.underlying60, Result.andThen, hnc, sizeOf, typeInfo, hi, hz1, Builtin.lenOf, Builtin.firstCells, loadCells, loadCellsFrom, storeCells]
/-- what an append leaves of the elder slice, and where the new one lies -/
def Kept8 (w w' : World) (base : Nat) (v v' : Value) (l : List UInt8) : Prop := Ob w' base v l ∧ (v'.ownBlock = v.ownBlock ∨ ∃ g, v'.ownBlock = some g ∧ w.heap.size ≤ g)
theorem wpList_app8 {w : World} {ops : Array Oper} {rest : List Oper} {o : Oper} {a : Act} {Q : Exit → Act → World → Prop} (hgd : o.guard = none) (s x : Operand)
    (ho : o.op = .call { callee := .builtin .append, args := #[s, x], argTypes := #[60, 60] }) {base : Nat} {v : Value} {l r : List UInt8} (hs : a.eval s = v) (hO : Ob w base v l) {ad : Option Addr} {m c : Nat} (hx : a.eval x = .slice ad m c) (hr : Rb w ad m c r) (hb : l.length + m ≤ 140737488355328) (hbase : base ≤ w.heap.size)
    (h : ∀ v' w', Ob w' base v' (l ++ r) → w.grownBy w' v.ownBlock → Kept8 w w' base v v' l → wpList Tryz.prog ops Q rest (a.put o.dst v') w') : wpList Tryz.prog ops Q (o :: rest) a w := by
  obtain ⟨v', w', hrun, h1, h2, h3⟩ := run_app8 w hO hr hb hbase o.type
  exact wpList_append8 hgd s x 60 ho _ _ hs hx hrun (h v' w' h1 h2 h3)
theorem step_app8 {w : World} {ops : Array Oper} {o : Oper} {a : Act} {K : Act → World → Prop} {Q : Exit → Act → World → Prop} {E : Prop} (hgd : o.guard = none) (s x : Operand)
    (ho : o.op = .call { callee := .builtin .append, args := #[s, x], argTypes := #[60, 60] }) {base : Nat} {v : Value} {l r : List UInt8} (hs : a.eval s = v) (hO : Ob w base v l) {ad : Option Addr} {m c : Nat} (hx : a.eval x = .slice ad m c) (hr : Rb w ad m c r) (hb : l.length + m ≤ 140737488355328) (hbase : base ≤ w.heap.size)
    (h : ∀ v' w', Ob w' base v' (l ++ r) → w.grownBy w' v.ownBlock → Kept8 w w' base v v' l → K (a.put o.dst v') w') : if Region.wanted o (yielded ops a.tmps) = true then Oper.wp Tryz.prog o a w K Q else E := by
  obtain ⟨v', w', hrun, h1, h2, h3⟩ := run_app8 w hO hr hb hbase o.type
  have hw : Region.wanted o (yielded ops a.tmps) = true := by simp [Region.wanted, hgd]
  rw [if_pos hw]
  unfold Oper.wp execOp
  simp only [ho, resolve, invoke, builtin, Sem.run_bind, Sem.run_pure, Result.andThen_ok, List.map_toArray, List.map_cons, List.map_nil, hs, hx, hrun]
  exact h v' w' h1 h2 h3
theorem Ob.blk {w : World} {base : Nat} {v : Value} {l : List UInt8} (h : Ob w base v l) {g : Nat} (hg : v.ownBlock = some g) : base ≤ g ∧ g < w.heap.size := by
  rcases h.2 with ⟨hv, _⟩ | ⟨g', cap, cur, hv, hb, hc, _⟩
  · rw [hv] at hg; simp [Value.ownBlock] at hg
  · rw [hv] at hg
    simp only [Value.ownBlock, Option.some.injEq] at hg
    subst hg
    refine ⟨hb, ?_⟩
    by_cases hlt : g' < w.heap.size
    · exact hlt
    · simp [Array.getElem?_eq_none (Nat.le_of_not_lt hlt)] at hc
/-- behind an append nothing below the base has turned -/
theorem Ob.below {w0 w w' : World} {base : Nat} {v : Value} {l : List UInt8} (h : Ob w base v l) (hB : Below base w0 w) (h0 : base ≤ w0.heap.size) (hg : w.grownBy w' v.ownBlock) : Below base w0 w' :=
  hB.grown hg (Nat.le_trans h0 hB.size) (fun k hk => (h.blk hk).1)
/-- a row in a block that has not turned -/
theorem Ob.keep {w w' : World} {base : Nat} {v : Value} {l : List UInt8} (h : Ob w base v l) {r : Option Nat} (hg : w.grownBy w' r) (hne : ∀ g, v.ownBlock = some g → r ≠ some g) : Ob w' base v l := by
  obtain ⟨h1, h2⟩ := h
  refine ⟨h1, ?_⟩
  rcases h2 with h2 | ⟨g, c, cur, hv, hb, hc, q⟩
  · exact Or.inl h2
  · have hlt : g < w.heap.size := by
      by_cases hlt : g < w.heap.size
      · exact hlt
      · simp [Array.getElem?_eq_none (Nat.le_of_not_lt hlt)] at hc
    refine Or.inr ⟨g, c, cur, hv, hb, ?_, q⟩
    rw [hg.block g hlt (fun q => hne g (by rw [hv]; rfl) q.symm)]
    exact hc
/-- a make with spare room -/
theorem run_make8 (w : World) {n c : Nat} (hn : n ≤ c) (hc : c ≤ 281474976710656) :
    ∃ w', (Instr.makeSlice 60 (.int .i64 (n : Int)) (.int .i64 (c : Int))).run Tryz.prog w = .ok (.slice (some ⟨w.heap.size, 0, none⟩) n c) w' ∧ Ob w' w.heap.size (.slice (some ⟨w.heap.size, 0, none⟩) n c) (List.replicate n 0) ∧ Below w.heap.size w w' := by
  obtain ⟨i, hi, hz0, hz1, hz2⟩ := info_parts info8
  have hr := run_make (P := Tryz.prog) w 60 5 i (.int .u8 0) Tryz.underlying60 hi hz0 .i64 .i64 (n : Int) (c : Int) (by omega) (by omega) (by rw [hz2]; omega) (by omega)
  simp only [Int.toNat_natCast, hz1, Nat.mul_one] at hr
  refine ⟨_, hr, ?_, alloc_below _⟩
  have e2 : nz (List.replicate n 0) = List.replicate n (0 : Int) := by unfold nz; rw [List.map_replicate]; rfl
  unfold Ob
  rw [e2]
  refine ⟨by simp, Or.inr ⟨w.heap.size, c, _, by simp, Nat.le_refl _, heap_alloc_new _ _, by simpa using hn, by unfold maxLen; omega, by rw [size_madeCells, Nat.mul_one], ?_⟩⟩
  have e1 : (madeCells (Value.int .u8 0).cells c).toList = List.replicate c (.int .u8 0) := toList_madeCells_one _ _
  rw [e1, List.take_replicate]
  simp
  omega
theorem wpList_make8 {w : World} {ops : Array Oper} {rest : List Oper} {o : Oper} {a : Act} {Q : Exit → Act → World → Prop} (hg : o.guard = none) (l c : Operand) (hop : o.op = Op.makeSlice 60 l c) {n k : Nat} {N K : Int} (hl : a.eval l = .int .i64 N) (hc : a.eval c = .int .i64 K) (hN : N = (n : Int)) (hK : K = (k : Int)) (hn : n ≤ k) (hk : k ≤ 281474976710656)
    (h : ∀ w', Ob w' w.heap.size (.slice (some ⟨w.heap.size, 0, none⟩) n k) (List.replicate n 0) → Below w.heap.size w w' → wpList Tryz.prog ops Q rest (a.put o.dst (.slice (some ⟨w.heap.size, 0, none⟩) n k)) w') : wpList Tryz.prog ops Q (o :: rest) a w := by
  refine wpList_plain hg fun K' hK' => ?_
  obtain ⟨w', hrun, r1, r2⟩ := run_make8 w hn hk
  subst hK
  subst hN
  unfold Oper.wp
  simp [execOp, hop, hl, hc, hrun, Result.andThen]
  exact hK' _ _ (h w' r1 r2)
end Go.Proofs.YtceecgklgkiffaaGreatDoor

/- Layer 18: what stays while rows of tokens are written over. -/
import Derived.Test.YtfgpjplfplbcdaaGreatDoorTkFb
import Derived.Deep.MidRow
namespace Go.Proofs.YtfgpjplfplbcdaaGreatDoor
open Go.ChangeShapes Go.WideShapes Go.ChangeAt Go.RowKit
open Lx Tk
set_option linter.unusedVariables false
set_option linter.unusedSimpArgs false
namespace Tk
/-- a token with a kind alone -/
def ctK (k : Int) : Ct := ⟨k, 0, 0, [], nmZ0⟩
/-- an append of tokens: what the elder slice reads stays -/
theorem run_append_keep9 {P : Program} (w : World) (base : Nat) (t ty e : TypeId) (i : TypeInfo) (z : Value) (sz bytes : Nat) (hs0 : 0 < sz) (ht : P.underlying t = some (.slice e)) (hi : P.info? e = some i) (hz : i.zero = some z)
    (hsize : i.size = sz) (hby : i.bytes = bytes) (hzs : z.cells.size = sz)
    (v : Value) (n : Nat) (xs : List Value) (hown : w.ownsRow base e sz v n xs)
    (a : Addr) (m c : Nat) (news : List Value) (hl : news.length = m * sz) (hnews : ∀ j u, news[j]? = some u → w.cell? (a.add j) = some u) (h1 : ∀ u ∈ news, u.oneCell' = true)
    (h63 : n + m ≤ maxLen) (hbytes : (n + m) * bytes ≤ 140737488355328) (hbase : base ≤ w.heap.size) :
    ∃ v' w', (Builtin.append_ #[t, t] ty #[v, .slice (some a) m c]).run P w = .ok v' w' ∧ w'.ownsRow base e sz v' (n + m) (xs ++ news) ∧ w.grownBy w' v.ownBlock ∧ w'.ownsRow base e sz v n xs ∧ (v'.ownBlock = v.ownBlock ∨ ∃ g, v'.ownBlock = some g ∧ w.heap.size ≤ g) := by
  obtain ⟨v', w', hr, h2, h3, h4⟩ := run_append_own (P := P) w base t ty e i z sz bytes ht hi hz hsize hby hzs hs0 v n xs hown a m c news hl hnews h1 h63 hbytes hbase
  refine ⟨v', w', hr, h2, h3, ?_⟩
  subst hby
  have hsmall : n + m ≤ 9223372036854775807 := by simp only [maxLen] at h63; omega
  rcases hown.2 with ⟨rfl, rfl⟩ | ⟨g, cap, cur, rfl, hbg, hg, hnc, hcm, hcs, htake⟩
  · have hx : xs = [] := List.eq_nil_of_length_eq_zero (by simpa using hown.1)
    subst hx
    refine ⟨World.ownsRow_nil _ _ _ _, ?_⟩
    by_cases hm : m = 0
    · left
      have := h4.mpr ⟨rfl, hm⟩
      rw [this]
    · right
      have hr2 := run_append_nil (P := P) w t ty e i z ht hi hz a m c news (by rw [hsize]; exact hl) hnews (by omega) (by omega) (by have hb := hbytes; simp only [Nat.zero_add] at hb; omega)
      rw [hr2] at hr
      simp only [Result.ok.injEq] at hr
      obtain ⟨rfl, _⟩ := hr
      exact ⟨w.heap.size, rfl, Nat.le_refl _⟩
  · have hlen : (xs ++ news).length = (n + m) * sz := by rw [List.length_append, hown.1, hl, Nat.add_mul]
    by_cases hroom : n + m ≤ cap
    · have hmul : (n + m) * sz ≤ cap * sz := Nat.mul_le_mul_right _ hroom
      have hmul2 : n * sz ≤ cap * sz := Nat.mul_le_mul_right _ hnc
      rw [Nat.add_mul] at hmul
      have hfit : n * i.size + news.length ≤ cur.size := by rw [hsize, hl, hcs]; omega
      have hr2 := run_append_room (P := P) w t ty e i ht hi g n cap cur hg a m c news (by rw [hsize]; exact hl) hnews h1 hroom hfit
      rw [hr2] at hr
      simp only [Result.ok.injEq] at hr
      obtain ⟨rfl, rfl⟩ := hr
      refine ⟨⟨hown.1, Or.inr ⟨g, cap, _, rfl, hbg, setRow_heap w g cur _ e _ hg, hnc, hcm, ?_, ?_⟩⟩, Or.inl rfl⟩
      · simp only [List.size_toArray, List.length_append, List.length_take, List.length_drop, Array.length_toList, hsize]
        omega
      · simp only [hsize] at *
        rw [List.append_assoc, List.take_append_of_le_length (by rw [List.length_take, Array.length_toList]; omega), List.take_take, Nat.min_self]
        exact htake
    · have holds : ∀ j u, xs[j]? = some u → w.cell? ((⟨g, 0, none⟩ : Addr).add j) = some u := hown.cells (g := g) rfl
      have hr2 := run_append_grow (P := P) w t ty e i z ht hi hz ⟨g, 0, none⟩ n cap xs (by rw [hsize]; exact hown.1) holds a m c news (by rw [hsize]; exact hl) hnews (by omega) (by omega) (growslice_fits (by omega) hbytes)
      rw [hr2] at hr
      simp only [Result.ok.injEq] at hr
      obtain ⟨rfl, rfl⟩ := hr
      have hlt : g < w.heap.size := by
        by_cases hlt : g < w.heap.size
        · exact hlt
        · simp [Array.getElem?_eq_none (Nat.le_of_not_lt hlt)] at hg
      refine ⟨⟨hown.1, Or.inr ⟨g, cap, cur, rfl, hbg, ?_, hnc, hcm, hcs, htake⟩⟩, Or.inr ⟨w.heap.size, rfl, Nat.le_refl _⟩⟩
      rw [heap_alloc_old w.drew _ (r := g) hlt]
      exact hg
end Tk
/-- one list behind another: what the elder one reads stays -/
theorem wpList_appK {w : World} {ops : Array Oper} {rest : List Oper} {o : Oper} {a : Act} {Q : Exit → Act → World → Prop} (hgd : o.guard = none) (s x : Operand)
    (ho : o.op = .call { callee := .builtin .append, args := #[s, x], argTypes := #[24, 24] }) {base b2 : Nat} {v u : Value} {l m : List Ct} (hs : a.eval s = v) (hO : TkR w base v l) (hx : a.eval x = u) (hM : TkR w b2 u m) (hm : m ≠ []) (hb : l.length + m.length ≤ 1000000000) (hbase : base ≤ w.heap.size)
    (h : ∀ v' w', TkR w' base v' (l ++ m) → w.grownBy w' v.ownBlock → TkR w' base v l → (v'.ownBlock = v.ownBlock ∨ ∃ g, v'.ownBlock = some g ∧ w.heap.size ≤ g) → wpList Tryz.prog ops Q rest (a.put o.dst v') w') : wpList Tryz.prog ops Q (o :: rest) a w := by
  obtain ⟨i, hi, hz0, hz1, hz2⟩ := info_parts18 info_tk18
  rcases hM.2 with ⟨rfl, h0⟩ | ⟨g, cap, cur, rfl, hg1, hg2, hg3, hg4, hg5, hg6⟩
  · exact absurd (List.eq_nil_of_length_eq_zero h0) hm
  · obtain ⟨v', w', hr, r1, r2, r3, r4⟩ := run_append_keep9 (P := Tryz.prog) w base 24 o.type 32 i (.agg zero9) 9 96 (by omega) Tryz.underlying24 hi hz0 hz1 hz2 rfl v l.length (tkcs l) hO ⟨g, 0, none⟩ m.length cap (tkcs m) (tkcs_len m) (World.ownsRow.cells hM (g := g) rfl) (tkcs_one m) (by unfold maxLen; omega) (by omega) hbase
    refine wpList_append18 hgd s x 24 ho v _ hs hx hr (h v' w' ?_ r2 r3 r4)
    unfold TkR
    rw [List.length_append, tkcs_app]
    exact r1
namespace Tk
theorem ErrIs.later18 {w w' : World} {er : Value} {c p : Int} (h : ErrIs w er c p) (hb : Below w.heap.size w w') : ErrIs w' er c p := by
  rcases h with h | ⟨h1, g, h2, h3⟩
  · exact Or.inl h
  · exact Or.inr ⟨h1, g, h2, h3.later hb⟩
theorem ErrIs.tn18 {w w' : World} {er : Value} {c p : Int} {x : Nat} (h : ErrIs w er c p) (hT : Tn x w w') {n : Int} (hx : w.cell? ⟨x, 1, none⟩ = some (.int .i64 n)) : ErrIs w' er c p := by
  rcases h with h | ⟨h1, g, h2, h3⟩
  · exact Or.inl h
  · refine Or.inr ⟨h1, g, h2, h3.tn hT fun e => ?_⟩
    subst e
    have := h3.2
    rw [hx] at this
    cases this
theorem RdS.one {w : World} {g k : Nat} {s : ByteArray} (h : RdS w g s k) : ∃ n, w.cell? ⟨g, 1, none⟩ = some (.int .i64 n) := by
  obtain ⟨h0, b1, b2, b3, b5, b8, b6, b4, b7, b9, F, h1, h2, h3⟩ := h
  exact ⟨b1, h2.cell 1 rfl⟩
theorem RdS.type {w : World} {g k : Nat} {s : ByteArray} (h : RdS w g s k) : ∃ vs, w.heap[g]? = some (.cells vs 54 (0, 0)) := by
  obtain ⟨h0, b1, b2, b3, b5, b8, b6, b4, b7, b9, F, h1, h2, h3⟩ := h
  exact ⟨_, h2⟩
theorem tn_setCells (g : Nat) : ∀ (vs : List Value) (o : Nat) {w w' : World}, Tn g w w' → Tn g w (w'.setCells g o vs)
  | [], _, _, _, h => h
  | v :: r, o, _, _, h => tn_setCells g r (o + 1) (h.set o v)
theorem tn_grown {g : Nat} {w w' : World} (h : Tn g w w') : w.grownBy w' (some g) := ⟨h.os, h.tape, h.output, h.size, fun k hk hne => h.block k hk (fun e => hne (by rw [e]))⟩
theorem TkR.there {w : World} {base g n cap : Nat} {l : List Ct} (h : TkR w base (.slice (some ⟨g, 0, none⟩) n cap) l) {i : Nat} (hi : i < l.length) : w.there g (i * 9) 9 := by
  rcases h.2 with ⟨h0, _⟩ | ⟨g', cap', cur, e, hb, hc, h1, h2, h3, h4⟩
  · cases h0
  · simp only [Value.slice.injEq, Option.some.injEq, Addr.mk.injEq] at e
    obtain ⟨⟨rfl, _, _⟩, rfl, rfl⟩ := e
    have hB : Bk w g 32 cur := hc
    intro j hj
    have hsz : i * 9 + j < cur.size := by omega
    refine ⟨?_, hB.frozen _⟩
    rw [hB.cell (i * 9 + j) (Array.getElem?_eq_getElem hsz)]
    rfl
theorem TkR.setM {w : World} {base g n cap : Nat} {l : List Ct} (h : TkR w base (.slice (some ⟨g, 0, none⟩) n cap) l) {i : Nat} (hi : i < l.length) (c : Ct) :
    TkR (w.setCells g (i * 9) (tkc c)) base (.slice (some ⟨g, 0, none⟩) n cap) (l.set i c) := h.set hi c
/-- what stays: two readers, rows of tokens, errors -/
structure FrS (w wr : World) (gx gy : Nat) (s t : ByteArray) (k : Nat) (R : List (Value × List Ct)) (E : List (Value × Int × Int)) : Prop where
  bel : Below w.heap.size w wr
  ord : w.heap.size ≤ gx ∧ w.heap.size ≤ gy ∧ gx ≠ gy
  x : RdS wr gx s k
  y : ∃ k2, RdS wr gy t k2
  rows : ∀ q ∈ R, TkR wr w.heap.size q.1 q.2
  errs : ∀ q ∈ E, ErrIs wr q.1 q.2.1 q.2.2
theorem FrS.later {w wr w' : World} {gx gy k : Nat} {s t : ByteArray} {R : List (Value × List Ct)} {E : List (Value × Int × Int)} (h : FrS w wr gx gy s t k R E) (hb : Below wr.heap.size wr w') : FrS w w' gx gy s t k R E := by
  obtain ⟨a1, a2, a3, ⟨k2, a4⟩, a5, a6⟩ := h
  exact ⟨a1.trans (hb.mono a1.size), a2, a3.later hb, ⟨k2, a4.later hb⟩, fun q hq => (a5 q hq).later hb, fun q hq => ErrIs.later18 (a6 q hq) hb⟩
theorem TkR.tn18 {w w' : World} {base x : Nat} {v : Value} {l : List Ct} (h : TkR w base v l) (hT : Tn x w w') (hx : v.ownBlock ≠ some x) : TkR w' base v l :=
  h.keep fun g hg => hT.block g (World.ownsRow.lt h g hg).2 (fun e => hx (by rw [hg, e]))
theorem FrS.tnY {w wr w' : World} {gx gy k : Nat} {s t : ByteArray} {R : List (Value × List Ct)} {E : List (Value × Int × Int)} (h : FrS w wr gx gy s t k R E) (hy : ∃ k2, RdS w' gy t k2) (hT : Tn gy wr w') : FrS w w' gx gy s t k R E := by
  obtain ⟨a1, a2, a3, ⟨k2, a4⟩, a5, a6⟩ := h
  obtain ⟨vs, hv⟩ := a4.type
  obtain ⟨n, hn⟩ := a4.one
  refine ⟨Tn.below a1 hT a2.2.1 (Nat.le_refl _), a2, a3.tn hT a2.2.2 (fun q hq => by rw [hv] at hq; cases hq), hy, fun q hq => (a5 q hq).tn18 hT (fun e => ?_), fun q hq => ErrIs.tn18 (a6 q hq) hT hn⟩
  obtain ⟨cur, hc⟩ := (a5 q hq).type e
  rw [hv] at hc
  cases hc
theorem FrS.tnX {w wr w' : World} {gx gy k k' : Nat} {s t : ByteArray} {R : List (Value × List Ct)} {E : List (Value × Int × Int)} (h : FrS w wr gx gy s t k R E) (hx : RdS w' gx s k') (hT : Tn gx wr w') : FrS w w' gx gy s t k' R E := by
  obtain ⟨a1, a2, a3, ⟨k2, a4⟩, a5, a6⟩ := h
  obtain ⟨vs, hv⟩ := a3.type
  obtain ⟨n, hn⟩ := a3.one
  refine ⟨Tn.below a1 hT a2.1 (Nat.le_refl _), a2, hx, ⟨k2, a4.tn hT (fun e => a2.2.2 e.symm) (fun q hq => by rw [hv] at hq; cases hq)⟩, fun q hq => (a5 q hq).tn18 hT (fun e => ?_), fun q hq => ErrIs.tn18 (a6 q hq) hT hn⟩
  obtain ⟨cur, hc⟩ := (a5 q hq).type e
  rw [hv] at hc
  cases hc
/-- a row of its own is written: the others stay -/
theorem FrS.row {w wr w' : World} {gx gy k : Nat} {s t : ByteArray} {R R' : List (Value × List Ct)} {E : List (Value × Int × Int)} (h : FrS w wr gx gy s t k R E) {v : Value} {m : List Ct} (hv : TkR wr w.heap.size v m) (hg : wr.grownBy w' v.ownBlock) (hE : v.ownBlock = none ∨ ∀ q ∈ E, q.2.1 = 0)
    (hR : ∀ q ∈ R', (q ∈ R ∧ (∀ b, v.ownBlock = some b → q.1.ownBlock ≠ some b)) ∨ TkR w' w.heap.size q.1 q.2) : FrS w w' gx gy s t k R' E := by
  cases ho : v.ownBlock with
  | none =>
    rw [ho] at hg
    have h2 := h.later (grown_below hg)
    refine ⟨h2.bel, h2.ord, h2.x, h2.y, fun q hq => ?_, h2.errs⟩
    rcases hR q hq with ⟨h3, _⟩ | h3
    · exact h2.rows q h3
    · exact h3
  | some b =>
    rw [ho] at hg
    obtain ⟨a1, a2, a3, ⟨k2, a4⟩, a5, a6⟩ := h
    have hT := grown_tn hg
    obtain ⟨cur, hc⟩ := hv.type ho
    have hlt := World.ownsRow.lt hv b ho
    have tx : ∀ {g k : Nat} {s : ByteArray}, RdS wr g s k → RdS w' g s k := fun {g k s} hr => by
      obtain ⟨vs, hvs⟩ := hr.type
      refine hr.tn hT (fun e => ?_) (fun q hq => by rw [hc] at hq; cases hq)
      subst e
      rw [hc] at hvs
      cases hvs
    refine ⟨Tn.below a1 hT hlt.1 (Nat.le_refl _), a2, tx a3, ⟨k2, tx a4⟩, fun q hq => ?_, fun q hq => ?_⟩
    · rcases hR q hq with ⟨h3, h4⟩ | h3
      · exact (a5 q h3).tn18 hT (h4 b ho)
      · exact h3
    · rcases hE with hE | hE
      · rw [ho] at hE; cases hE
      · rcases a6 q hq with h3 | ⟨h3, _⟩
        · exact Or.inl h3
        · exact absurd (hE q hq) h3
end Tk
/-- All by one answer; where there is an error, no row is there -/
theorem all18_own (s : ByteArray) (hs : s.size ≤ 1000000000) {l : List Ct} {e : Option Nat} (hl : Toks 0 s.data.toList l e) (w : World) :
    Calls Tryz.prog 8 #[.string s] w fun en w' => ∃ v er, en = .returned (.tuple #[v, er]) ∧ TkR w' w.heap.size v (alL l e) ∧ ErrIs w' er (alC e) (alP e) ∧ (v.ownBlock = none ∨ alC e = 0) ∧ Below w.heap.size w w' := by
  refine (all18_any s hs hl w).mono ?_
  cases e with
  | none =>
    rintro en w' ⟨v, rfl, h1, h2⟩
    exact ⟨v, _, rfl, h1, Or.inl ⟨rfl, rfl⟩, Or.inr rfl, h2⟩
  | some p =>
    rintro en w' ⟨er, rfl, h1, h2⟩
    exact ⟨_, er, rfl, TkR.nil _ _, h1, Or.inl rfl, h2⟩
end Go.Proofs.YtfgpjplfplbcdaaGreatDoor

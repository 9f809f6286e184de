/- Layer 17: rows of the call's own in which no byte lies. -/
import Derived.Test.YtinagjljebbceaaDoorWkA
import Derived.Test.YtinagjljebbceaaDoorWkRow
namespace Go.Proofs.YtinagjljebbceaaDoor
open Go.ChangeShapes Go.WideShapes Go.ChangeAt Go.RowKit
open Ep Oc Tr Wk
set_option linter.unusedVariables false
namespace Wk
def NB8 (x : Value) : Prop := ∀ z, x ≠ .int .u8 z
/-- a row of the call's own, no byte in its block -/
def Nw (w : World) (base : Nat) (e : TypeId) (size : Nat) (v : Value) (n : Nat) (xs : List Value) : Prop :=
  xs.length = n * size ∧ ((v = .slice none 0 0 ∧ n = 0) ∨ ∃ g cap cur, v = .slice (some ⟨g, 0, none⟩) n cap ∧ base ≤ g ∧ w.heap[g]? = some (.cells cur e (0, 0)) ∧ n ≤ cap ∧ cap ≤ maxLen ∧ cur.size = cap * size ∧ cur.toList.take (n * size) = xs ∧ ∀ x ∈ cur.toList, NB8 x)
theorem Nw.nil (w : World) (base : Nat) (e : TypeId) (size : Nat) : Nw w base e size (.slice none 0 0) 0 [] := ⟨by simp, Or.inl ⟨rfl, rfl⟩⟩
theorem Nw.own {w : World} {base : Nat} {e : TypeId} {size : Nat} {v : Value} {n : Nat} {xs : List Value} (h : Nw w base e size v n xs) : w.ownsRow base e size v n xs := by
  obtain ⟨h0, h⟩ := h
  rcases h with h | ⟨g, cap, cur, h1, h2, h3, h4, h5, h6, h7, _⟩
  · exact ⟨h0, Or.inl h⟩
  · exact ⟨h0, Or.inr ⟨g, cap, cur, h1, h2, h3, h4, h5, h6, h7⟩⟩
theorem Nw.keep {w w' : World} {base : Nat} {e : TypeId} {size : Nat} {v : Value} {n : Nat} {xs : List Value} (h : Nw w base e size v n xs) (hk : ∀ g, v.ownBlock = some g → w'.heap[g]? = w.heap[g]?) : Nw w' base e size v n xs := by
  obtain ⟨h0, h⟩ := h
  refine ⟨h0, ?_⟩
  rcases h with h | ⟨g, cap, cur, rfl, hb, hc, h1⟩
  · exact Or.inl h
  · exact Or.inr ⟨g, cap, cur, rfl, hb, (hk g rfl).trans hc, h1⟩
theorem Nw.blk {w : World} {base : Nat} {e : TypeId} {size : Nat} {v : Value} {n : Nat} {xs : List Value} (h : Nw w base e size v n xs) {g : Nat} (hg : v.ownBlock = some g) : base ≤ g ∧ g < w.heap.size ∧ NoB w g := by
  rcases h.2 with ⟨rfl, _⟩ | ⟨g', cap, cur, rfl, h1, h2, h3, h4, h5, h6, h7⟩
  · simp [Value.ownBlock] at hg
  · simp only [Value.ownBlock, Option.some.injEq] at hg
    subst hg
    refine ⟨h1, lt_of_block h2, fun o x hc => ?_⟩
    simp [World.cell?, h2] at hc
    exact h7 _ (Array.mem_toList_iff.2 (Array.mem_of_getElem? hc)) x rfl
theorem zeros_nb {z : Value} {n : Nat} (hz : ∀ x ∈ z.cells.toList, NB8 x) : ∀ x ∈ (Builtin.zeroCells z.cells n).toList, NB8 x := by
  intro x hx
  have : ∃ i, i < n * z.cells.size ∧ z.cells[i % z.cells.size]! = x := by
    simp [Builtin.zeroCells] at hx
    obtain ⟨i, h1, h2⟩ := hx
    exact ⟨i, h1, h2⟩
  obtain ⟨i, h1, h2⟩ := this
  have hs : 0 < z.cells.size := by
    rcases Nat.eq_zero_or_pos z.cells.size with q | q
    · rw [q] at h1; omega
    · exact q
  have hlt : i % z.cells.size < z.cells.size := Nat.mod_lt _ hs
  rw [getElem!_pos z.cells _ hlt] at h2
  exact hz x (by rw [← h2]; exact Array.mem_toList_iff.2 (Array.getElem_mem hlt))
theorem run_appN (w : World) {base n size bytes q : Nat} {t e ty : TypeId} {z v : Value} {xs news : List Value} (ht : Tryd.prog.underlying t = some (.slice e)) (hinf : (Tryd.prog.info? e).map (fun i => (i.zero, i.size, i.bytes)) = some (some z, size, bytes)) (hzs : z.cells.size = size) (hsz : 0 < size) (hz : ∀ x ∈ z.cells.toList, NB8 x)
    (h : Nw w base e size v n xs) (hl : news.length = size) (hq : ∀ j u, news[j]? = some u → w.cell? ⟨q, j, none⟩ = some u) (h1 : ∀ u ∈ news, u.oneCell' = true) (hnb : ∀ u ∈ news, NB8 u) (hn : n ≤ 1000000) (hby : bytes ≤ 100) (hbase : base ≤ w.heap.size) :
    ∃ v' w', (Builtin.append_ #[t, t] ty #[v, .slice (some ⟨q, 0, none⟩) 1 1]).run Tryd.prog w = .ok v' w' ∧ Nw w' base e size v' (n + 1) (xs ++ news) ∧ w.grownBy w' v.ownBlock ∧ (v'.ownBlock = v.ownBlock ∨ v'.ownBlock = some w.heap.size) := by
  obtain ⟨i, hi, hz0, hz1, hz2⟩ := info_parts hinf
  subst hz1 hz2
  have hnews : ∀ j u, news[j]? = some u → w.cell? ((⟨q, 0, none⟩ : Addr).add j) = some u := by
    intro j u hj
    have hadd : (⟨q, 0, none⟩ : Addr).add j = ⟨q, j, none⟩ := by unfold Addr.add; split <;> simp_all
    rw [hadd]
    exact hq j u hj
  have hlen : (xs ++ news).length = (n + 1) * i.size := by rw [List.length_append, h.1, hl, Nat.add_mul, Nat.one_mul]
  have hbytes : (n + 1) * i.bytes ≤ 140737488355328 := Nat.le_trans (Nat.mul_le_mul (by omega : n + 1 ≤ 1000001) hby) (by decide)
  have hl1 : news.length = 1 * i.size := by rw [hl, Nat.one_mul]
  rcases h.2 with ⟨rfl, rfl⟩ | ⟨g, cap, cur, rfl, hbg, hg, hnc, hcm, hcs, htake, hP⟩
  · have hx : xs = [] := List.eq_nil_of_length_eq_zero (by simpa using h.1)
    subst hx
    have hr := run_append_nil (P := Tryd.prog) w t ty e i z ht hi hz0 ⟨q, 0, none⟩ 1 1 news hl1 hnews (by omega) (by omega) (by omega)
    have hge := grownCap_ge w 1 0 e
    refine ⟨_, _, hr, ⟨hlen, Or.inr ⟨w.heap.size, _, _, rfl, hbase, heap_alloc_new w.drew _, hge, grownCap_le_maxLen w 1 0 _ (by decide), ?_, ?_, ?_⟩⟩, ⟨rfl, rfl, rfl, by simp, fun k hk _ => heap_alloc_old w.drew _ (r := k) hk⟩, Or.inr rfl⟩
    · simp only [Array.size_append, List.size_toArray, size_zeroCells, hzs, hl]
      rw [show i.size + (grownCap w 1 0 e - 1) * i.size = (1 + (grownCap w 1 0 e - 1)) * i.size by rw [Nat.add_mul, Nat.one_mul], show 1 + (grownCap w 1 0 e - 1) = grownCap w 1 0 e by omega]
    · simp only [Array.toList_append, List.nil_append, Nat.zero_add, Nat.one_mul]
      rw [← hl, List.take_left]
    · intro x hx
      simp only [Array.toList_append, List.mem_append] at hx
      rcases hx with hx | hx
      · exact hnb x hx
      · exact zeros_nb hz x hx
  · by_cases hroom : n + 1 ≤ cap
    · have hfit : n * i.size + news.length ≤ cur.size := by rw [hl1, hcs, ← Nat.add_mul]; exact Nat.mul_le_mul_right _ hroom
      have hr := run_append_room (P := Tryd.prog) w t ty e i ht hi g n cap cur hg ⟨q, 0, none⟩ 1 1 news hl1 hnews h1 hroom hfit
      refine ⟨_, _, hr, ⟨hlen, Or.inr ⟨g, cap, _, rfl, hbg, setRow_heap w g cur _ e _ hg, hroom, hcm, ?_, ?_, ?_⟩⟩, ⟨rfl, rfl, rfl, by simp, fun k _ hk => setRow_other w g k _ (fun e => hk (by simp [Value.ownBlock, e]))⟩, Or.inl rfl⟩
      · simp only [List.size_toArray, List.length_append, List.length_take, List.length_drop, Array.length_toList]
        omega
      · rw [htake, ← hlen]
        exact List.take_left
      · intro x hx
        simp only [List.mem_append] at hx
        rcases hx with (hx | hx) | hx
        · exact hP x (List.mem_of_mem_take hx)
        · exact hnb x hx
        · exact hP x (List.mem_of_mem_drop hx)
    · have holds : ∀ j u, xs[j]? = some u → w.cell? ((⟨g, 0, none⟩ : Addr).add j) = some u := h.own.cells (g := g) rfl
      have hr := run_append_grow (P := Tryd.prog) w t ty e i z ht hi hz0 ⟨g, 0, none⟩ n cap xs h.1 holds ⟨q, 0, none⟩ 1 1 news hl1 hnews (by omega) (by omega) (growslice_fits (by omega) hbytes)
      have hge := grownCap_ge w (n + 1) cap e
      refine ⟨_, _, hr, ⟨hlen, Or.inr ⟨w.heap.size, grownCap w (n + 1) cap e, _, rfl, hbase, heap_alloc_new w.drew _, hge, grownCap_le_maxLen w _ cap _ (by unfold maxLen; omega), ?_, ?_, ?_⟩⟩, ⟨rfl, rfl, rfl, by simp, fun k hk _ => heap_alloc_old w.drew _ (r := k) hk⟩, Or.inr rfl⟩
      · simp only [Array.size_append, List.size_toArray, size_zeroCells, hzs]
        rw [← List.length_append, hlen, ← Nat.add_mul, show n + 1 + (grownCap w (n + 1) cap e - (n + 1)) = grownCap w (n + 1) cap e by omega]
      · simp only [Array.toList_append]
        rw [← hlen]
        exact List.take_left
      · intro x hx
        simp only [Array.toList_append, List.mem_append] at hx
        rcases hx with (hx | hx) | hx
        · have : x ∈ cur.toList := by rw [← htake] at hx; exact List.mem_of_mem_take hx
          exact hP x this
        · exact hnb x hx
        · exact zeros_nb hz x hx
/-- the law for the walk -/
theorem wpList_appN {w : World} {ops : Array Oper} {rest : List Oper} {o : Oper} {a : Act} {Q : Exit → Act → World → Prop} (hgd : o.guard = none) (s x : Operand) (t e : TypeId)
    (ho : o.op = .call { callee := .builtin .append, args := #[s, x], argTypes := #[t, t] }) {base n size bytes q : Nat} {z v : Value} {xs news : List Value} (ht : Tryd.prog.underlying t = some (.slice e)) (hinf : (Tryd.prog.info? e).map (fun i => (i.zero, i.size, i.bytes)) = some (some z, size, bytes)) (hzs : z.cells.size = size) (hsz : 0 < size) (hz : ∀ x ∈ z.cells.toList, NB8 x)
    (hs : a.eval s = v) (h : Nw w base e size v n xs) (hx : a.eval x = .slice (some ⟨q, 0, none⟩) 1 1) (hl : news.length = size) (hq : ∀ j u, news[j]? = some u → w.cell? ⟨q, j, none⟩ = some u) (h1 : ∀ u ∈ news, u.oneCell' = true) (hnb : ∀ u ∈ news, NB8 u) (hn : n ≤ 1000000) (hby : bytes ≤ 100) (hbase : base ≤ w.heap.size)
    (hh : ∀ v' w', Nw w' base e size v' (n + 1) (xs ++ news) → w.grownBy w' v.ownBlock → (v'.ownBlock = v.ownBlock ∨ v'.ownBlock = some w.heap.size) → wpList Tryd.prog ops Q rest (a.put o.dst v') w') : wpList Tryd.prog ops Q (o :: rest) a w := by
  obtain ⟨v', w', hr, r1, r2, r3⟩ := run_appN (ty := o.type) w ht hinf hzs hsz hz h hl hq h1 hnb hn hby hbase
  exact wpList_append8 hgd s x t ho _ _ hs hx hr (hh v' w' r1 r2 r3)
end Wk
section
variable {w0 w : World} {gw gr : Nat} {D : Int} {l : List UInt8} {k : Nat} {v : Value} {os : List Bool}
/-- a row apart has grown -/
theorem WkS.grown {w' : World} {r : Option Nat} (h : WkS w0 w gw gr D l k v os) (hg : w.grownBy w' r) (hr : ∀ b, r = some b → w0.heap.size ≤ b ∧ b ≠ gr ∧ b ≠ gw ∧ v.ownBlock ≠ some b ∧ NoB w b) : WkS w0 w' gw gr D l k v os := by
  cases r with
  | none => exact h.later ⟨hg.os, hg.tape, hg.output, hg.size, fun k hk => hg.block k hk (by simp)⟩
  | some b =>
    obtain ⟨h0, h1, h2, h3, h4⟩ := hr b rfl
    exact h.inb ⟨hg.os, hg.tape, hg.output, hg.size, fun k hk q => hg.block k hk (fun e => by cases e; omega)⟩ h0 h1 h2 h3 h4
theorem WkS.old (h : WkS w0 w gw gr D l k v os) {b : Nat} (hb : w.heap.size ≤ b) : b ≠ gr ∧ b ≠ gw ∧ v.ownBlock ≠ some b ∧ w0.heap.size ≤ b := by
  have h1 := h.lts
  have h2 := h.bel.size
  exact ⟨by omega, by omega, fun e => by have := (h.row.blk e).2.1; omega, by omega⟩
end
end Go.Proofs.YtinagjljebbceaaDoor

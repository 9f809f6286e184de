import Derived.Below
import Derived.BigQuiet
import Derived.ChangeOld
import Derived.Deep.DeepCutAuto
import Derived.Deep.QuietTactic
import Derived.Deep.RegionHeld3
import Derived.Deep.RegionLaw
import Derived.Deep.RegionWith
import Derived.LaidEql
import Derived.Laws.AppendOwn
import Derived.Laws.BitsAllLaws
import Derived.Laws.CopyRow
import Derived.Laws.IdiomCopy
import Derived.Laws.IdiomRangeMap
import Derived.Laws.Rows
import Derived.Laws.StructEq
import Derived.Maps.AppendAt
import Derived.OpenShut
import Derived.OwnWalk
import Derived.ProofKit
import Derived.RowKitTokens
import Derived.ShutString
import Derived.Stop.Asserts
import Derived.WalkKit
import Derived.WalkLawsBesides
import Derived.WalkSpells
import Derived.Test.YtgobnjeankjkjaaGreatDoorPb4
import Derived.Test.YtgobnjeankjkjaaGreatDoorPb14
/- Layer 17: rows of the call's own in which no byte lies. -/
namespace Go.Proofs.YtgobnjeankjkjaaGreatDoor
open Go.ChangeShapes Go.WideShapes Go.ChangeAt Go.RowKit
open Ep Oc Tr Wk
set_option linter.unusedVariables false
namespace Wk
def NB8 (x : Value) : Prop := ∀ z, x ≠ .int .u8 z
/-- a row of the call's own, no byte in its block -/
def Nw (w : World) (base : Nat) (e : TypeId) (size : Nat) (v : Value) (n : Nat) (xs : List Value) : Prop :=
  xs.length = n * size ∧ ((v = .slice none 0 0 ∧ n = 0) ∨ ∃ g cap cur, v = .slice (some ⟨g, 0, none⟩) n cap ∧ base ≤ g ∧ w.heap[g]? = some (.cells cur e (0, 0)) ∧ n ≤ cap ∧ cap ≤ maxLen ∧ cur.size = cap * size ∧ cur.toList.take (n * size) = xs ∧ ∀ x ∈ cur.toList, NB8 x)
theorem Nw.nil (w : World) (base : Nat) (e : TypeId) (size : Nat) : Nw w base e size (.slice none 0 0) 0 [] := ⟨by simp, Or.inl ⟨rfl, rfl⟩⟩
theorem Nw.own {w : World} {base : Nat} {e : TypeId} {size : Nat} {v : Value} {n : Nat} {xs : List Value} (h : Nw w base e size v n xs) : w.ownsRow base e size v n xs := by
  obtain ⟨h0, h⟩ := h
  rcases h with h | ⟨g, cap, cur, h1, h2, h3, h4, h5, h6, h7, _⟩
  · exact ⟨h0, Or.inl h⟩
  · exact ⟨h0, Or.inr ⟨g, cap, cur, h1, h2, h3, h4, h5, h6, h7⟩⟩
theorem Nw.keep {w w' : World} {base : Nat} {e : TypeId} {size : Nat} {v : Value} {n : Nat} {xs : List Value} (h : Nw w base e size v n xs) (hk : ∀ g, v.ownBlock = some g → w'.heap[g]? = w.heap[g]?) : Nw w' base e size v n xs := by
  obtain ⟨h0, h⟩ := h
  refine ⟨h0, ?_⟩
  rcases h with h | ⟨g, cap, cur, rfl, hb, hc, h1⟩
  · exact Or.inl h
  · exact Or.inr ⟨g, cap, cur, rfl, hb, (hk g rfl).trans hc, h1⟩
theorem Nw.blk {w : World} {base : Nat} {e : TypeId} {size : Nat} {v : Value} {n : Nat} {xs : List Value} (h : Nw w base e size v n xs) {g : Nat} (hg : v.ownBlock = some g) : base ≤ g ∧ g < w.heap.size ∧ NoB w g := by
  rcases h.2 with ⟨rfl, _⟩ | ⟨g', cap, cur, rfl, h1, h2, h3, h4, h5, h6, h7⟩
  · simp [Value.ownBlock] at hg
  · simp only [Value.ownBlock, Option.some.injEq] at hg
    subst hg
    refine ⟨h1, lt_of_block h2, fun o x hc => ?_⟩
    simp [World.cell?, h2] at hc
    exact h7 _ (Array.mem_toList_iff.2 (Array.mem_of_getElem? hc)) x rfl
theorem zeros_nb {z : Value} {n : Nat} (hz : ∀ x ∈ z.cells.toList, NB8 x) : ∀ x ∈ (Builtin.zeroCells z.cells n).toList, NB8 x := by
  intro x hx
  have : ∃ i, i < n * z.cells.size ∧ z.cells[i % z.cells.size]! = x := by
    simp [Builtin.zeroCells] at hx
    obtain ⟨i, h1, h2⟩ := hx
    exact ⟨i, h1, h2⟩
  obtain ⟨i, h1, h2⟩ := this
  have hs : 0 < z.cells.size := by
    rcases Nat.eq_zero_or_pos z.cells.size with q | q
    · rw [q] at h1; omega
    · exact q
  have hlt : i % z.cells.size < z.cells.size := Nat.mod_lt _ hs
  rw [getElem!_pos z.cells _ hlt] at h2
  exact hz x (by rw [← h2]; exact Array.mem_toList_iff.2 (Array.getElem_mem hlt))
theorem run_appN (w : World) {base n size bytes q : Nat} {t e ty : TypeId} {z v : Value} {xs news : List Value} (ht : Tryz.prog.underlying t = some (.slice e)) (hinf : (Tryz.prog.info? e).map (fun i => (i.zero, i.size, i.bytes)) = some (some z, size, bytes)) (hzs : z.cells.size = size) (hsz : 0 < size) (hz : ∀ x ∈ z.cells.toList, NB8 x)
    (h : Nw w base e size v n xs) (hl : news.length = size) (hq : ∀ j u, news[j]? = some u → w.cell? ⟨q, j, none⟩ = some u) (h1 : ∀ u ∈ news, u.oneCell' = true) (hnb : ∀ u ∈ news, NB8 u) (hn : n ≤ 1000000) (hby : bytes ≤ 100) (hbase : base ≤ w.heap.size) :
    ∃ v' w', (Builtin.append_ #[t, t] ty #[v, .slice (some ⟨q, 0, none⟩) 1 1]).run Tryz.prog w = .ok v' w' ∧ Nw w' base e size v' (n + 1) (xs ++ news) ∧ w.grownBy w' v.ownBlock ∧ (v'.ownBlock = v.ownBlock ∨ v'.ownBlock = some w.heap.size) := by
  obtain ⟨i, hi, hz0, hz1, hz2⟩ := info_parts hinf
  subst hz1 hz2
  have hnews : ∀ j u, news[j]? = some u → w.cell? ((⟨q, 0, none⟩ : Addr).add j) = some u := by
    intro j u hj
    have hadd : (⟨q, 0, none⟩ : Addr).add j = ⟨q, j, none⟩ := by unfold Addr.add; split <;> simp_all
    rw [hadd]
    exact hq j u hj
  have hlen : (xs ++ news).length = (n + 1) * i.size := by rw [List.length_append, h.1, hl, Nat.add_mul, Nat.one_mul]
  have hbytes : (n + 1) * i.bytes ≤ 140737488355328 := Nat.le_trans (Nat.mul_le_mul (by omega : n + 1 ≤ 1000001) hby) (by decide)
  have hl1 : news.length = 1 * i.size := by rw [hl, Nat.one_mul]
  rcases h.2 with ⟨rfl, rfl⟩ | ⟨g, cap, cur, rfl, hbg, hg, hnc, hcm, hcs, htake, hP⟩
  · have hx : xs = [] := List.eq_nil_of_length_eq_zero (by simpa using h.1)
    subst hx
    have hr := run_append_nil (P := Tryz.prog) w t ty e i z ht hi hz0 ⟨q, 0, none⟩ 1 1 news hl1 hnews (by omega) (by omega) (by omega)
    have hge := grownCap_ge w 1 0 e
    refine ⟨_, _, hr, ⟨hlen, Or.inr ⟨w.heap.size, _, _, rfl, hbase, heap_alloc_new w.drew _, hge, grownCap_le_maxLen w 1 0 _ (by decide), ?_, ?_, ?_⟩⟩, ⟨rfl, rfl, rfl, by simp, fun k hk _ => heap_alloc_old w.drew _ (r := k) hk⟩, Or.inr rfl⟩
    · simp only [Array.size_append, List.size_toArray, size_zeroCells, hzs, hl]
      rw [show i.size + (grownCap w 1 0 e - 1) * i.size = (1 + (grownCap w 1 0 e - 1)) * i.size by rw [Nat.add_mul, Nat.one_mul], show 1 + (grownCap w 1 0 e - 1) = grownCap w 1 0 e by omega]
    · simp only [Array.toList_append, List.nil_append, Nat.zero_add, Nat.one_mul]
      rw [← hl, List.take_left]
    · intro x hx
      simp only [Array.toList_append, List.mem_append] at hx
      rcases hx with hx | hx
      · exact hnb x hx
      · exact zeros_nb hz x hx
  · by_cases hroom : n + 1 ≤ cap
    · have hfit : n * i.size + news.length ≤ cur.size := by rw [hl1, hcs, ← Nat.add_mul]; exact Nat.mul_le_mul_right _ hroom
      have hr := run_append_room (P := Tryz.prog) w t ty e i ht hi g n cap cur hg ⟨q, 0, none⟩ 1 1 news hl1 hnews h1 hroom hfit
      refine ⟨_, _, hr, ⟨hlen, Or.inr ⟨g, cap, _, rfl, hbg, setRow_heap w g cur _ e _ hg, hroom, hcm, ?_, ?_, ?_⟩⟩, ⟨rfl, rfl, rfl, by simp, fun k _ hk => setRow_other w g k _ (fun e => hk (by simp [Value.ownBlock, e]))⟩, Or.inl rfl⟩
      · simp only [List.size_toArray, List.length_append, List.length_take, List.length_drop, Array.length_toList]
        omega
      · rw [htake, ← hlen]
        exact List.take_left
      · intro x hx
        simp only [List.mem_append] at hx
        rcases hx with (hx | hx) | hx
        · exact hP x (List.mem_of_mem_take hx)
        · exact hnb x hx
        · exact hP x (List.mem_of_mem_drop hx)
    · have holds : ∀ j u, xs[j]? = some u → w.cell? ((⟨g, 0, none⟩ : Addr).add j) = some u := h.own.cells (g := g) rfl
      have hr := run_append_grow (P := Tryz.prog) w t ty e i z ht hi hz0 ⟨g, 0, none⟩ n cap xs h.1 holds ⟨q, 0, none⟩ 1 1 news hl1 hnews (by omega) (by omega) (growslice_fits (by omega) hbytes)
      have hge := grownCap_ge w (n + 1) cap e
      refine ⟨_, _, hr, ⟨hlen, Or.inr ⟨w.heap.size, grownCap w (n + 1) cap e, _, rfl, hbase, heap_alloc_new w.drew _, hge, grownCap_le_maxLen w _ cap _ (by unfold maxLen; omega), ?_, ?_, ?_⟩⟩, ⟨rfl, rfl, rfl, by simp, fun k hk _ => heap_alloc_old w.drew _ (r := k) hk⟩, Or.inr rfl⟩
      · simp only [Array.size_append, List.size_toArray, size_zeroCells, hzs]
        rw [← List.length_append, hlen, ← Nat.add_mul, show n + 1 + (grownCap w (n + 1) cap e - (n + 1)) = grownCap w (n + 1) cap e by omega]
      · simp only [Array.toList_append]
        rw [← hlen]
        exact List.take_left
      · intro x hx
        simp only [Array.toList_append, List.mem_append] at hx
        rcases hx with (hx | hx) | hx
        · have : x ∈ cur.toList := by rw [← htake] at hx; exact List.mem_of_mem_take hx
          exact hP x this
        · exact hnb x hx
        · exact zeros_nb hz x hx
/-- the law for the walk -/
theorem wpList_appN {w : World} {ops : Array Oper} {rest : List Oper} {o : Oper} {a : Act} {Q : Exit → Act → World → Prop} (hgd : o.guard = none) (s x : Operand) (t e : TypeId)
    (ho : o.op = .call { callee := .builtin .append, args := #[s, x], argTypes := #[t, t] }) {base n size bytes q : Nat} {z v : Value} {xs news : List Value} (ht : Tryz.prog.underlying t = some (.slice e)) (hinf : (Tryz.prog.info? e).map (fun i => (i.zero, i.size, i.bytes)) = some (some z, size, bytes)) (hzs : z.cells.size = size) (hsz : 0 < size) (hz : ∀ x ∈ z.cells.toList, NB8 x)
    (hs : a.eval s = v) (h : Nw w base e size v n xs) (hx : a.eval x = .slice (some ⟨q, 0, none⟩) 1 1) (hl : news.length = size) (hq : ∀ j u, news[j]? = some u → w.cell? ⟨q, j, none⟩ = some u) (h1 : ∀ u ∈ news, u.oneCell' = true) (hnb : ∀ u ∈ news, NB8 u) (hn : n ≤ 1000000) (hby : bytes ≤ 100) (hbase : base ≤ w.heap.size)
    (hh : ∀ v' w', Nw w' base e size v' (n + 1) (xs ++ news) → w.grownBy w' v.ownBlock → (v'.ownBlock = v.ownBlock ∨ v'.ownBlock = some w.heap.size) → wpList Tryz.prog ops Q rest (a.put o.dst v') w') : wpList Tryz.prog ops Q (o :: rest) a w := by
  obtain ⟨v', w', hr, r1, r2, r3⟩ := run_appN (ty := o.type) w ht hinf hzs hsz hz h hl hq h1 hnb hn hby hbase
  exact wpList_append8 hgd s x t ho _ _ hs hx hr (hh v' w' r1 r2 r3)
end Wk
section
variable {w0 w : World} {gw gr : Nat} {D : Int} {l : List UInt8} {k : Nat} {v : Value} {os : List Bool}
/-- a row apart has grown -/
theorem WkS.grown {w' : World} {r : Option Nat} (h : WkS w0 w gw gr D l k v os) (hg : w.grownBy w' r) (hr : ∀ b, r = some b → w0.heap.size ≤ b ∧ b ≠ gr ∧ b ≠ gw ∧ v.ownBlock ≠ some b ∧ NoB w b) : WkS w0 w' gw gr D l k v os := by
  cases r with
  | none => exact h.later ⟨hg.os, hg.tape, hg.output, hg.size, fun k hk => hg.block k hk (by simp)⟩
  | some b =>
    obtain ⟨h0, h1, h2, h3, h4⟩ := hr b rfl
    exact h.inb ⟨hg.os, hg.tape, hg.output, hg.size, fun k hk q => hg.block k hk (fun e => by cases e; omega)⟩ h0 h1 h2 h3 h4
theorem WkS.old (h : WkS w0 w gw gr D l k v os) {b : Nat} (hb : w.heap.size ≤ b) : b ≠ gr ∧ b ≠ gw ∧ v.ownBlock ≠ some b ∧ w0.heap.size ≤ b := by
  have h1 := h.lts
  have h2 := h.bel.size
  exact ⟨by omega, by omega, fun e => by have := (h.row.blk e).2.1; omega, by omega⟩
end
end Go.Proofs.YtgobnjeankjkjaaGreatDoor

/- Layer 17: places, lines, rings. -/
namespace Go.Proofs.YtgobnjeankjkjaaGreatDoor
open Go.ChangeShapes Go.WideShapes Go.ChangeAt Go.RowKit
open Ep Oc Tr Wk
set_option linter.unusedVariables false
def ptV (q : Pt) : Value := .agg #[.int .u64 q.1, .int .u64 q.2]
theorem pats_lt {l : List UInt8} {k k' : Nat} {little : Bool} {q : Nat × Nat} (h : patsS l k little = .ok q k') : q.1 < 18446744073709551616 ∧ q.2 < 18446744073709551616 := by
  obtain ⟨x, j, h1, h2⟩ := bind_inv (r := word l k 8 little) h
  obtain ⟨y, j2, h3, h4⟩ := bind_inv h2
  have a := (word_ok h1).2.2
  have b := (word_ok h3).2.2
  injection h4 with h5 h6
  subst h5
  exact ⟨a, b⟩
set_option maxHeartbeats 3200000 in
set_option maxRecDepth 100000 in
theorem place17_any {w0 w : World} {gw gr : Nat} {D : Int} {l : List UInt8} {k : Nat} {v : Value} {os : List Bool} (h : WkS w0 w gw gr D l k v os) (hE : ErrVar w0) (little : Bool) :
    Calls Tryz.prog 110 #[.pointer (some ⟨gw, 0, none⟩), .bool little] w (Pst w0 w gw gr D l v os (placeS l k little) ptV) := by
  obtain ⟨B, hB⟩ : ∃ B, B = w.heap.size := ⟨_, rfl⟩
  have hl1 := h.lts
  have hl2 := h.bel.size
  have hne1 : B ≠ gr := by omega
  have hne2 : B ≠ gw := by omega
  have hob : v.ownBlock ≠ some B := fun e => by have := (h.row.blk e).2.1; omega
  obtain ⟨W, hW0⟩ : ∃ W, W = w.alloc (.cells #[.int .u64 0, .int .u64 0] 39) := ⟨_, rfl⟩
  have hbW : Below w.heap.size w W := by rw [hW0]; exact alloc_below _
  have hBW : W.heap[B]? = some (.cells #[.int .u64 0, .int .u64 0] 39 (0, 0)) := by rw [hW0, hB]; exact heap_alloc_new _ _
  have hS := h.later hbW
  have hk9 := h.rd.le
  have HW : Hid (w.alloc (.cells #[.int .u64 0, .int .u64 0] 39) = W) := hW0.symm
  have hA := at16_any hS.rd
  have hP := pats17_any hS hE little
  obtain ⟨c0, c1, c2⟩ := hS.wk.cells
  have h0B : w0.heap.size ≤ B := by omega
  have HB : Hid (B = w.heap.size) := hB
  cases hp : patsS l k little with
  | bad p c =>
    rw [hp] at hP
    have HR : Hid (placeS l k little = .bad p c) := by show (patsS l k little).bind _ = _; rw [hp]; rfl
    clear hp h hW0 hB hE hS
    go_enter Tryz.func110, Tryz.ntmps110
    go_upto_region 1 with (fail)
    rw [HW.out]
    go_wp2_with fail
    refine hA.mono ?_
    rintro e w2 ⟨rfl, rfl⟩
    clear hA c0 c1 c2
    go_wp2_with fail
    refine hP.mono ?_
    rintro e w3 ⟨hf, hb⟩
    rw [flw_of hf]
    clear hP
    go_wp2
    refine ⟨rfl, ?_⟩
    unfold Pst
    rw [HR.out]
    exact ⟨rfl, hb⟩
  | ok q k1 =>
    rw [hp] at hP
    obtain ⟨x, y⟩ := q
    have hxy := pats_lt hp
    simp only at hxy
    have HK : Hid (placeS l k little = (mustS k (x, y)).bind fun _ _ => .ok (pt (x, y)) k1) := by show (patsS l k little).bind _ = _; rw [hp]; rfl
    have hM := fun w => must17_any (k := k) (by omega) hxy.1 hxy.2 w
    clear hp h hW0 hB hE hxy
    go_enter Tryz.func110, Tryz.ntmps110
    go_upto_region 1 with (fail)
    rw [HW.out]
    go_wp2_with fail
    refine hA.mono ?_
    rintro e w2 ⟨rfl, rfl⟩
    clear hA c0 c1 c2
    go_wp2_with fail
    refine hP.mono ?_
    rintro e w3 ⟨rfl, hS3, hCh⟩
    clear hP hS
    have hBW3 := (hCh.block B (lt_of_block hBW) (fun q => by
      rcases q with q | q | q
      · exact hne1 q
      · exact hne2 q
      · exact hob q)).trans hBW
    have hCh3 := (Ch.of_below (X := Ex gw gr v) hbW).trans hCh (fun _ _ x => x)
    clear hCh hBW hbW
    simp only [ptv]
    go_upto_region 3 with (fail)
    obtain ⟨W4, hW4⟩ : ∃ W4, W4 = w3.alloc (.cells #[.int .u64 (x : Int), .int .u64 (y : Int)] 39) := ⟨_, rfl⟩
    have hb4 : Below w3.heap.size w3 W4 := by rw [hW4]; exact alloc_below _
    have hB4 : W4.heap[w3.heap.size]? = some (.cells #[.int .u64 (x : Int), .int .u64 (y : Int)] 39 (0, 0)) := by rw [hW4]; exact heap_alloc_new _ _
    rw [← hW4]
    have c0 := cell_of hB4 0
    have c1 := cell_of hB4 1
    simp only [List.getElem?_toArray, List.getElem?_cons_zero, List.getElem?_cons_succ] at c0 c1
    have hM4 := hM W4
    clear hM hW4
    obtain ⟨B2, hB2⟩ : ∃ B2, B2 = w3.heap.size := ⟨_, rfl⟩
    rw [← hB2] at c0 c1 hB4 ⊢
    have HB2 : Hid (B2 = w3.heap.size) := hB2
    clear hB2
    cases hm : mustS k (x, y) with
    | bad p c =>
      rw [hm] at hM4
      have HR : Hid (placeS l k little = .bad p c) := by show _ = _; rw [HK.out, hm]; rfl
      have hbe := hS3.bel.trans (hb4.mono hS3.bel.size)
      clear hm HK hS3 hBW3 hCh3 hb4
      go_wp2_with fail
      refine hM4.mono ?_
      rintro e w5 ⟨hb5, hf⟩
      rw [flw_of hf]
      have hbe5 := hbe.trans (hb5.mono hbe.size)
      clear hM4 c0 c1 hB4 hbe hb5
      go_wp2
      refine ⟨rfl, ?_⟩
      unfold Pst
      rw [HR.out]
      exact ⟨rfl, hbe5⟩
    | ok u k9 =>
      rw [hm] at hM4
      have HR : Hid (placeS l k little = .ok (pt (x, y)) k1) := by show _ = _; rw [HK.out, hm]; rfl
      clear hm HK
      go_wp2_with fail
      refine hM4.mono ?_
      rintro e w5 ⟨hb5, hf⟩
      obtain rfl : e = .returned (.tuple #[]) := hf
      clear hM4 c0 c1
      have hB5 := (hb5.block B2 (lt_of_block hB4)).trans hB4
      have hb35 := hb4.trans (hb5.mono hb4.size)
      have hS5 := hS3.later hb35
      have hBW5 := (hb35.block B (lt_of_block hBW3)).trans hBW3
      have hCh5 := hCh3.trans (Ch.of_below (X := Ex gw gr v) hb35) (fun _ _ x => x)
      clear hB4 hb5 hb4 hb35 hS3 hBW3 hCh3
      have c0 := cell_of hB5 0
      have c1 := cell_of hB5 1
      have d0 := cell_of hBW5 0
      have d1 := cell_of hBW5 1
      have z0 : w5.frozen? ⟨B, 0, none⟩ = false := by simp [World.frozen?, hBW5]
      have z1 : w5.frozen? ⟨B, 1, none⟩ = false := by simp [World.frozen?, hBW5]
      simp only [List.getElem?_toArray, List.getElem?_cons_zero, List.getElem?_cons_succ] at c0 c1 d0 d1
      have HS : Hid (WkS w0 w5 gw gr D l k1 v os) := hS5
      have HBB : Hid (w5.heap[B]? = some (.cells #[.int .u64 0, .int .u64 0] 39 (0, 0))) := hBW5
      have HC : Hid (Ch (Ex gw gr v) w w5) := hCh5
      clear hB5 hS5 hBW5 hCh5
      rw [← HB.out]
      go_wp2
      have hF := set2_block HBB.out (.int .u64 (x : Int)) (.int .u64 (y : Int))
      have f0 := cell_of hF 0
      have f1 := cell_of hF 1
      simp only [List.getElem?_toArray, List.getElem?_cons_zero, List.getElem?_cons_succ] at f0 f1
      refine bodyPost_ret (v := ptv (x, y)) (by simp [results, Tryz.results110, go_sem, f0, f1, ptv]) rfl ?_
      have hI : In B (B + 1) w5 ((w5.setCell ⟨B, 0, none⟩ (.int .u64 (x : Int))).setCell ⟨B, 1, none⟩ (.int .u64 (y : Int))) := ((In.refl _ _ _).set1 0 _).set1 1 _
      unfold Pst
      rw [HR.out]
      refine ⟨rfl, HS.out.inb hI h0B hne1 hne2 hob (NoB.two HBB.out (by simp) (by simp)), ?_⟩
      exact (HC.out.setCell (p := ⟨B, 0, none⟩) (Or.inl (by rw [← HB.out]; exact Nat.le_refl _)) _).setCell (p := ⟨B, 1, none⟩) (Or.inl (by rw [← HB.out]; exact Nat.le_refl _)) _
/-- a box: a block of one cell -/
def Bx (w : World) (b : Nat) (t : TypeId) (x : Value) : Prop := w.heap[b]? = some (.cells #[x] t (0, 0))
theorem Bx.lt {w : World} {b : Nat} {t : TypeId} {x : Value} (h : Bx w b t x) : b < w.heap.size := lt_of_block h
theorem Bx.cell {w : World} {b : Nat} {t : TypeId} {x : Value} (h : Bx w b t x) : w.cell? ⟨b, 0, none⟩ = some x := cell_of h 0
theorem Bx.later {w w' : World} {b : Nat} {t : TypeId} {x : Value} (h : Bx w b t x) (hb : Below w.heap.size w w') : Bx w' b t x := (hb.block b h.lt).trans h
theorem Bx.ch {w w' : World} {X : Nat → Prop} {b : Nat} {t : TypeId} {x : Value} (h : Bx w b t x) (hb : Ch X w w') (hx : ¬ X b) : Bx w' b t x := (hb.block b h.lt hx).trans h
theorem Bx.new (w : World) (t : TypeId) (x : Value) : Bx (w.alloc (.cells #[x] t)) w.heap.size t x := heap_alloc_new _ _
set_option maxHeartbeats 3200000 in
set_option maxRecDepth 100000 in
theorem line1_any {w0 w : World} {gw gr : Nat} {D : Int} {l : List UInt8} {k : Nat} {v : Value} {os : List Bool} (h : WkS w0 w gw gr D l k v os) (hE : ErrVar w0) {b1 b2 : Nat} {little : Bool} (h1 : Bx w b1 164 (.pointer (some ⟨gw, 0, none⟩))) (h2 : Bx w b2 4 (.bool little)) :
    Calls Tryz.prog 109 #[.pointer (some ⟨b1, 0, none⟩), .pointer (some ⟨b2, 0, none⟩)] w (Pst w0 w gw gr D l v os (placeS l k little) ptV) := by
  obtain ⟨B, hB⟩ : ∃ B, B = w.heap.size := ⟨_, rfl⟩
  obtain ⟨hne1, hne2, hob, h0B⟩ := h.old (b := B) (by omega)
  obtain ⟨W, hW0⟩ : ∃ W, W = w.alloc (.cells #[.int .u64 0, .int .u64 0] 39) := ⟨_, rfl⟩
  have hbW : Below w.heap.size w W := by rw [hW0]; exact alloc_below _
  have hBW : W.heap[B]? = some (.cells #[.int .u64 0, .int .u64 0] 39 (0, 0)) := by rw [hW0, hB]; exact heap_alloc_new _ _
  have hS := h.later hbW
  have HW : Hid (w.alloc (.cells #[.int .u64 0, .int .u64 0] 39) = W) := hW0.symm
  have hP := place17_any hS hE little
  have c1 := (h1.later hbW).cell
  have c2 := (h2.later hbW).cell
  have HB : Hid (B = w.heap.size) := hB
  cases hp : placeS l k little with
  | bad p c =>
    rw [hp] at hP
    clear h hW0 hB hE hS
    go_enter Tryz.func109, Tryz.ntmps109
    go_upto_region 1 with (fail)
    rw [HW.out]
    go_wp2_with fail
    refine hP.mono ?_
    rintro e w3 ⟨hf, hb⟩
    rw [flw_of hf]
    clear hP
    go_wp2
    exact ⟨rfl, rfl, hb⟩
  | ok q k1 =>
    rw [hp] at hP
    obtain ⟨x, y⟩ := q
    clear h hW0 hB hE hS
    go_enter Tryz.func109, Tryz.ntmps109
    go_upto_region 1 with (fail)
    rw [HW.out]
    go_wp2_with fail
    refine hP.mono ?_
    rintro e w5 ⟨rfl, hS5, hCh⟩
    clear hP c1 c2
    have hBW5 := (hCh.block B (lt_of_block hBW) (fun q => by
      rcases q with q | q | q
      · exact hne1 q
      · exact hne2 q
      · exact hob q)).trans hBW
    have hCh5 := (Ch.of_below (X := Ex gw gr v) hbW).trans hCh (fun _ _ x => x)
    clear hCh hBW hbW
    have d0 := cell_of hBW5 0
    have d1 := cell_of hBW5 1
    have z0 : w5.frozen? ⟨B, 0, none⟩ = false := by simp [World.frozen?, hBW5]
    have z1 : w5.frozen? ⟨B, 1, none⟩ = false := by simp [World.frozen?, hBW5]
    simp only [List.getElem?_toArray, List.getElem?_cons_zero, List.getElem?_cons_succ] at d0 d1
    have HS : Hid (WkS w0 w5 gw gr D l k1 v os) := hS5
    have HBB : Hid (w5.heap[B]? = some (.cells #[.int .u64 0, .int .u64 0] 39 (0, 0))) := hBW5
    have HC : Hid (Ch (Ex gw gr v) w w5) := hCh5
    clear hS5 hBW5 hCh5
    rw [← HB.out]
    simp only [ptV]
    go_wp2
    have hF := set2_block HBB.out (.int .u64 x) (.int .u64 y)
    have f0 := cell_of hF 0
    have f1 := cell_of hF 1
    simp only [List.getElem?_toArray, List.getElem?_cons_zero, List.getElem?_cons_succ] at f0 f1
    refine bodyPost_ret (v := ptV (x, y)) (by simp [results, Tryz.results109, go_sem, f0, f1, ptV]) rfl ?_
    have hI : In B (B + 1) w5 ((w5.setCell ⟨B, 0, none⟩ (.int .u64 x)).setCell ⟨B, 1, none⟩ (.int .u64 y)) := ((In.refl _ _ _).set1 0 _).set1 1 _
    refine ⟨rfl, HS.out.inb hI h0B hne1 hne2 hob (NoB.two HBB.out (by simp) (by simp)), ?_⟩
    exact (HC.out.setCell (p := ⟨B, 0, none⟩) (Or.inl (by rw [← HB.out]; exact Nat.le_refl _)) _).setCell (p := ⟨B, 1, none⟩) (Or.inl (by rw [← HB.out]; exact Nat.le_refl _)) _
end Go.Proofs.YtgobnjeankjkjaaGreatDoor

/- Layer 17: lists of points: lines, rings. -/
namespace Go.Proofs.YtgobnjeankjkjaaGreatDoor
open Go.ChangeShapes Go.WideShapes Go.ChangeAt Go.RowKit
open Ep Oc Tr Wk
set_option linter.unusedVariables false
/-- a list of points that a walk lays -/
def Pln (w0 w : World) (gw gr : Nat) (D : Int) (l : List UInt8) (v : Value) (os : List Bool) (r : Rs (List Pt)) (e : Ending) (w' : World) : Prop :=
  match r with
  | .ok ps k' => ∃ u, e = .returned u ∧ WkS w0 w' gw gr D l k' v os ∧ Ch (Ex gw gr v) w w' ∧ (ps.length ≤ 1048576 → Pts (fun i => w.heap.size ≤ i ∧ i < w'.heap.size) w' u ps) ∧ ∃ a c, u = .slice a ps.length c ∧ ps.length ≤ c
  | .bad p c => Flw e p c ∧ Below w0.heap.size w0 w'
theorem info_pt7 : (Tryz.prog.info? 39).map (fun i => (i.zero, i.size, i.bytes)) = some (some (.agg #[.int .u64 0, .int .u64 0]), 2, 16) := by kernel_rfl
theorem zero_pt7 : ∀ x ∈ (Value.agg #[.int .u64 0, .int .u64 0]).cells.toList, NB8 x := by
  intro x hx z
  simp [Value.cells] at hx
  rcases hx with rfl | rfl <;> simp
theorem place_u6 {l : List UInt8} {k k' : Nat} {little : Bool} {q : Pt} (h : placeS l k little = .ok q k') : U6 q.1 ∧ U6 q.2 := by
  obtain ⟨x, j, h1, h2⟩ := bind_inv (r := patsS l k little) h
  obtain ⟨y, j2, h3, h4⟩ := bind_inv h2
  have a := pats_lt h1
  injection h4 with h5 h6
  subst h5
  exact ⟨⟨by simp [pt], by simp only [pt]; omega⟩, ⟨by simp [pt], by simp only [pt]; omega⟩⟩
set_option maxHeartbeats 3200000 in
set_option maxRecDepth 100000 in
theorem members_pt {w0 w : World} {gw gr : Nat} {D : Int} {l : List UInt8} {k : Nat} {v : Value} {os : List Bool} (h : WkS w0 w gw gr D l k v os) (hE : ErrVar w0) {b1 b2 n : Nat} {little : Bool} (h1 : Bx w b1 164 (.pointer (some ⟨gw, 0, none⟩))) (h2 : Bx w b2 4 (.bool little)) (x1 : ¬ Ex gw gr v b1) (x2 : ¬ Ex gw gr v b2) (hn : n ≤ 100000) :
    Calls Tryz.prog 108 #[.int .i64 (n : Int), .func (.func 109) #[] #[.pointer (some ⟨b1, 0, none⟩), .pointer (some ⟨b2, 0, none⟩)]] w (Pln w0 w gw gr D l v os (many (fun j => placeS l j little) n k)) := by
  have HB1 : Hid (Bx w b1 164 (.pointer (some ⟨gw, 0, none⟩))) := h1
  have HB2 : Hid (Bx w b2 4 (.bool little)) := h2
  have HX : Hid (¬ Ex gw gr v b1 ∧ ¬ Ex gw gr v b2) := ⟨x1, x2⟩
  have HO : Hid (∀ b, w.heap.size ≤ b → b ≠ gr ∧ b ≠ gw ∧ v.ownBlock ≠ some b ∧ w0.heap.size ≤ b) := fun b hb => h.old hb
  clear h1 h2 x1 x2
  go_enter Tryz.func108, Tryz.ntmps108
  go_wp2
  go_loopw [5, 7] (fun ov i wr => ∃ (j kj : Nat) (ps : List Pt), i = .int .i64 (j : Int) ∧ j ≤ n ∧ Hid (ps.length = j) ∧ Hid (∀ q ∈ ps, U6 q.1 ∧ U6 q.2) ∧ Hid (Rs.pre ps (many (fun j => placeS l j little) (n - j) kj) = many (fun j => placeS l j little) n k) ∧ Hid (WkS w0 wr gw gr D l kj v os) ∧ Hid (Ch (Ex gw gr v) w wr) ∧ Hid (Nw wr w.heap.size 39 2 ov ps.length (ptcs ps))) (fun _ i _ => n - (intOf i).toNat)
  case atStart => exact ⟨0, k, [], rfl, Nat.zero_le _, rfl, (fun q hq => by cases hq), pre_nil _, h, Ch.refl _ _, Nw.nil _ _ _ _⟩
  case round =>
    obtain ⟨j, kj, ps, rfl, hj, HL, HU, HM, HS, HC, HN⟩ := hrel
    by_cases hlt : j < n
    · have hB1 := HB1.out.ch HC.out HX.out.1
      have hB2 := HB2.out.ch HC.out HX.out.2
      have hP := line1_any HS.out hE hB1 hB2
      obtain ⟨m, hm⟩ : ∃ m, n - j = m + 1 := ⟨n - j - 1, by omega⟩
      have hm2 : n - (j + 1) = m := by omega
      clear hB1 hB2 h
      cases hp : placeS l kj little with
      | bad p c =>
        rw [hp] at hP
        have HR : Hid (many (fun j => placeS l j little) n k = .bad p c) := by show _ = _; rw [← HM.out, hm, many_bad ps hp]
        clear hp hm hm2 HM HN HC HS hE
        go_wp2_with fail
        refine hP.mono ?_
        rintro e w3 ⟨hf, hb⟩
        rw [flw_of hf]
        clear hP
        go_wp2
        refine ⟨rfl, ?_⟩
        unfold Pln
        rw [HR.out]
        exact ⟨rfl, hb⟩
      | ok q k1 =>
        rw [hp] at hP
        have hq6 := place_u6 hp
        have HM2 : Hid (Rs.pre (ps ++ [q]) (many (fun j => placeS l j little) (n - (j + 1)) k1) = many (fun j => placeS l j little) n k) := by show _ = _; rw [← HM.out, hm, hm2, many_ok ps hp]
        have HU2 : Hid (∀ u ∈ ps ++ [q], U6 u.1 ∧ U6 u.2) := fun u hu => by
          rcases List.mem_append.1 hu with hu | hu
          · exact HU.out u hu
          · rw [List.mem_singleton.1 hu]; exact hq6
        obtain ⟨x, y⟩ := q
        clear hp hm hm2 HM HU hq6
        go_wp2_with fail
        refine hP.mono ?_
        rintro e w3 ⟨rfl, hS3, hC3⟩
        clear hP
        simp only [ptV]
        have hN3 : Nw w3 w.heap.size 39 2 u5 ps.length (ptcs ps) := HN.out.keep (fun g hg => hC3.block g (HN.out.blk hg).2.1 (fun q => by
          have := HO.out g (HN.out.blk hg).1
          rcases q with q | q | q
          · exact this.1 q
          · exact this.2.1 q
          · exact this.2.2.1 q))
        have hC : Ch (Ex gw gr v) w w3 := HC.out.trans hC3 (fun _ _ x => x)
        have hs3 : w.heap.size ≤ w3.heap.size := hC.size
        obtain ⟨W4, hW4⟩ : ∃ W4, W4 = w3.alloc (.cells #[.int .u64 x, .int .u64 y] 39) := ⟨_, rfl⟩
        have hb4 : Below w3.heap.size w3 W4 := by rw [hW4]; exact alloc_below _
        have hB4 : W4.heap[w3.heap.size]? = some (.cells #[.int .u64 x, .int .u64 y] 39 (0, 0)) := by rw [hW4]; exact heap_alloc_new _ _
        have hN4 : Nw W4 w.heap.size 39 2 u5 ps.length (ptcs ps) := hN3.keep (fun g hg => hb4.block g (hN3.blk hg).2.1)
        have HS4 : Hid (WkS w0 W4 gw gr D l k1 v os) := hS3.later hb4
        have HC4 : Hid (Ch (Ex gw gr v) w W4) := hC.trans (Ch.of_below (X := Ex gw gr v) hb4) (fun _ _ x => x)
        have hq4 : ∀ j u, [Value.int .u64 x, Value.int .u64 y][j]? = some u → W4.cell? ⟨w3.heap.size, j, none⟩ = some u := fun j u hu => by
          rw [cell_of hB4 j]
          simpa using hu
        have hs4 : w.heap.size ≤ W4.heap.size := Nat.le_trans hs3 hb4.size
        have hl9 : ps.length ≤ 1000000 := by rw [HL.out]; omega
        have HW4 : Hid (w3.alloc (.cells #[.int .u64 x, .int .u64 y] 39) = W4) := hW4.symm
        clear hN3 hC hS3 hC3 HS HC HN hb4 hB4 hW4
        go_wp2_with (at_builtin; rw [HW4.out]; refine wpList_appN rfl _ _ 27 39 rfl Tryz.underlying27 info_pt7 rfl (by decide) zero_pt7 rfl hN4 rfl rfl hq4 (by simp [Value.oneCell']) (by simp [NB8]) hl9 (by decide) hs4 ?_)
        intro v' w5 hN5 hg5 ho5
        have HN5 : Hid (Nw w5 w.heap.size 39 2 v' (ps ++ [(x, y)]).length (ptcs (ps ++ [(x, y)]))) := by
          show Nw _ _ _ _ _ _ _
          rw [ptcs_snoc, List.length_append]
          exact hN5
        have HS5 : Hid (WkS w0 w5 gw gr D l k1 v os) := HS4.out.grown hg5 (fun b hb => by
          have q := hN4.blk hb
          have := HO.out b q.1
          exact ⟨this.2.2.2, this.1, this.2.1, this.2.2.1, q.2.2⟩)
        have HC5 : Hid (Ch (Ex gw gr v) w w5) := HC4.out.trans (Ch.of_grown (X := fun i => w.heap.size ≤ i) hg5 (fun b hb => (hN4.blk hb).1)) (fun i hi q => by omega)
        clear hN5 hg5 ho5 hN4 hq4 HS4 HC4
        go_wp2
        go_roundw
        case rel => exact ⟨j + 1, k1, ps ++ [(x, y)], by go_num, by omega, by show _ = _; rw [List.length_append, HL.out]; rfl, HU2, HM2, HS5, HC5, HN5⟩
        case measure => simp [intOf]; omega
    · have hjn : j = n := by omega
      subst hjn
      have HR : Hid (many (fun j => placeS l j little) j k = .ok ps kj) := by
        show _ = _
        rw [← HM.out, Nat.sub_self]
        show Rs.ok (ps ++ []) kj = _
        rw [List.append_nil]
      obtain ⟨a, c, rfl, hc⟩ := own_slice HN.out.own
      go_wp2
      go_ret
      unfold Pln
      rw [HR.out]
      refine ⟨_, rfl, HS.out, HC.out, fun hle => ?_, a, c, rfl, hc⟩
      exact (pts_of HN.out.own HU.out hle).mono (fun i hi => ⟨(HN.out.blk hi).1, (HN.out.blk hi).2.1⟩)
end Go.Proofs.YtgobnjeankjkjaaGreatDoor

/- Layer 17: lines, rings, spots. -/
namespace Go.Proofs.YtgobnjeankjkjaaGreatDoor
open Go.ChangeShapes Go.WideShapes Go.ChangeAt Go.RowKit
open Ep Oc Tr Wk
set_option linter.unusedVariables false
theorem Pln.mono {w0 w W w' : World} {gw gr : Nat} {D : Int} {l : List UInt8} {v : Value} {os : List Bool} {r : Rs (List Pt)} {e : Ending} (h : Pln w0 W gw gr D l v os r e w') (hC : Ch (Ex gw gr v) w W) : Pln w0 w gw gr D l v os r e w' := by
  unfold Pln at *
  cases r with
  | bad p c => exact h
  | ok ps k' =>
    obtain ⟨u, h1, h2, h3, h4, h5⟩ := h
    refine ⟨u, h1, h2, hC.trans h3 (fun _ _ x => x), fun hl => (h4 hl).mono (fun i hi => ⟨Nat.le_trans hC.size hi.1, hi.2⟩), h5⟩
set_option maxHeartbeats 3200000 in
set_option maxRecDepth 100000 in
theorem line17_any {w0 w : World} {gw gr : Nat} {D : Int} {l : List UInt8} {k : Nat} {v : Value} {os : List Bool} (h : WkS w0 w gw gr D l k v os) (hE : ErrVar w0) (hl : l.length ≤ 65536) (little : Bool) :
    Calls Tryz.prog 84 #[.pointer (some ⟨gw, 0, none⟩), .bool little] w (Pln w0 w gw gr D l v os (lineS l k little)) := by
  obtain ⟨W, hW0⟩ : ∃ W, W = (w.alloc (.cells #[.pointer (some ⟨gw, 0, none⟩)] 164)).alloc (.cells #[.bool little] 4) := ⟨_, rfl⟩
  have hbW : Below w.heap.size w W := by rw [hW0]; exact (alloc_below _).alloc (by simp) _
  have hS := h.later hbW
  have g1 : Bx W w.heap.size 164 (.pointer (some ⟨gw, 0, none⟩)) := by
    rw [hW0]
    exact (Bx.new w _ _).later (alloc_below _)
  have g2 : Bx W (w.heap.size + 1) 4 (.bool little) := by
    rw [hW0]
    have := Bx.new (w.alloc (.cells #[.pointer (some ⟨gw, 0, none⟩)] 164)) 4 (.bool little)
    simpa using this
  have x1 : ¬ Ex gw gr v w.heap.size := fun q => by
    have := h.old (b := w.heap.size) (Nat.le_refl _)
    rcases q with q | q | q
    · exact this.1 q
    · exact this.2.1 q
    · exact this.2.2.1 q
  have x2 : ¬ Ex gw gr v (w.heap.size + 1) := fun q => by
    have := h.old (b := w.heap.size + 1) (by omega)
    rcases q with q | q | q
    · exact this.1 q
    · exact this.2.1 q
    · exact this.2.2.1 q
  have HW : Hid ((w.alloc (.cells #[.pointer (some ⟨gw, 0, none⟩)] 164)).alloc (.cells #[.bool little] 4) = W) := hW0.symm
  have hCt := count17_any hS hE 16 (by decide) little
  have c1 := g1.cell
  have c2 := g2.cell
  have HCW : Hid (Ch (Ex gw gr v) w W) := Ch.of_below hbW
  cases hc : countS l 16 k little with
  | bad p c =>
    rw [hc] at hCt
    have HR : Hid (lineS l k little = .bad p c) := by show (countS l 16 k little).bind _ = _; rw [hc]; rfl
    clear hc h hW0 hE hS
    go_enter Tryz.func84, Tryz.ntmps84
    go_upto_region 1 with (fail)
    rw [HW.out]
    go_wp2_with fail
    refine hCt.mono ?_
    rintro e w3 ⟨hf, hb⟩
    rw [flw_of hf]
    clear hCt
    go_wp2
    refine ⟨rfl, ?_⟩
    unfold Pln
    rw [HR.out]
    exact ⟨rfl, hb⟩
  | ok n k1 =>
    rw [hc] at hCt
    have hcn := count_ok hc
    have HR : Hid (lineS l k little = many (fun j => placeS l j little) n k1) := by show (countS l 16 k little).bind _ = _; rw [hc]; rfl
    have hn9 : n ≤ 100000 := by omega
    clear hc h hW0 hS hcn
    go_enter Tryz.func84, Tryz.ntmps84
    go_upto_region 1 with (fail)
    rw [HW.out]
    go_wp2_with fail
    refine hCt.mono ?_
    rintro e w3 ⟨rfl, hS3, hC3⟩
    clear hCt c1 c2
    have hM := members_pt hS3 hE (g1.ch hC3 x1) (g2.ch hC3 x2) x1 x2 hn9
    have HC : Hid (Ch (Ex gw gr v) w w3) := HCW.out.trans hC3 (fun _ _ x => x)
    clear g1 g2 hC3 hS3 hE
    go_wp2_with fail
    refine hM.mono ?_
    intro e w4 hp
    clear hM
    rw [← HR.out] at hp
    have hp2 := hp.mono HC.out
    clear hp
    cases hr : lineS l k little with
    | bad p c =>
      rw [hr] at hp2
      obtain ⟨hf, hb⟩ := hp2
      rw [flw_of hf]
      go_wp2
      exact ⟨rfl, rfl, hb⟩
    | ok ps k2 =>
      rw [hr] at hp2
      obtain ⟨u, rfl, h2, h3, h4, a, c, rfl, hac⟩ := hp2
      go_wp2
      go_ret
      unfold Pln
      rw [hr]
      exact ⟨_, rfl, h2, h3, h4, a, c, rfl, hac⟩
theorem line_len {l : List UInt8} {k k' : Nat} {little : Bool} {ps : List Pt} (hl : l.length ≤ 65536) (h : lineS l k little = .ok ps k') : ps.length ≤ 1048576 := by
  obtain ⟨n, j, h1, h2⟩ := bind_inv (r := countS l 16 k little) h
  have a := count_ok h1
  have b := many_len h2
  omega
set_option maxHeartbeats 3200000 in
set_option maxRecDepth 100000 in
theorem ring17_any {w0 w : World} {gw gr : Nat} {D : Int} {l : List UInt8} {k : Nat} {v : Value} {os : List Bool} (h : WkS w0 w gw gr D l k v os) (hE : ErrVar w0) (hl : l.length ≤ 65536) (little : Bool) :
    Calls Tryz.prog 88 #[.pointer (some ⟨gw, 0, none⟩), .bool little] w (Pln w0 w gw gr D l v os (ringS l k little)) := by
  obtain ⟨c0, c1, c2⟩ := h.wk.cells
  have hA := at16_any h.rd
  have hL := line17_any h hE hl little
  cases hr : lineS l k little with
  | bad p c =>
    rw [hr] at hL
    have HR : Hid (ringS l k little = .bad p c) := by show (lineS l k little).bind _ = _; rw [hr]; rfl
    clear hr h hE
    go_enter Tryz.func88, Tryz.ntmps88
    go_wp2_with fail
    refine hA.mono ?_
    rintro e w2 ⟨rfl, rfl⟩
    clear hA
    go_wp2_with fail
    refine hL.mono ?_
    rintro e w3 ⟨hf, hb⟩
    rw [flw_of hf]
    clear hL
    go_wp2
    refine ⟨rfl, ?_⟩
    unfold Pln
    rw [HR.out]
    exact ⟨rfl, hb⟩
  | ok ps k1 =>
    rw [hr] at hL
    have HR : Hid (ringS l k little = if ps.length = 0 then .bad k 176 else .ok ps k1) := by show (lineS l k little).bind _ = _; rw [hr]; rfl
    clear hr h hE
    go_enter Tryz.func88, Tryz.ntmps88
    go_wp2_with fail
    refine hA.mono ?_
    rintro e w2 ⟨rfl, rfl⟩
    clear hA
    go_wp2_with fail
    refine hL.mono ?_
    rintro e w3 ⟨u, rfl, h2, h3, h4, a, c, rfl, hac⟩
    clear hL c0 c1 c2
    have H2 : Hid (WkS w0 w3 gw gr D l k1 v os) := h2
    have H4 : Hid (ps.length ≤ 1048576 → Pts (fun i => w2.heap.size ≤ i ∧ i < w3.heap.size) w3 (.slice a ps.length c) ps) := h4
    clear h2 h4
    obtain ⟨n, hn⟩ : ∃ n, n = ps.length := ⟨_, rfl⟩
    have HN : Hid (n = ps.length) := hn
    rw [← hn] at HR H4 hac ⊢
    clear hn
    by_cases h0 : n = 0
    · subst h0
      go_wp2_with fail
      refine (giveUp_any k 176 _).mono ?_
      rintro e w4 ⟨hf, rfl⟩
      rw [flw_of hf]
      go_wp2
      refine ⟨rfl, ?_⟩
      unfold Pln
      rw [HR.out, if_pos (by trivial)]
      exact ⟨rfl, H2.out.bel⟩
    · have t0 : ((n : Int) == 0) = false := by simp; omega
      go_wp2
      go_ret
      unfold Pln
      rw [HR.out, if_neg h0]
      refine ⟨_, rfl, H2.out, h3, ?_, a, c, ?_⟩
      · have := H4.out
        rw [HN.out] at this ⊢
        exact this
      · rw [← HN.out]
        exact ⟨rfl, hac⟩
set_option maxHeartbeats 3200000 in
set_option maxRecDepth 100000 in
theorem spot17_any {w0 w : World} {gw gr : Nat} {D : Int} {l : List UInt8} {k : Nat} {v : Value} {os : List Bool} (h : WkS w0 w gw gr D l k v os) (hE : ErrVar w0) (little : Bool) :
    Calls Tryz.prog 83 #[.pointer (some ⟨gw, 0, none⟩), .bool little] w (Pln w0 w gw gr D l v os (spotS l k little)) := by
  obtain ⟨c0, c1, c2⟩ := h.wk.cells
  have hk9 := h.rd.le
  have hA := at16_any h.rd
  have hP := pats17_any h hE little
  cases hp : patsS l k little with
  | bad p c =>
    rw [hp] at hP
    have HR : Hid (spotS l k little = .bad p c) := by show (patsS l k little).bind _ = _; rw [hp]; rfl
    clear hp h hE
    go_enter Tryz.func83, Tryz.ntmps83
    go_wp2_with fail
    refine hA.mono ?_
    rintro e w2 ⟨rfl, rfl⟩
    clear hA
    go_wp2_with fail
    refine hP.mono ?_
    rintro e w3 ⟨hf, hb⟩
    rw [flw_of hf]
    clear hP
    go_wp2
    refine ⟨rfl, ?_⟩
    unfold Pln
    rw [HR.out]
    exact ⟨rfl, hb⟩
  | ok q k1 =>
    rw [hp] at hP
    obtain ⟨x, y⟩ := q
    have hxy := pats_lt hp
    simp only at hxy
    have HK : Hid (spotS l k little = if nanB x = true ∧ nanB y = true then .ok [] k1 else (mustS k (x, y)).bind fun _ _ => .ok [pt (x, y)] k1) := by show (patsS l k little).bind _ = _; rw [hp]; rfl
    have hM := fun w => must17_any (k := k) (by omega) hxy.1 hxy.2 w
    have hNx := fun w => isNaN_any hxy.1 w
    have hNy := fun w => isNaN_any hxy.2 w
    have HXY : Hid (x < 18446744073709551616 ∧ y < 18446744073709551616) := hxy
    clear hp h hE hxy
    go_enter Tryz.func83, Tryz.ntmps83
    go_wp2_with fail
    refine hA.mono ?_
    rintro e w2 ⟨rfl, rfl⟩
    clear hA
    go_wp2_with fail
    refine hP.mono ?_
    rintro e w3 ⟨rfl, hS3, hC3⟩
    clear hP c0 c1 c2
    simp only [ptv]
    go_upto_region 3 with (fail)
    obtain ⟨W4, hW4⟩ : ∃ W4, W4 = w3.alloc (.cells #[.int .u64 (x : Int), .int .u64 (y : Int)] 39) := ⟨_, rfl⟩
    have hb4 : Below w3.heap.size w3 W4 := by rw [hW4]; exact alloc_below _
    have hB4 : W4.heap[w3.heap.size]? = some (.cells #[.int .u64 (x : Int), .int .u64 (y : Int)] 39 (0, 0)) := by rw [hW4]; exact heap_alloc_new _ _
    rw [← hW4]
    have hS4 := hS3.later hb4
    have hC4 := hC3.trans (Ch.of_below (X := Ex gw gr v) hb4) (fun _ _ x => x)
    have c0 := cell_of hB4 0
    have c1 := cell_of hB4 1
    simp only [List.getElem?_toArray, List.getElem?_cons_zero, List.getElem?_cons_succ] at c0 c1
    have hM4 := hM W4
    have hNx4 := hNx W4
    have hNy4 := hNy W4
    have HB4 : Hid (W4.heap[w3.heap.size]? = some (.cells #[.int .u64 (x : Int), .int .u64 (y : Int)] 39 (0, 0))) := hB4
    obtain ⟨B2, hB2⟩ : ∃ B2, B2 = w3.heap.size := ⟨_, rfl⟩
    rw [← hB2] at c0 c1 HB4 ⊢
    have HBB : Hid (B2 = w3.heap.size) := hB2
    have HC : Hid (Ch (Ex gw gr v) w2 W4) := hC4
    have HS : Hid (WkS w0 W4 gw gr D l k1 v os) := hS4
    clear hM hW4 hNx hNy hB2 hS3 hC3 hb4 hB4 hS4 hC4
    by_cases hx : nanB x = true
    · rw [hx] at hNx4
      go_wp2_with fail
      refine hNx4.mono ?_
      rintro e w5 ⟨rfl, rfl⟩
      clear hNx4
      by_cases hy : nanB y = true
      · rw [hy] at hNy4
        go_wp2_with fail
        refine hNy4.mono ?_
        rintro e w5 ⟨rfl, rfl⟩
        clear hNy4
        go_wp2
        go_ret
        unfold Pln
        rw [HK.out, if_pos ⟨hx, hy⟩]
        exact ⟨_, rfl, HS.out, HC.out, fun _ => ⟨by simp, none, 0, rfl, fun i q hq => by cases hq⟩, none, 0, rfl, Nat.le_refl _⟩
      · have hyf : nanB y = false := by simpa using hy
        rw [hyf] at hNy4
        have HN : Hid (¬ (nanB x = true ∧ nanB y = true)) := fun q => hy q.2
        go_wp2_with fail
        refine hNy4.mono ?_
        rintro e w5 ⟨rfl, rfl⟩
        clear hNy4
        cases hm : mustS k (x, y) with
        | bad p c =>
          rw [hm] at hM4
          have HR : Hid (spotS l k little = .bad p c) := by show _ = _; rw [HK.out, if_neg HN.out, hm]; rfl
          clear hm HK
          go_wp2_with fail
          refine hM4.mono ?_
          rintro e w6 ⟨hb5, hf⟩
          rw [flw_of hf]
          have hbe5 := HS.out.bel.trans (hb5.mono HS.out.bel.size)
          clear hM4 c0 c1 hb5
          go_wp2
          refine ⟨rfl, ?_⟩
          unfold Pln
          rw [HR.out]
          exact ⟨rfl, hbe5⟩
        | ok u k9 =>
          rw [hm] at hM4
          have HR : Hid (spotS l k little = .ok [pt (x, y)] k1) := by show _ = _; rw [HK.out, if_neg HN.out, hm]; rfl
          clear hm HK
          go_wp2_with fail
          refine hM4.mono ?_
          rintro e w6 ⟨hb5, hf⟩
          obtain rfl : e = .returned (.tuple #[]) := hf
          clear hM4 c0 c1
          have hB5 := (hb5.block B2 (lt_of_block HB4.out)).trans HB4.out
          have c0 := cell_of hB5 0
          have c1 := cell_of hB5 1
          simp only [List.getElem?_toArray, List.getElem?_cons_zero, List.getElem?_cons_succ] at c0 c1
          have HS6 : Hid (WkS w0 w6 gw gr D l k1 v os) := HS.out.later hb5
          have HC6 : Hid (Ch (Ex gw gr v) w2 w6) := HC.out.trans (Ch.of_below (X := Ex gw gr v) hb5) (fun _ _ x => x)
          clear hb5 hB5
          go_wp2
          go_ret
          unfold Pln
          rw [HR.out]
          have hb7 : Below w6.heap.size w6 (w6.alloc (.cells #[.int .u64 (x : Int), .int .u64 (y : Int)] 39)) := alloc_below _
          have hB7 : (w6.alloc (.cells #[.int .u64 (x : Int), .int .u64 (y : Int)] 39)).heap[w6.heap.size]? = some (.cells #[.int .u64 (x : Int), .int .u64 (y : Int)] 39 (0, 0)) := heap_alloc_new _ _
          refine ⟨_, rfl, HS6.out.later hb7, HC6.out.trans (Ch.of_below (X := Ex gw gr v) hb7) (fun _ _ x => x), fun _ => ⟨by simp, _, 1, rfl, fun i q hq => ?_⟩, _, 1, rfl, Nat.le_refl _⟩
          match i, hq with
          | 0, hq =>
            cases hq
            have := HXY.out
            have hsz := HC6.out.size
            exact ⟨_, 0, rfl, ⟨hsz, by simp⟩, ⟨by simp [pt], by simp only [pt]; omega⟩, ⟨by simp [pt], by simp only [pt]; omega⟩, cell_of hB7 0, cell_of hB7 1⟩
    · have hxf : nanB x = false := by simpa using hx
      rw [hxf] at hNx4
      have HN : Hid (¬ (nanB x = true ∧ nanB y = true)) := fun q => hx q.1
      go_wp2_with fail
      refine hNx4.mono ?_
      rintro e w5 ⟨rfl, rfl⟩
      clear hNx4 hNy4
      cases hm : mustS k (x, y) with
      | bad p c =>
        rw [hm] at hM4
        have HR : Hid (spotS l k little = .bad p c) := by show _ = _; rw [HK.out, if_neg HN.out, hm]; rfl
        clear hm HK
        go_wp2_with fail
        refine hM4.mono ?_
        rintro e w6 ⟨hb5, hf⟩
        rw [flw_of hf]
        have hbe5 := HS.out.bel.trans (hb5.mono HS.out.bel.size)
        clear hM4 c0 c1 hb5
        go_wp2
        refine ⟨rfl, ?_⟩
        unfold Pln
        rw [HR.out]
        exact ⟨rfl, hbe5⟩
      | ok u k9 =>
        rw [hm] at hM4
        have HR : Hid (spotS l k little = .ok [pt (x, y)] k1) := by show _ = _; rw [HK.out, if_neg HN.out, hm]; rfl
        clear hm HK
        go_wp2_with fail
        refine hM4.mono ?_
        rintro e w6 ⟨hb5, hf⟩
        obtain rfl : e = .returned (.tuple #[]) := hf
        clear hM4 c0 c1
        have hB5 := (hb5.block B2 (lt_of_block HB4.out)).trans HB4.out
        have c0 := cell_of hB5 0
        have c1 := cell_of hB5 1
        simp only [List.getElem?_toArray, List.getElem?_cons_zero, List.getElem?_cons_succ] at c0 c1
        have HS6 : Hid (WkS w0 w6 gw gr D l k1 v os) := HS.out.later hb5
        have HC6 : Hid (Ch (Ex gw gr v) w2 w6) := HC.out.trans (Ch.of_below (X := Ex gw gr v) hb5) (fun _ _ x => x)
        clear hb5 hB5
        go_wp2
        go_ret
        unfold Pln
        rw [HR.out]
        have hb7 : Below w6.heap.size w6 (w6.alloc (.cells #[.int .u64 (x : Int), .int .u64 (y : Int)] 39)) := alloc_below _
        have hB7 : (w6.alloc (.cells #[.int .u64 (x : Int), .int .u64 (y : Int)] 39)).heap[w6.heap.size]? = some (.cells #[.int .u64 (x : Int), .int .u64 (y : Int)] 39 (0, 0)) := heap_alloc_new _ _
        refine ⟨_, rfl, HS6.out.later hb7, HC6.out.trans (Ch.of_below (X := Ex gw gr v) hb7) (fun _ _ x => x), fun _ => ⟨by simp, _, 1, rfl, fun i q hq => ?_⟩, _, 1, rfl, Nat.le_refl _⟩
        match i, hq with
        | 0, hq =>
          cases hq
          have := HXY.out
          have hsz := HC6.out.size
          exact ⟨_, 0, rfl, ⟨hsz, by simp⟩, ⟨by simp [pt], by simp only [pt]; omega⟩, ⟨by simp [pt], by simp only [pt]; omega⟩, cell_of hB7 0, cell_of hB7 1⟩
end Go.Proofs.YtgobnjeankjkjaaGreatDoor

/- Layer 17: the rings of a polygon. -/
namespace Go.Proofs.YtgobnjeankjkjaaGreatDoor
open Go.ChangeShapes Go.WideShapes Go.ChangeAt Go.RowKit
open Ep Oc Tr Wk
set_option linter.unusedVariables false
def Prs (w0 w : World) (gw gr : Nat) (D : Int) (l : List UInt8) (v : Value) (os : List Bool) (r : Rs (List (List Pt))) (e : Ending) (w' : World) : Prop :=
  match r with
  | .ok rs k' => ∃ u, e = .returned u ∧ WkS w0 w' gw gr D l k' v os ∧ Ch (Ex gw gr v) w w' ∧ (rs.length ≤ 1048576 → Rgs (fun i => w.heap.size ≤ i ∧ i < w'.heap.size) w' u rs)
  | .bad p c => Flw e p c ∧ Below w0.heap.size w0 w'
theorem ring_len {l : List UInt8} {k k' : Nat} {little : Bool} {ps : List Pt} (hl : l.length ≤ 65536) (h : ringS l k little = .ok ps k') : ps.length ≤ 1048576 := by
  obtain ⟨n, j, h1, h2⟩ := bind_inv (r := lineS l k little) h
  have := line_len hl h1
  split at h2
  · cases h2
  · injection h2 with h3 h4
    subst h3
    exact this
set_option maxHeartbeats 3200000 in
set_option maxRecDepth 100000 in
theorem ring1_any {w0 w : World} {gw gr : Nat} {D : Int} {l : List UInt8} {k : Nat} {v : Value} {os : List Bool} (h : WkS w0 w gw gr D l k v os) (hE : ErrVar w0) (hl : l.length ≤ 65536) {b1 b2 : Nat} {little : Bool} (h1 : Bx w b1 164 (.pointer (some ⟨gw, 0, none⟩))) (h2 : Bx w b2 4 (.bool little)) :
    Calls Tryz.prog 87 #[.pointer (some ⟨b1, 0, none⟩), .pointer (some ⟨b2, 0, none⟩)] w (Pln w0 w gw gr D l v os (ringS l k little)) := by
  have hP := ring17_any h hE hl little
  have c1 := h1.cell
  have c2 := h2.cell
  clear h h1 h2 hE
  cases hr : ringS l k little with
  | bad p c =>
    rw [hr] at hP
    go_enter Tryz.func87, Tryz.ntmps87
    go_wp2_with fail
    refine hP.mono ?_
    rintro e w3 ⟨hf, hb⟩
    rw [flw_of hf]
    clear hP
    go_wp2
    exact ⟨rfl, rfl, hb⟩
  | ok ps k1 =>
    rw [hr] at hP
    go_enter Tryz.func87, Tryz.ntmps87
    go_wp2_with fail
    refine hP.mono ?_
    rintro e w3 ⟨u, rfl, q2, q3, q4, a, c, rfl, hac⟩
    clear hP
    go_wp2
    go_ret
    exact ⟨_, rfl, q2, q3, q4, a, c, rfl, hac⟩
theorem info_spt7 : (Tryz.prog.info? 27).map (fun i => (i.zero, i.size, i.bytes)) = some (some (.slice none 0 0), 1, 24) := by kernel_rfl
theorem zero_spt7 : ∀ x ∈ (Value.slice none 0 0).cells.toList, NB8 x := by
  intro x hx z
  simp [Value.cells] at hx
  subst hx
  simp
set_option maxHeartbeats 3200000 in
set_option maxRecDepth 100000 in
theorem members_rg {w0 w : World} {gw gr : Nat} {D : Int} {l : List UInt8} {k : Nat} {v : Value} {os : List Bool} (h : WkS w0 w gw gr D l k v os) (hE : ErrVar w0) (hl : l.length ≤ 65536) {b1 b2 n : Nat} {little : Bool} (h1 : Bx w b1 164 (.pointer (some ⟨gw, 0, none⟩))) (h2 : Bx w b2 4 (.bool little)) (x1 : ¬ Ex gw gr v b1) (x2 : ¬ Ex gw gr v b2) (hn : n ≤ 100000) :
    Calls Tryz.prog 86 #[.int .i64 (n : Int), .func (.func 87) #[] #[.pointer (some ⟨b1, 0, none⟩), .pointer (some ⟨b2, 0, none⟩)]] w (Prs w0 w gw gr D l v os (many (fun j => ringS l j little) n k)) := by
  have HB1 : Hid (Bx w b1 164 (.pointer (some ⟨gw, 0, none⟩))) := h1
  have HB2 : Hid (Bx w b2 4 (.bool little)) := h2
  have HX : Hid (¬ Ex gw gr v b1 ∧ ¬ Ex gw gr v b2) := ⟨x1, x2⟩
  have HO : Hid (∀ b, w.heap.size ≤ b → b ≠ gr ∧ b ≠ gw ∧ v.ownBlock ≠ some b ∧ w0.heap.size ≤ b) := fun b hb => h.old hb
  clear h1 h2 x1 x2
  go_enter Tryz.func86, Tryz.ntmps86
  go_wp2
  go_loopw [5, 7] (fun ov i wr => ∃ (j kj : Nat) (ps : List (List Pt)) (xs : List Value), i = .int .i64 (j : Int) ∧ j ≤ n ∧ Hid (ps.length = j) ∧ Hid (Rs.pre ps (many (fun j => ringS l j little) (n - j) kj) = many (fun j => ringS l j little) n k) ∧ Hid (WkS w0 wr gw gr D l kj v os) ∧ Hid (Ch (Ex gw gr v) w wr) ∧ Hid (Nw wr w.heap.size 27 1 ov ps.length xs) ∧ Hid (Lrow (fun i => w.heap.size ≤ i ∧ i < wr.heap.size ∧ ov.ownBlock ≠ some i) wr xs ps)) (fun _ i _ => n - (intOf i).toNat)
  case atStart => exact ⟨0, k, [], [], rfl, Nat.zero_le _, rfl, pre_nil _, h, Ch.refl _ _, Nw.nil _ _ _ _, trivial⟩
  case round =>
    obtain ⟨j, kj, ps, xs, rfl, hj, HL, HM, HS, HC, HN, HR⟩ := hrel
    by_cases hlt : j < n
    · have hB1 := HB1.out.ch HC.out HX.out.1
      have hB2 := HB2.out.ch HC.out HX.out.2
      have hP := ring1_any HS.out hE hl hB1 hB2
      obtain ⟨m, hm⟩ : ∃ m, n - j = m + 1 := ⟨n - j - 1, by omega⟩
      have hm2 : n - (j + 1) = m := by omega
      clear hB1 hB2 h
      cases hp : ringS l kj little with
      | bad p c =>
        rw [hp] at hP
        have HA : Hid (many (fun j => ringS l j little) n k = .bad p c) := by show _ = _; rw [← HM.out, hm, many_bad ps hp]
        clear hp hm hm2 HM HN HC HS hE HR
        go_wp2_with fail
        refine hP.mono ?_
        rintro e w3 ⟨hf, hb⟩
        rw [flw_of hf]
        clear hP
        go_wp2
        refine ⟨rfl, ?_⟩
        unfold Prs
        rw [HA.out]
        exact ⟨rfl, hb⟩
      | ok q k1 =>
        rw [hp] at hP
        have HQ9 : Hid (q.length ≤ 1048576) := ring_len hl hp
        have HM2 : Hid (Rs.pre (ps ++ [q]) (many (fun j => ringS l j little) (n - (j + 1)) k1) = many (fun j => ringS l j little) n k) := by show _ = _; rw [← HM.out, hm, hm2, many_ok ps hp]
        clear hp hm hm2 HM
        go_wp2_with fail
        refine hP.mono ?_
        rintro e w3 ⟨u, rfl, hS3, hC3, hPt, ua, uc, hu, huc⟩
        clear hP
        have hnx : ∀ i, w.heap.size ≤ i → ¬ Ex gw gr v i := fun i hi q => by
          have := HO.out i hi
          rcases q with q | q | q
          · exact this.1 q
          · exact this.2.1 q
          · exact this.2.2.1 q
        have hN3 : Nw w3 w.heap.size 27 1 u5 ps.length xs := HN.out.keep (fun g hg => hC3.block g (HN.out.blk hg).2.1 (hnx g (HN.out.blk hg).1))
        have hL3 : Lrow (fun i => w.heap.size ≤ i ∧ i < wr.heap.size ∧ u5.ownBlock ≠ some i) w3 xs ps := HR.out.below (hC3.kp (fun i hi => ⟨hi.2.1, hnx i hi.1⟩))
        have hC : Ch (Ex gw gr v) w w3 := HC.out.trans hC3 (fun _ _ x => x)
        have hs3 : w.heap.size ≤ w3.heap.size := hC.size
        have hsr : wr.heap.size ≤ w3.heap.size := hC3.size
        have hswr : w.heap.size ≤ wr.heap.size := HC.out.size
        have hL3' : Lrow (fun i => w.heap.size ≤ i ∧ i < w3.heap.size ∧ u5.ownBlock ≠ some i) w3 (xs ++ [u]) (ps ++ [q]) := (hL3.mono (fun i hi => ⟨hi.1, by omega, hi.2.2⟩)).snoc ((hPt HQ9.out).mono (fun i hi => ⟨by omega, hi.2, fun e => by have := (HN.out.blk e).2.1; omega⟩))
        obtain ⟨W4, hW4⟩ : ∃ W4, W4 = w3.alloc (.cells #[u] 27) := ⟨_, rfl⟩
        have hb4 : Below w3.heap.size w3 W4 := by rw [hW4]; exact alloc_below _
        have hB4 : Bx W4 w3.heap.size 27 u := by rw [hW4]; exact Bx.new _ _ _
        have hN4 : Nw W4 w.heap.size 27 1 u5 ps.length xs := hN3.keep (fun g hg => hb4.block g (hN3.blk hg).2.1)
        have HL4 : Hid (Lrow (fun i => w.heap.size ≤ i ∧ i < w3.heap.size ∧ u5.ownBlock ≠ some i) W4 (xs ++ [u]) (ps ++ [q])) := hL3'.below (Kp.of_below hb4 (fun i hi => hi.2.1))
        have HS4 : Hid (WkS w0 W4 gw gr D l k1 v os) := hS3.later hb4
        have HC4 : Hid (Ch (Ex gw gr v) w W4) := hC.trans (Ch.of_below (X := Ex gw gr v) hb4) (fun _ _ x => x)
        have hq4 : ∀ j x, [u][j]? = some x → W4.cell? ⟨w3.heap.size, j, none⟩ = some x := fun j x hx => by
          rw [cell_of hB4 j]
          simpa using hx
        have hs4 : w.heap.size ≤ W4.heap.size := Nat.le_trans hs3 hb4.size
        have hs34 : w3.heap.size ≤ W4.heap.size := hb4.size
        have hl9 : ps.length ≤ 1000000 := by rw [HL.out]; omega
        have ho9 : ∀ x ∈ [u], x.oneCell' = true := fun x hx => by rw [List.mem_singleton.1 hx, hu]; rfl
        have hn9 : ∀ x ∈ [u], NB8 x := fun x hx z => by rw [List.mem_singleton.1 hx, hu]; simp
        have HW4 : Hid (w3.alloc (.cells #[u] 27) = W4) := hW4.symm
        have HU : Hid (u = .slice ua q.length uc) := hu
        obtain ⟨Q, hQ⟩ : ∃ Q, Q = q.length := ⟨_, rfl⟩
        rw [← hQ] at hu
        subst hu
        clear hN3 hC hS3 hC3 HS HC HN hb4 hB4 hW4 hL3 hL3' hPt HR hQ
        go_wp2_with (at_builtin; rw [HW4.out]; refine wpList_appN rfl _ _ 28 27 rfl Tryz.underlying28 info_spt7 rfl (by decide) zero_spt7 rfl hN4 rfl rfl hq4 ho9 hn9 hl9 (by decide) hs4 ?_)
        intro v' w5 hN5 hg5 ho5
        have HN5 : Hid (Nw w5 w.heap.size 27 1 v' (ps ++ [q]).length (xs ++ [.slice ua Q uc])) := by
          show Nw _ _ _ _ _ _ _
          rw [List.length_append]
          exact hN5
        have HS5 : Hid (WkS w0 w5 gw gr D l k1 v os) := HS4.out.grown hg5 (fun b hb => by
          have q := hN4.blk hb
          have := HO.out b q.1
          exact ⟨this.2.2.2, this.1, this.2.1, this.2.2.1, q.2.2⟩)
        have HC5 : Hid (Ch (Ex gw gr v) w w5) := HC4.out.trans (Ch.of_grown (X := fun i => w.heap.size ≤ i) hg5 (fun b hb => (hN4.blk hb).1)) (fun i hi q => by omega)
        have hs5 := hg5.size
        have HL5 : Hid (Lrow (fun i => w.heap.size ≤ i ∧ i < w5.heap.size ∧ v'.ownBlock ≠ some i) w5 (xs ++ [.slice ua Q uc]) (ps ++ [q])) := by
          have hkp : Kp (fun i => w.heap.size ≤ i ∧ i < w3.heap.size ∧ u5.ownBlock ≠ some i) W4 w5 := ⟨hs5, fun i hi => hg5.block i (by have := hi.2.1; omega) (fun e => hi.2.2 e.symm)⟩
          refine (HL4.out.below hkp).mono (fun i hi => ⟨hi.1, by have := hi.2.1; omega, fun e => ?_⟩)
          rcases ho5 with q | q
          · exact hi.2.2 (q ▸ e)
          · rw [q] at e
            cases e
            have := hi.2.1
            omega
        clear hN5 hg5 ho5 hN4 hq4 HS4 HC4 HL4
        go_wp2
        go_roundw
        case rel => exact ⟨j + 1, k1, ps ++ [q], xs ++ [.slice ua Q uc], by go_num, by omega, by show _ = _; rw [List.length_append, HL.out]; rfl, HM2, HS5, HC5, HN5, HL5⟩
        case measure => simp [intOf]; omega
    · have hjn : j = n := by omega
      subst hjn
      have HA : Hid (many (fun j => ringS l j little) j k = .ok ps kj) := by
        show _ = _
        rw [← HM.out, Nat.sub_self]
        show Rs.ok (ps ++ []) kj = _
        rw [List.append_nil]
      obtain ⟨a, c, rfl, hc⟩ := own_slice HN.out.own
      go_wp2
      go_ret
      unfold Prs
      rw [HA.out]
      refine ⟨_, rfl, HS.out, HC.out, fun hle => ?_⟩
      exact (rgs_of HN.out.own HR.out hle).mono (fun i hi => by
        rcases hi with hi | hi
        · exact ⟨hi.1, hi.2.1⟩
        · exact ⟨(HN.out.blk hi).1, (HN.out.blk hi).2.1⟩)
end Go.Proofs.YtgobnjeankjkjaaGreatDoor

/- Layer 17: the parts of a geometry. -/
namespace Go.Proofs.YtgobnjeankjkjaaGreatDoor
open Go.ChangeShapes Go.WideShapes Go.ChangeAt Go.RowKit
open Ep Oc Tr Wk
set_option linter.unusedVariables false
namespace Wk
/-- each geometry has more bytes than it has orders -/
theorem many_lenB {l : List UInt8} {f : Nat → Rs (Tree × List Bool)} (hf : ∀ k r k', f k = .ok r k' → k + r.2.length ≤ k') : ∀ {n k k' : Nat} {ts : List (Tree × List Bool)}, many f n k = .ok ts k' → k + ((ts.map (·.2)).flatten).length ≤ k'
  | 0, k, k', ts, h => by injection h with h1 h2; subst h1 h2; simp
  | n + 1, k, k', ts, h => by
    obtain ⟨u, j, h1, h2⟩ := bind_inv (r := f k) h
    obtain ⟨u2, j2, h3, h4⟩ := bind_inv h2
    injection h4 with h5 h6
    subst h5 h6
    have a := hf k u j h1
    have b := many_lenB (l := l) hf h3
    simp only [List.map_cons, List.flatten_cons, List.length_append]
    omega
theorem head_pos {l : List UInt8} {home k k' : Nat} {r : Bool × Nat} (h : headS l home k = .ok r k') : k' = k + 5 := by
  obtain ⟨u, j, h1, h2⟩ := bind_inv (r := ordS l k) h
  obtain ⟨u2, j2, h3, h4⟩ := bind_inv h2
  injection h4 with h5 h6
  obtain ⟨x, jx, q1, q2⟩ := bind_inv (r := word l k 1 false) h1
  obtain ⟨y, jy, q3, q4⟩ := bind_inv (r := word l j 4 u) h3
  have a := (word_ok q1).1
  have b := (word_ok q3).1
  split at q2
  · cases q2
  · injection q2 with q5 q6
    split at q4
    · cases q4
    · split at q4
      · cases q4
      · injection q4 with q7 q8
        omega
theorem body_pos {l : List UInt8} {sub : Nat → Nat → Rs (Tree × List Bool)} (hs : ∀ kind k r k', sub kind k = .ok r k' → k + r.2.length ≤ k') {little : Bool} {kind k k' : Nat} {r : Tree × List Bool} (h : bodyS l sub little kind k = .ok r k') : k + r.2.length ≤ k' := by
  have hF : ∀ {α : Type} {f : Nat → Rs α}, (∀ k v k', f k = .ok v k' → k ≤ k') → ∀ {n k k' : Nat} {ts : List α}, many f n k = .ok ts k' → k ≤ k' := by
    intro α f hf n
    induction n with
    | zero => intro k k' ts h; injection h with h1 h2; omega
    | succ n ih =>
      intro k k' ts h
      obtain ⟨u, j, h1, h2⟩ := bind_inv (r := f k) h
      obtain ⟨u2, j2, h3, h4⟩ := bind_inv h2
      injection h4 with h5 h6
      have := hf _ _ _ h1
      have := ih h3
      omega
  have hpl : ∀ k v k', placeS l k little = .ok v k' → k ≤ k' := by
    intro k v k' h
    obtain ⟨u, j, h1, h2⟩ := bind_inv (r := patsS l k little) h
    obtain ⟨u2, j2, h3, h4⟩ := bind_inv h2
    injection h4 with h5 h6
    obtain ⟨x, jx, q1, q2⟩ := bind_inv (r := word l k 8 little) h1
    obtain ⟨y, jy, q3, q4⟩ := bind_inv q2
    injection q4 with q5 q6
    have a := (word_ok q1).1
    have b := (word_ok q3).1
    omega
  have hln : ∀ k v k', lineS l k little = .ok v k' → k ≤ k' := by
    intro k v k' h
    obtain ⟨u, j, h1, h2⟩ := bind_inv (r := countS l 16 k little) h
    have a := (count_ok h1).1
    have b := hF hpl h2
    omega
  have hrg : ∀ k v k', ringS l k little = .ok v k' → k ≤ k' := by
    intro k v k' h
    obtain ⟨u, j, h1, h2⟩ := bind_inv (r := lineS l k little) h
    have a := hln _ _ _ h1
    split at h2
    · cases h2
    · injection h2 with h3 h4
      omega
  simp only [bodyS] at h
  split at h
  · obtain ⟨u, j, h1, h2⟩ := bind_inv h
    injection h2 with h3 h4
    subst h3
    obtain ⟨x, jx, q1, q2⟩ := bind_inv (r := patsS l k little) h1
    obtain ⟨y, jy, q3, q4⟩ := bind_inv (r := word l k 8 little) q1
    obtain ⟨z, jz, q5, q6⟩ := bind_inv q4
    injection q6 with q7 q8
    have a := (word_ok q3).1
    have b := (word_ok q5).1
    have c : jx = j := by
      split at q2
      · injection q2
      · obtain ⟨y2, jy2, q9, q10⟩ := bind_inv q2
        injection q10
    simp
    omega
  · split at h
    · obtain ⟨u, j, h1, h2⟩ := bind_inv h
      injection h2 with h3 h4
      subst h3
      have := hln _ _ _ h1
      simp
      omega
    · split at h
      · obtain ⟨u, j, h1, h2⟩ := bind_inv h
        obtain ⟨u2, j2, h3, h4⟩ := bind_inv h2
        injection h4 with h5 h6
        subst h5
        have a := (count_ok h1).1
        have b := hF hrg h3
        simp
        omega
      · obtain ⟨u, j, h1, h2⟩ := bind_inv h
        obtain ⟨u2, j2, h3, h4⟩ := bind_inv h2
        injection h4 with h5 h6
        subst h5
        have a := (count_ok h1).1
        have b := many_lenB (l := l) (hs kind) h3
        simp only
        omega
theorem geom_len (l : List UInt8) : ∀ n home k r k', geomS l n home k = .ok r k' → k + r.2.length ≤ k'
  | 0, home, k, r, k', h => by
    obtain ⟨u, j, h1, h2⟩ := bind_inv (r := headS l home k) h
    cases h2
  | n + 1, home, k, r, k', h => by
    obtain ⟨u, j, h1, h2⟩ := bind_inv (r := headS l home k) h
    obtain ⟨u2, j2, h3, h4⟩ := bind_inv h2
    injection h4 with h5 h6
    subst h5 h6
    have a := head_pos h1
    have b := body_pos (fun kind k r k' => geom_len l n kind k r k') h3
    simp only [List.length_cons]
    omega
theorem Nw.ne_bo {w : World} {base b : Nat} {e : TypeId} {size n : Nat} {ov v : Value} {xs : List Value} {os : List Bool} (h : Nw w base e size ov n xs) (hb : Bo w b v os) (he : e ≠ 4) {g : Nat} (hg : ov.ownBlock = some g) : v.ownBlock ≠ some g := by
  intro q
  obtain ⟨_, _, cur, h2, _⟩ := hb.blk q
  rcases h.2 with ⟨rfl, _⟩ | ⟨g', cap, cur', rfl, _, h3, _⟩
  · simp [Value.ownBlock] at hg
  · simp only [Value.ownBlock, Option.some.injEq] at hg
    subst hg
    rw [h2] at h3
    injection h3 with h3
    injection h3 with _ h3
    exact he h3.symm
end Wk
/-- what the walk of a geometry comes to -/
def Pge (w0 w : World) (gw gr : Nat) (D : Int) (l : List UInt8) (v : Value) (os : List Bool) (r : Rs (Tree × List Bool)) (e : Ending) (w' : World) : Prop :=
  match r with
  | .ok tb k' => ∃ u v', e = .returned u ∧ WkS w0 w' gw gr D l k' v' (os ++ tb.2) ∧ Ch (Ex gw gr v) w w' ∧ (v'.ownBlock = v.ownBlock ∨ ∃ g, v'.ownBlock = some g ∧ w.heap.size ≤ g) ∧ TV (fun i => w.heap.size ≤ i ∧ i < w'.heap.size ∧ v'.ownBlock ≠ some i) w' u tb.1
  | .bad p c => Flw e p c ∧ Below w0.heap.size w0 w'
def Pgs (w0 w : World) (gw gr : Nat) (D : Int) (l : List UInt8) (v : Value) (os : List Bool) (r : Rs (List (Tree × List Bool))) (e : Ending) (w' : World) : Prop :=
  match r with
  | .ok ts k' => ∃ v' pa pc, e = .returned (.slice pa ts.length pc) ∧ ts.length ≤ pc ∧ WkS w0 w' gw gr D l k' v' (os ++ (ts.map (·.2)).flatten) ∧ Ch (Ex gw gr v) w w' ∧ (v'.ownBlock = v.ownBlock ∨ ∃ g, v'.ownBlock = some g ∧ w.heap.size ≤ g) ∧ FoAt (fun i => w.heap.size ≤ i ∧ i < w'.heap.size ∧ v'.ownBlock ≠ some i) w' (foOf (ts.map (·.1))) pa
  | .bad p c => Flw e p c ∧ Below w0.heap.size w0 w'
theorem set4_block {w : World} {b : Nat} {t : TypeId} {f : Nat × Nat} {x0 x1 x2 x3 : Value} (h : w.heap[b]? = some (.cells #[x0, x1, x2, x3] t f)) (y0 y1 y2 y3 : Value) : ((((w.setCell ⟨b, 0, none⟩ y0).setCell ⟨b, 1, none⟩ y1).setCell ⟨b, 2, none⟩ y2).setCell ⟨b, 3, none⟩ y3).heap[b]? = some (.cells #[y0, y1, y2, y3] t f) := by
  simp [World.setCell, Array.getElem?_modify, h]
theorem NoB.four {w : World} {b : Nat} {t : TypeId} {f : Nat × Nat} {x0 x1 x2 x3 : Value} (h : w.heap[b]? = some (.cells #[x0, x1, x2, x3] t f)) (h0 : NB8 x0) (h1 : NB8 x1) (h2 : NB8 x2) (h3 : NB8 x3) : NoB w b := by
  intro o z
  simp only [World.cell?, h]
  match o with
  | 0 => simpa using h0 z
  | 1 => simpa using h1 z
  | 2 => simpa using h2 z
  | 3 => simpa using h3 z
  | o + 4 => simp
theorem Tr.Rgs.slc {S : Nat → Prop} {W : World} {v : Value} {l : List (List Pt)} (h : Rgs S W v l) : ∃ a c, v = .slice a l.length c := by
  obtain ⟨_, a, c, h, _⟩ := h
  exact ⟨a, c, h⟩
theorem Tr.Pts.slc {S : Nat → Prop} {W : World} {v : Value} {l : List Pt} (h : Pts S W v l) : ∃ a c, v = .slice a l.length c := by
  obtain ⟨_, a, c, h, _⟩ := h
  exact ⟨a, c, h⟩
set_option maxHeartbeats 3200000 in
set_option maxRecDepth 100000 in
theorem geom2_any {w0 w : World} {gw gr : Nat} {D : Int} {l : List UInt8} {k : Nat} {v : Value} {os : List Bool} (h : WkS w0 w gw gr D l k v os) (hos : os.length ≤ k) {b1 b2 b3 : Nat} {kind lev n : Nat} (ih : ∀ {w : World} {k : Nat} {v : Value} {os : List Bool}, WkS w0 w gw gr D l k v os → os.length ≤ k → Calls Tryz.prog 54 #[.pointer (some ⟨gw, 0, none⟩), .int .i64 (kind : Int), .int .i64 ((lev : Int) + 1)] w (Pge w0 w gw gr D l v os (geomS l n kind k))) (hlev : lev ≤ 1000) (h1 : Bx w b1 164 (.pointer (some ⟨gw, 0, none⟩))) (h2 : Bx w b2 3 (.int .i64 (kind : Int))) (h3 : Bx w b3 3 (.int .i64 (lev : Int))) :
    Calls Tryz.prog 91 #[.pointer (some ⟨b1, 0, none⟩), .pointer (some ⟨b2, 0, none⟩), .pointer (some ⟨b3, 0, none⟩)] w (Pge w0 w gw gr D l v os (geomS l n kind k)) := by
  obtain ⟨B, hB⟩ : ∃ B, B = w.heap.size := ⟨_, rfl⟩
  obtain ⟨hne1, hne2, hob, h0B⟩ := h.old (b := B) (by omega)
  obtain ⟨W, hW0⟩ : ∃ W, W = w.alloc (.cells #[.int .i64 0, .slice none 0 0, .slice none 0 0, .slice none 0 0] 31) := ⟨_, rfl⟩
  have hbW : Below w.heap.size w W := by rw [hW0]; exact alloc_below _
  have hBW : W.heap[B]? = some (.cells #[.int .i64 0, .slice none 0 0, .slice none 0 0, .slice none 0 0] 31 (0, 0)) := by rw [hW0, hB]; exact heap_alloc_new _ _
  have hS := h.later hbW
  have HW : Hid (w.alloc (.cells #[.int .i64 0, .slice none 0 0, .slice none 0 0, .slice none 0 0] 31) = W) := hW0.symm
  have hP := ih hS hos
  have c1 := (h1.later hbW).cell
  have c2 := (h2.later hbW).cell
  have c3 := (h3.later hbW).cell
  have HB : Hid (B = w.heap.size) := hB
  cases hp : geomS l n kind k with
  | bad p c =>
    rw [hp] at hP
    clear h hW0 hB hS ih h1 h2 h3
    go_enter Tryz.func91, Tryz.ntmps91
    go_upto_region 1 with (fail)
    rw [HW.out]
    go_wp2_with fail
    refine hP.mono ?_
    rintro e w3 ⟨hf, hb⟩
    rw [flw_of hf]
    clear hP
    go_wp2
    exact ⟨rfl, rfl, hb⟩
  | ok q k1 =>
    rw [hp] at hP
    obtain ⟨t, bs⟩ := q
    clear h hW0 hB hS ih h1 h2 h3
    go_enter Tryz.func91, Tryz.ntmps91
    go_upto_region 1 with (fail)
    rw [HW.out]
    go_wp2_with fail
    refine hP.mono ?_
    rintro e w5 ⟨u, v', rfl, hS5, hCh, hov, hT⟩
    clear hP c1 c2 c3
    have hBW5 := (hCh.block B (lt_of_block hBW) (fun q => by
      rcases q with q | q | q
      · exact hne1 q
      · exact hne2 q
      · exact hob q)).trans hBW
    have hCh5 := (Ch.of_below (X := Ex gw gr v) hbW).trans hCh (fun _ _ x => x)
    have hlW : B < W.heap.size := lt_of_block hBW
    have hov' : v'.ownBlock ≠ some B := by
      rcases hov with q | ⟨g, q, hg⟩
      · rw [q]; exact hob
      · rw [q]; intro e; cases e; omega
    have hsW := hbW.size
    have HT : Hid (TV (fun i => W.heap.size ≤ i ∧ i < w5.heap.size ∧ v'.ownBlock ≠ some i) w5 u t) := hT
    obtain ⟨v1, v2, pa, pc, rfl, hk9, hP1, hR1, hl9, hf9⟩ := HT.out.parts
    obtain ⟨a1, d1, rfl⟩ := hP1.slc
    obtain ⟨a2, d2, rfl⟩ := hR1.slc
    clear hCh hBW hbW hT hP1 hR1 hl9 hf9
    have d0 := cell_of hBW5 0
    have d1' := cell_of hBW5 1
    have d2' := cell_of hBW5 2
    have d3 := cell_of hBW5 3
    have z0 : w5.frozen? ⟨B, 0, none⟩ = false := by simp [World.frozen?, hBW5]
    have z1 : w5.frozen? ⟨B, 1, none⟩ = false := by simp [World.frozen?, hBW5]
    have z2 : w5.frozen? ⟨B, 2, none⟩ = false := by simp [World.frozen?, hBW5]
    have z3 : w5.frozen? ⟨B, 3, none⟩ = false := by simp [World.frozen?, hBW5]
    simp only [List.getElem?_toArray, List.getElem?_cons_zero, List.getElem?_cons_succ] at d0 d1' d2' d3
    have HS : Hid (WkS w0 w5 gw gr D l k1 v' (os ++ bs)) := hS5
    have HBB : Hid (w5.heap[B]? = some (.cells #[.int .i64 0, .slice none 0 0, .slice none 0 0, .slice none 0 0] 31 (0, 0))) := hBW5
    have HC : Hid (Ch (Ex gw gr v) w w5) := hCh5
    clear hS5 hBW5 hCh5
    rw [← HB.out]
    generalize t.1.line.length = L1 at *
    generalize t.1.rings.length = L2 at *
    generalize t.2.len = L3 at *
    generalize t.1.kind = K0 at *
    go_wp2
    have hF := set4_block HBB.out (.int .i64 K0) (.slice a1 L1 d1) (.slice a2 L2 d2) (.slice pa L3 pc)
    have f0 := cell_of hF 0
    have f1 := cell_of hF 1
    have f2 := cell_of hF 2
    have f3 := cell_of hF 3
    simp only [List.getElem?_toArray, List.getElem?_cons_zero, List.getElem?_cons_succ] at f0 f1 f2 f3
    refine bodyPost_ret (v := .agg #[.int .i64 K0, .slice a1 L1 d1, .slice a2 L2 d2, .slice pa L3 pc]) (by simp [results, Tryz.results91, go_sem, f0, f1, f2, f3]) rfl ?_
    obtain ⟨w6, hw6⟩ : ∃ w6, w6 = (((w5.setCell ⟨B, 0, none⟩ (.int .i64 K0)).setCell ⟨B, 1, none⟩ (.slice a1 L1 d1)).setCell ⟨B, 2, none⟩ (.slice a2 L2 d2)).setCell ⟨B, 3, none⟩ (.slice pa L3 pc) := ⟨_, rfl⟩
    have hI : In B (B + 1) w5 w6 := by rw [hw6]; exact ((((In.refl _ _ _).set1 0 _).set1 1 _).set1 2 _).set1 3 _
    have hz6 : w6.heap.size = w5.heap.size := by rw [hw6]; simp [World.setCell]
    rw [← hw6]
    have hBw : w.heap.size ≤ B := by rw [← HB.out]; exact Nat.le_refl _
    refine ⟨_, v', rfl, HS.out.inb hI h0B hne1 hne2 hov' (NoB.four HBB.out (by simp [NB8]) (by simp [NB8]) (by simp [NB8]) (by simp [NB8])), ?_, ?_, ?_⟩
    · exact HC.out.trans (Ch.of_in (X := fun i => w.heap.size ≤ i) hI hBw) (fun i hi q => by omega)
    · rcases hov with q | ⟨g, q, hg⟩
      · exact Or.inl q
      · exact Or.inr ⟨g, q, by omega⟩
    · refine (TV.below (w' := w6) ⟨hI.size, fun i hi => hI.block i hi.2.1 (by have := hi.1; omega)⟩ HT.out).mono (fun i hi => ⟨by have := hi.1; omega, by have := hi.2.1; omega, hi.2.2⟩)
end Go.Proofs.YtgobnjeankjkjaaGreatDoor

/- Layer 17: the pen: what it is in memory; orders, numbers, patterns. -/
namespace Go.Proofs.YtgobnjeankjkjaaGreatDoor
open Go.ChangeShapes Go.WideShapes Go.ChangeAt Go.RowKit
open Ep Oc Tr Wk
set_option linter.unusedVariables false
theorem Ob.slc {w : World} {b : Nat} {v : Value} {l : List UInt8} (h : Ob w b v l) : ∃ a n c, v = .slice a n c := by
  obtain ⟨a, c, rfl, _⟩ := h.row
  exact ⟨a, _, c, rfl⟩
/-- block gp is a pen that has written bs -/
structure PnS (w0 w : World) (gp : Nat) (v : Value) (bs : List UInt8) (little : Bool) : Prop where
  bel : Below w0.heap.size w0 w
  blk : w.heap[gp]? = some (.cells #[v, .bool little] 89 (0, 0))
  row : Ob w w0.heap.size v bs
  lo : w0.heap.size ≤ gp
  ne : v.ownBlock ≠ some gp
namespace Wk
def Ep (gp : Nat) (v : Value) (k : Nat) : Prop := k = gp ∨ v.ownBlock = some k
theorem hidP {p : Prop} (h : p) : Hid p := h
theorem below_drP (w : World) : Below w.heap.size w w.drew := ⟨rfl, rfl, rfl, Nat.le_refl _, fun _ _ => rfl⟩
end Wk
section
variable {w0 w : World} {gp : Nat} {v : Value} {bs : List UInt8} {little : Bool}
theorem PnS.lt (h : PnS w0 w gp v bs little) : gp < w.heap.size := lt_of_block h.blk
theorem PnS.cells (h : PnS w0 w gp v bs little) : w.cell? ⟨gp, 0, none⟩ = some v ∧ w.cell? ⟨gp, 1, none⟩ = some (.bool little) := ⟨cell_of h.blk 0, cell_of h.blk 1⟩
theorem PnS.frozen (h : PnS w0 w gp v bs little) (i : Nat) : w.frozen? ⟨gp, i, none⟩ = false := by simp [World.frozen?, h.blk]
theorem PnS.later {w' : World} (h : PnS w0 w gp v bs little) (hb : Below w.heap.size w w') : PnS w0 w' gp v bs little :=
  ⟨h.bel.trans (hb.mono h.bel.size), (hb.block gp h.lt).trans h.blk, h.row.later hb, h.lo, h.ne⟩
theorem PnS.old (h : PnS w0 w gp v bs little) {b : Nat} (hb : w.heap.size ≤ b) : ¬ Ep gp v b ∧ w0.heap.size ≤ b := by
  have h1 := h.lt
  have h2 := h.bel.size
  refine ⟨fun q => ?_, by omega⟩
  rcases q with q | q
  · omega
  · have := (h.row.blk q).2; omega
/-- bytes are laid behind the others -/
theorem PnS.app {wA wB : World} {va : Option Addr} {vn vc : Nat} {xs : List UInt8} (h : PnS w0 w gp v bs little) (hA : Below w.heap.size w wA) (hg : wA.grownBy wB v.ownBlock) (hk : (Value.slice va vn vc).ownBlock = v.ownBlock ∨ ∃ g, (Value.slice va vn vc).ownBlock = some g ∧ wA.heap.size ≤ g) (hO : Ob wB w0.heap.size (.slice va vn vc) (bs ++ xs)) :
    PnS w0 (wB.setCell ⟨gp, 0, none⟩ (.slice va vn vc)) gp (.slice va vn vc) (bs ++ xs) little ∧ Ch (Ep gp v) w (wB.setCell ⟨gp, 0, none⟩ (.slice va vn vc)) ∧ ((Value.slice va vn vc).ownBlock = v.ownBlock ∨ ∃ g, (Value.slice va vn vc).ownBlock = some g ∧ w.heap.size ≤ g) ∧ wB.cell? ⟨gp, 0, none⟩ = some v ∧ wB.frozen? ⟨gp, 0, none⟩ = false ∧ wB.cell? ⟨gp, 1, none⟩ = some (.bool little) := by
  have hs := hA.size
  have hlt := h.lt
  have hb : wB.heap[gp]? = some (.cells #[v, .bool little] 89 (0, 0)) := (hg.block gp (by omega) (fun e => h.ne e.symm)).trans ((h.later hA).blk)
  have hne : (Value.slice va vn vc).ownBlock ≠ some gp := by
    rcases hk with q | ⟨g, q, hgg⟩
    · rw [q]; exact h.ne
    · rw [q]; intro e; cases e; omega
  have hch : Ch (Ep gp v) w (wB.setCell ⟨gp, 0, none⟩ (.slice va vn vc)) := by
    have h1 : Ch (Ep gp v) w wB := (Ch.of_below (X := Ep gp v) hA).trans (Ch.of_grown (X := Ep gp v) hg (fun k e => Or.inr e)) (fun _ _ x => x)
    exact h1.setCell (Or.inr (Or.inl rfl)) _
  refine ⟨⟨h.bel.trans (hch.below (fun i hi q => ?_) h.bel.size), ?_, ?_, h.lo, hne⟩, hch, ?_, cell_of hb 0, by simp [World.frozen?, hb], cell_of hb 1⟩
  · rcases q with rfl | e
    · exact h.lo
    · exact (h.row.blk e).1
  · simp [World.setCell, Array.getElem?_modify, hb]
  · have hI : In gp (gp + 1) wB (wB.setCell ⟨gp, 0, none⟩ (.slice va vn vc)) := (In.refl _ _ _).set1 0 _
    exact hO.keep (r := some gp) ⟨hI.os, hI.tape, hI.output, hI.size, fun k hk q => hI.block k hk (by
      have : k ≠ gp := fun e => q (by rw [e])
      omega)⟩ (fun g e => fun q => by cases q; exact hne e)
  · rcases hk with q | ⟨g, q, hgg⟩
    · exact Or.inl q
    · exact Or.inr ⟨g, q, by omega⟩
end
/-- what a call of the pen comes to -/
def Ppn (w0 w : World) (gp : Nat) (v : Value) (bs xs : List UInt8) (little : Bool) (e : Ending) (w' : World) : Prop :=
  e = .returned (.tuple #[]) ∧ ∃ v', PnS w0 w' gp v' (bs ++ xs) little ∧ Ch (Ep gp v) w w' ∧ (v'.ownBlock = v.ownBlock ∨ ∃ g, v'.ownBlock = some g ∧ w.heap.size ≤ g)
set_option maxHeartbeats 3200000 in
set_option maxRecDepth 100000 in
theorem porder_any {w0 w : World} {gp : Nat} {v : Value} {bs : List UInt8} {little : Bool} (h : PnS w0 w gp v bs little) (hl : bs.length ≤ 100000000) :
    Calls Tryz.prog 62 #[.pointer (some ⟨gp, 0, none⟩)] w (Ppn w0 w gp v bs [if little then 1 else 0] little) := by
  obtain ⟨c0, c1⟩ := h.cells
  have z0 := h.frozen 0
  have hs := h.bel.size
  have HS := hidP h
  cases little
  · have hbA : Below w.heap.size w (w.alloc (.cells #[.int .u8 0] 5)) := alloc_below _
    have hOA := (h.later hbA).row
    have hR1 := rb_one w (X := 0) (x := 0) (by decide)
    clear h
    go_enter Tryz.func62, Tryz.ntmps62
    go_wp2_with (at_builtin; refine wpList_app8 rfl _ _ rfl rfl hOA rfl hR1 (by omega) (by simp; omega) ?_)
    intro v1 w1 hO1 hg1 hkp
    obtain ⟨va, vn, vc, rfl⟩ := hO1.slc
    obtain ⟨f1, f2, f3, f4, f5, f6⟩ := HS.out.app hbA hg1 hkp.2 hO1
    go_wp2
    go_end0
    exact ⟨rfl, _, f1, f2, f3⟩
  · have hbA : Below w.heap.size w (w.alloc (.cells #[.int .u8 1] 5)) := alloc_below _
    have hOA := (h.later hbA).row
    have hR1 := rb_one w (X := 1) (x := 1) (by decide)
    clear h
    go_enter Tryz.func62, Tryz.ntmps62
    go_wp2_with (at_builtin; refine wpList_app8 rfl _ _ rfl rfl hOA rfl hR1 (by omega) (by simp; omega) ?_)
    intro v1 w1 hO1 hg1 hkp
    obtain ⟨va, vn, vc, rfl⟩ := hO1.slc
    obtain ⟨f1, f2, f3, f4, f5, f6⟩ := HS.out.app hbA hg1 hkp.2 hO1
    go_wp2
    go_end0
    exact ⟨rfl, _, f1, f2, f3⟩
set_option maxHeartbeats 3200000 in
set_option maxRecDepth 100000 in
theorem pnumber_any {w0 w : World} {gp : Nat} {v : Value} {bs : List UInt8} {little : Bool} (h : PnS w0 w gp v bs little) (hl : bs.length ≤ 100000000) {V : Nat} (hV : V < 256 ^ 4) :
    Calls Tryz.prog 63 #[.pointer (some ⟨gp, 0, none⟩), .int .i64 (V : Int)] w (Ppn w0 w gp v bs (ord 4 V little) little) := by
  obtain ⟨c0, c1⟩ := h.cells
  have z0 := h.frozen 0
  have hs := h.bel.size
  have hO := h.row
  obtain ⟨ra, rc, hv, _⟩ := hO.row
  obtain ⟨RN, hRN⟩ : ∃ n, n = bs.length := ⟨_, rfl⟩
  rw [← hRN] at hv
  have HRN : Hid (RN = bs.length) := hRN
  subst hv
  have hPut : ∀ w', Below w.heap.size w w' → Calls Tryz.prog 9 #[.slice none 0 0, .int .u32 (IntKind.u32.wrap (V : Int)), .bool little] w' fun e w'' => ∃ va vc, e = .returned (.slice va 4 vc) ∧ Rb w'' va 4 vc (ord 4 V little) ∧ Below w.heap.size w w'' := fun w' hb => by
    rw [show IntKind.u32.wrap (V : Int) = (V : Int) by rw [IntKind.wrap_u32]; rw [show (256 : Nat) ^ 4 = 4294967296 by decide] at hV; omega]
    exact (put32_any (l := []) (Rb.nil _ _ _ (by omega)) (by omega) hV).mono (fun e w'' ⟨x, h1, h2, h3⟩ => by
    obtain ⟨va, vc, rfl, hr⟩ := h2.row
    have hle : ([] ++ ord 4 V little).length = 4 := by rw [List.nil_append, ord_len]
    rw [hle] at hr h1
    exact ⟨va, vc, h1, by simpa using hr, hb.trans (h3.mono hb.size)⟩)
  have hPk : ∀ w', Below w.heap.size w w' → w'.cell? ⟨gp, 0, none⟩ = some (.slice ra RN rc) ∧ w'.cell? ⟨gp, 1, none⟩ = some (.bool little) ∧ Ob w' w0.heap.size (.slice ra RN rc) bs ∧ w0.heap.size ≤ w'.heap.size := fun w' hb => ⟨(h.later hb).cells.1, (h.later hb).cells.2, (h.later hb).row, by have := hb.size; omega⟩
  have hApp : ∀ {wA wB : World} {va : Option Addr} {vn vc : Nat}, Below w.heap.size w wA → wA.grownBy wB (Value.slice ra RN rc).ownBlock → ((Value.slice va vn vc).ownBlock = (Value.slice ra RN rc).ownBlock ∨ ∃ g, (Value.slice va vn vc).ownBlock = some g ∧ wA.heap.size ≤ g) → Ob wB w0.heap.size (.slice va vn vc) (bs ++ ord 4 V little) → _ := fun a1 a2 a3 a4 => h.app a1 a2 a3 a4
  have hV8 : (V : Int) % 4294967296 = (V : Int) := by rw [show (256 : Nat) ^ 4 = 4294967296 by decide] at hV; omega
  have hx8 : V < 4294967296 := by rw [show (256 : Nat) ^ 4 = 4294967296 by decide] at hV; exact hV
  have hle : bs.length ≤ 100000000 := hl
  clear h hO hRN hV
  go_enter Tryz.func63, Tryz.ntmps63
  go_upto_region 0 with (fail)
  go_region_law (first
    | (go_simp; go_at_call 9; refine (hPut _ (by first | exact Below.refl _ _ | exact below_drewN (Below.refl _ _) _ | exact below_drP _)).mono ?_; rintro e w1 ⟨xa, xc, rfl, hr1, hb1⟩; obtain ⟨k0, k1, kO, ks⟩ := hPk w1 hb1)
    | (refine step_app8 (by rfl) (.tmp 8) (.tmp 15) (by rfl) (by rfl) kO (by rfl) hr1 (by omega) ks ?_; intro v5 w5 hO5 hg5 hkp5; obtain ⟨va, vn, vc, rfl⟩ := hO5.slc; obtain ⟨f1, f2, f3, f4, f5, f6⟩ := hApp hb1 hg5 hkp5.2 hO5))
  all_goals
    go_wp2
    go_end0
    exact ⟨rfl, _, f1, f2, f3⟩
set_option maxHeartbeats 3200000 in
set_option maxRecDepth 100000 in
theorem ppattern_any {w0 w : World} {gp : Nat} {v : Value} {bs : List UInt8} {little : Bool} (h : PnS w0 w gp v bs little) (hl : bs.length ≤ 100000000) {V : Nat} (hV : V < 256 ^ 8) :
    Calls Tryz.prog 111 #[.pointer (some ⟨gp, 0, none⟩), .int .u64 (V : Int)] w (Ppn w0 w gp v bs (ord 8 V little) little) := by
  obtain ⟨c0, c1⟩ := h.cells
  have z0 := h.frozen 0
  have hs := h.bel.size
  have hO := h.row
  obtain ⟨ra, rc, hv, _⟩ := hO.row
  obtain ⟨RN, hRN⟩ : ∃ n, n = bs.length := ⟨_, rfl⟩
  rw [← hRN] at hv
  have HRN : Hid (RN = bs.length) := hRN
  subst hv
  have hPut : ∀ w', Below w.heap.size w w' → Calls Tryz.prog 8 #[.slice none 0 0, .int .u64 (V : Int), .bool little] w' fun e w'' => ∃ va vc, e = .returned (.slice va 8 vc) ∧ Rb w'' va 8 vc (ord 8 V little) ∧ Below w.heap.size w w'' := fun w' hb => by
    skip
    exact (put64_any (l := []) (Rb.nil _ _ _ (by omega)) (by omega) hV).mono (fun e w'' ⟨x, h1, h2, h3⟩ => by
    obtain ⟨va, vc, rfl, hr⟩ := h2.row
    have hle : ([] ++ ord 8 V little).length = 8 := by rw [List.nil_append, ord_len]
    rw [hle] at hr h1
    exact ⟨va, vc, h1, by simpa using hr, hb.trans (h3.mono hb.size)⟩)
  have hPk : ∀ w', Below w.heap.size w w' → w'.cell? ⟨gp, 0, none⟩ = some (.slice ra RN rc) ∧ w'.cell? ⟨gp, 1, none⟩ = some (.bool little) ∧ Ob w' w0.heap.size (.slice ra RN rc) bs ∧ w0.heap.size ≤ w'.heap.size := fun w' hb => ⟨(h.later hb).cells.1, (h.later hb).cells.2, (h.later hb).row, by have := hb.size; omega⟩
  have hApp : ∀ {wA wB : World} {va : Option Addr} {vn vc : Nat}, Below w.heap.size w wA → wA.grownBy wB (Value.slice ra RN rc).ownBlock → ((Value.slice va vn vc).ownBlock = (Value.slice ra RN rc).ownBlock ∨ ∃ g, (Value.slice va vn vc).ownBlock = some g ∧ wA.heap.size ≤ g) → Ob wB w0.heap.size (.slice va vn vc) (bs ++ ord 8 V little) → _ := fun a1 a2 a3 a4 => h.app a1 a2 a3 a4
  have hV8 : (V : Int) % 18446744073709551616 = (V : Int) := by rw [show (256 : Nat) ^ 8 = 18446744073709551616 by decide] at hV; omega
  have hx8 : V < 18446744073709551616 := by rw [show (256 : Nat) ^ 8 = 18446744073709551616 by decide] at hV; exact hV
  have hle : bs.length ≤ 100000000 := hl
  clear h hO hRN hV
  go_enter Tryz.func111, Tryz.ntmps111
  go_upto_region 0 with (fail)
  go_region_law (first
    | (go_simp; go_at_call 8; refine (hPut _ (by first | exact Below.refl _ _ | exact below_drewN (Below.refl _ _) _ | exact below_drP _)).mono ?_; rintro e w1 ⟨xa, xc, rfl, hr1, hb1⟩; obtain ⟨k0, k1, kO, ks⟩ := hPk w1 hb1)
    | (refine step_app8 (by rfl) (.tmp 8) (.tmp 14) (by rfl) (by rfl) kO (by rfl) hr1 (by omega) ks ?_; intro v5 w5 hO5 hg5 hkp5; obtain ⟨va, vn, vc, rfl⟩ := hO5.slc; obtain ⟨f1, f2, f3, f4, f5, f6⟩ := hApp hb1 hg5 hkp5.2 hO5))
  all_goals
    go_wp2
    go_end0
    exact ⟨rfl, _, f1, f2, f3⟩
end Go.Proofs.YtgobnjeankjkjaaGreatDoor

/- Layer 17: the pen: places, lines, spots. -/
namespace Go.Proofs.YtgobnjeankjkjaaGreatDoor
open Go.ChangeShapes Go.WideShapes Go.ChangeAt Go.RowKit
open Ep Oc Tr Wk
set_option linter.unusedVariables false
namespace Wk
/-- the bytes of a place, of places -/
def ptB (little : Bool) (p : Pt) : List UInt8 := ord 8 p.1.toNat little ++ ord 8 p.2.toNat little
def ptsB (little : Bool) : List Pt → List UInt8
  | [] => []
  | p :: r => ptB little p ++ ptsB little r
theorem ptsB_snoc (little : Bool) : ∀ (l : List Pt) (p : Pt), ptsB little (l ++ [p]) = ptsB little l ++ ptB little p
  | [], p => by show ptB little p ++ [] = [] ++ ptB little p; simp
  | q :: r, p => by show ptB little q ++ ptsB little (r ++ [p]) = ptB little q ++ ptsB little r ++ ptB little p; rw [ptsB_snoc, List.append_assoc]
theorem ptB_len (little : Bool) (p : Pt) : (ptB little p).length = 16 := by unfold ptB; rw [List.length_append, ord_len, ord_len]
theorem ptsB_len (little : Bool) : ∀ (l : List Pt), (ptsB little l).length = 16 * l.length
  | [] => rfl
  | p :: r => by show (ptB little p ++ ptsB little r).length = _; rw [List.length_append, ptB_len, ptsB_len little r, List.length_cons]; omega
def lnB (little : Bool) (ps : List Pt) : List UInt8 := ord 4 ps.length little ++ ptsB little ps
end Wk
theorem ep_sub {gp n : Nat} {v v' : Value} (ho : v'.ownBlock = v.ownBlock ∨ ∃ g, v'.ownBlock = some g ∧ n ≤ g) : ∀ i, i < n → Ep gp v' i → Ep gp v i := by
  rintro i hi (e | e)
  · exact Or.inl e
  · rcases ho with q | ⟨g, q, hg⟩
    · exact Or.inr (q ▸ e)
    · rw [q] at e; cases e; omega
/-- two calls of the pen, one behind the other -/
theorem Ppn.then {w0 w w1 w2 : World} {gp : Nat} {v v1 : Value} {bs xs ys : List UInt8} {little : Bool} {e : Ending} (hC : Ch (Ep gp v) w w1) (hv : v1.ownBlock = v.ownBlock ∨ ∃ g, v1.ownBlock = some g ∧ w.heap.size ≤ g) (h2 : Ppn w0 w1 gp v1 (bs ++ xs) ys little e w2) : Ppn w0 w gp v bs (xs ++ ys) little e w2 := by
  obtain ⟨he, v2, hS, hC2, hv2⟩ := h2
  refine ⟨he, v2, by rw [← List.append_assoc]; exact hS, hC.trans hC2 (fun i hi => ep_sub hv i hi), ?_⟩
  have := hC.size
  rcases hv2 with q | ⟨g, q, hg⟩
  · rw [q]; exact hv
  · exact Or.inr ⟨g, q, by omega⟩
set_option maxHeartbeats 3200000 in
set_option maxRecDepth 100000 in
theorem pplace_any {w0 w : World} {gp : Nat} {v : Value} {bs : List UInt8} {little : Bool} (h : PnS w0 w gp v bs little) (hl : bs.length ≤ 99000000) {x y : Int} (hx : U6 x) (hy : U6 y) :
    Calls Tryz.prog 93 #[.pointer (some ⟨gp, 0, none⟩), .agg #[.int .u64 x, .int .u64 y]] w (Ppn w0 w gp v bs (ptB little (x, y)) little) := by
  obtain ⟨X, rfl⟩ : ∃ X : Nat, x = (X : Int) := ⟨x.toNat, by have := hx.1; omega⟩
  obtain ⟨Y, rfl⟩ : ∃ Y : Nat, y = (Y : Int) := ⟨y.toNat, by have := hy.1; omega⟩
  have hX9 : X < 256 ^ 8 := by rw [show (256 : Nat) ^ 8 = 18446744073709551616 by decide]; have := hx.2; omega
  have hY9 : Y < 256 ^ 8 := by rw [show (256 : Nat) ^ 8 = 18446744073709551616 by decide]; have := hy.2; omega
  have HB : Hid (ptB little ((X : Int), (Y : Int)) = ord 8 X little ++ ord 8 Y little) := by show _ = _; unfold ptB; simp
  obtain ⟨B, hB⟩ : ∃ B, B = w.heap.size := ⟨_, rfl⟩
  have HB0 : Hid (B = w.heap.size) := hB
  have hxB := (h.old (b := B) (by omega)).1
  obtain ⟨W, hW0⟩ : ∃ W, W = w.alloc (.cells #[.int .u64 (X : Int), .int .u64 (Y : Int)] 39) := ⟨_, rfl⟩
  have HW : Hid (w.alloc (.cells #[.int .u64 (X : Int), .int .u64 (Y : Int)] 39) = W) := hW0.symm
  have hbW : Below w.heap.size w W := by rw [hW0]; exact alloc_below _
  have gB : W.heap[B]? = some (.cells #[.int .u64 (X : Int), .int .u64 (Y : Int)] 39 (0, 0)) := by rw [hW0, hB]; exact heap_alloc_new _ _
  have hS := h.later hbW
  have hP1 := ppattern_any hS (by omega) hX9
  have c0 := cell_of gB 0
  have c1 := cell_of gB 1
  simp only [List.getElem?_toArray, List.getElem?_cons_zero, List.getElem?_cons_succ] at c0 c1
  clear hW0 hB hx hy h
  go_enter Tryz.func93, Tryz.ntmps93
  go_upto_region 1 with (fail)
  rw [HW.out, ← HB0.out]
  go_wp2_with fail
  refine hP1.mono ?_
  rintro e w2 ⟨rfl, v2, hS2, hC2, hv2⟩
  clear hP1 c0 c1
  have gB2 := (hC2.block B (lt_of_block gB) hxB).trans gB
  have c0 := cell_of gB2 0
  have c1 := cell_of gB2 1
  simp only [List.getElem?_toArray, List.getElem?_cons_zero, List.getElem?_cons_succ] at c0 c1
  have hP2 := ppattern_any hS2 (by rw [List.length_append, ord_len]; omega) hY9
  go_wp2_with fail
  refine hP2.mono ?_
  intro e w3 hq
  have hcw : Ch (Ep gp v) w w2 := (Ch.of_below (X := Ep gp v) hbW).trans hC2 (fun _ _ x => x)
  have hvw : v2.ownBlock = v.ownBlock ∨ ∃ g, v2.ownBlock = some g ∧ w.heap.size ≤ g := by
    have := hbW.size
    rcases hv2 with q | ⟨g, q, hg⟩
    · exact Or.inl q
    · exact Or.inr ⟨g, q, by omega⟩
  have hf := Ppn.then hcw hvw hq
  rw [← HB.out] at hf
  have he := hq.1
  subst he
  clear hP2 hq c0 c1 hS hS2
  go_wp2
  go_end0
  exact hf
set_option maxHeartbeats 3200000 in
set_option maxRecDepth 100000 in
theorem pline_any {w0 w : World} {gp : Nat} {v : Value} {bs : List UInt8} {little : Bool} (h : PnS w0 w gp v bs little) (hl : bs.length ≤ 80000000) {S : Nat → Prop} {u : Value} {ps : List Pt} (hP : Pts S w u ps) (hS0 : ∀ k, S k → k < w0.heap.size) (hps : ps.length ≤ 1048576) :
    Calls Tryz.prog 65 #[.pointer (some ⟨gp, 0, none⟩), u] w (Ppn w0 w gp v bs (lnB little ps) little) := by
  obtain ⟨_, pa, pc, rfl, hcl⟩ := hP
  obtain ⟨L, hL⟩ : ∃ L, L = ps.length := ⟨_, rfl⟩
  have HL : Hid (L = ps.length) := hL
  rw [← hL] at hps ⊢
  have HCl : Hid (∀ w', Below w0.heap.size w0 w' → ∀ i p, ps[i]? = some p → ∃ b o, pa = some ⟨b, o, none⟩ ∧ U6 p.1 ∧ U6 p.2 ∧ w'.cell? ⟨b, o + 2 * i, none⟩ = some (.int .u64 p.1) ∧ w'.cell? ⟨b, o + 2 * i + 1, none⟩ = some (.int .u64 p.2)) := fun w' hb i p hi => by
    obtain ⟨b, o, e, hb1, u1, u2, k1, k2⟩ := hcl i p hi
    have q1 : w'.heap[b]? = w.heap[b]? := (hb.block b (hS0 b hb1)).trans (h.bel.block b (hS0 b hb1)).symm
    exact ⟨b, o, e, u1, u2, (World.cell?_of_block (w := w) (a := ⟨b, o + 2 * i, none⟩) q1).trans k1, (World.cell?_of_block (w := w) (a := ⟨b, o + 2 * i + 1, none⟩) q1).trans k2⟩
  have hN := pnumber_any h (by omega) (V := L) (by rw [show (256 : Nat) ^ 4 = 4294967296 by decide]; omega)
  have HLn : Hid (lnB little ps = ord 4 L little ++ ptsB little ps) := by show _ = _; unfold lnB; rw [HL.out]
  clear hL hcl hS0 h
  go_enter Tryz.func65, Tryz.ntmps65
  go_wp2_with fail
  refine hN.mono ?_
  rintro e w2 ⟨rfl, v2, hS2, hC2, hv2⟩
  clear hN
  have HSt : Hid (∃ vj, PnS w0 w2 gp vj (bs ++ (ord 4 L little ++ ptsB little (ps.take 0))) little ∧ Ch (Ep gp v) w w2 ∧ (vj.ownBlock = v.ownBlock ∨ ∃ g, vj.ownBlock = some g ∧ w.heap.size ≤ g)) := ⟨v2, by simpa [ptsB] using hS2, hC2, hv2⟩
  clear hS2 hC2 hv2
  go_wp2
  go_loopw [12] (fun i wr => ∃ j : Nat, i = .int .i64 (j : Int) ∧ j ≤ L ∧ Hid (∃ vj, PnS w0 wr gp vj (bs ++ (ord 4 L little ++ ptsB little (ps.take j))) little ∧ Ch (Ep gp v) w wr ∧ (vj.ownBlock = v.ownBlock ∨ ∃ g, vj.ownBlock = some g ∧ w.heap.size ≤ g))) (fun i _ => L - (intOf i).toNat)
  case atStart => exact ⟨0, rfl, Nat.zero_le _, HSt⟩
  case round =>
    obtain ⟨j, rfl, hj, HX⟩ := hrel
    obtain ⟨vj, hSj, hCj, hvj⟩ := HX.out
    by_cases hlt : j < L
    · have hjl : j < ps.length := by rw [← HL.out]; exact hlt
      obtain ⟨q, hq⟩ : ∃ q, ps[j]? = some q := ⟨_, List.getElem?_eq_getElem hjl⟩
      obtain ⟨b, o, rfl, u1, u2, k1, k2⟩ := HCl.out wr hSj.bel j q hq
      have HT : Hid (ptsB little (ps.take (j + 1)) = ptsB little (ps.take j) ++ ptB little q) := by
        show _ = _
        rw [List.take_add_one, hq]
        exact ptsB_snoc little _ q
      obtain ⟨x, y⟩ := q
      simp only at k1 k2 u1 u2
      rw [Nat.mul_comm 2 j] at k1 k2
      have hlen : (bs ++ (ord 4 L little ++ ptsB little (ps.take j))).length ≤ 99000000 := by
        rw [List.length_append, List.length_append, ord_len, ptsB_len, List.length_take]
        omega
      have hb3 : Below wr.heap.size wr (wr.alloc (.cells #[.int .u64 x, .int .u64 y] 39)) := alloc_below _
      have hPl := pplace_any (hSj.later hb3) hlen u1 u2
      have HCj := hidP hCj
      have Hvj := hidP hvj
      have Hb3 := hidP hb3
      clear hq HX HSt hSj hCj hvj hb3 hjl
      go_wp2_with fail
      refine hPl.mono ?_
      rintro e w4 ⟨rfl, v4, hS4, hC4, hv4⟩
      clear hPl
      have HX4 : Hid (∃ vj, PnS w0 w4 gp vj (bs ++ (ord 4 L little ++ ptsB little (ps.take (j + 1)))) little ∧ Ch (Ep gp v) w w4 ∧ (vj.ownBlock = v.ownBlock ∨ ∃ g, vj.ownBlock = some g ∧ w.heap.size ≤ g)) := by
        refine ⟨v4, ?_, (HCj.out.trans (Ch.of_below (X := Ep gp v) Hb3.out) (fun _ _ x => x)).trans hC4 (fun i hi => ep_sub Hvj.out i hi), ?_⟩
        · rw [HT.out, ← List.append_assoc (ord 4 L little), ← List.append_assoc bs]
          exact hS4
        · have s1 := HCj.out.size
          have s2 := Hb3.out.size
          rcases hv4 with q | ⟨g, q, hg⟩
          · rw [q]; exact Hvj.out
          · exact Or.inr ⟨g, q, by omega⟩
      clear hS4 hC4 hv4
      go_wp2
      go_roundw
      case rel => exact ⟨j + 1, by go_num, by omega, HX4⟩
      case measure => simp [intOf]; omega
    · have hjn : ps.take j = ps := List.take_of_length_le (by rw [← HL.out]; omega)
      rw [hjn, ← HLn.out] at hSj
      clear hjn HX HSt
      go_wp2
      go_end0
      exact ⟨rfl, vj, hSj, hCj, hvj⟩
end Go.Proofs.YtgobnjeankjkjaaGreatDoor

/- Layer 17: the pen: spots; how many bytes there are. -/
namespace Go.Proofs.YtgobnjeankjkjaaGreatDoor
open Go.ChangeShapes Go.WideShapes Go.ChangeAt Go.RowKit
open Ep Oc Tr Wk
set_option linter.unusedVariables false
namespace Wk
/-- the bytes of a point's places: where there is none, no number twice -/
def spB (little : Bool) : List Pt → List UInt8
  | [] => ptB little (9221120237041090560, 9221120237041090560)
  | p :: _ => ptB little p
end Wk
set_option maxHeartbeats 3200000 in
set_option maxRecDepth 100000 in
theorem pspot_any {w0 w : World} {gp : Nat} {v : Value} {bs : List UInt8} {little : Bool} (h : PnS w0 w gp v bs little) (hl : bs.length ≤ 90000000) {S : Nat → Prop} {u : Value} {ps : List Pt} (hP : Pts S w u ps) (hps : ps.length ≤ 1048576) :
    Calls Tryz.prog 64 #[.pointer (some ⟨gp, 0, none⟩), u] w (Ppn w0 w gp v bs (spB little ps) little) := by
  obtain ⟨_, pa, pc, rfl, hcl⟩ := hP
  rcases ps with _ | ⟨⟨x, y⟩, r⟩
  · have hPl := pplace_any h (by omega) (x := 9221120237041090560) (y := 9221120237041090560) ⟨by omega, by omega⟩ ⟨by omega, by omega⟩
    clear hcl h
    go_enter Tryz.func64, Tryz.ntmps64
    go_wp2_with fail
    refine hPl.mono ?_
    intro e w2 hq
    have he := hq.1
    subst he
    clear hPl
    go_wp2
    go_end0
    exact hq
  · obtain ⟨b, o, rfl, hb1, u1, u2, k1, k2⟩ := hcl 0 (x, y) rfl
    simp only [Nat.mul_zero, Nat.add_zero] at k1 k2 u1 u2
    obtain ⟨L, hL⟩ : ∃ L, L = ((x, y) :: r).length := ⟨_, rfl⟩
    rw [← hL] at hps ⊢
    have hL1 : 0 < L := by rw [hL, List.length_cons]; omega
    have hPl := pplace_any h (by omega) u1 u2
    clear hcl h hL
    go_enter Tryz.func64, Tryz.ntmps64
    go_wp2_with fail
    refine hPl.mono ?_
    intro e w2 hq
    have he := hq.1
    subst he
    clear hPl
    go_wp2
    go_end0
    exact hq
end Go.Proofs.YtgobnjeankjkjaaGreatDoor

/- Layer 17: how many bytes a node has; the order of a geometry. -/
namespace Go.Proofs.YtgobnjeankjkjaaGreatDoor
open Go.ChangeShapes Go.WideShapes Go.ChangeAt Go.RowKit
open Ep Oc Tr Wk
set_option linter.unusedVariables false
namespace Wk
def bodyN (k : Int) (m n : Nat) : Nat := if k = 1 then 16 else if k = 3 then 4 + 4 * m + 16 * n else 4 + 16 * n
end Wk
set_option maxHeartbeats 3200000 in
set_option maxRecDepth 100000 in
theorem bodyBytes_any {w : World} {k : Int} {sa la : Option Addr} {m sc n lc : Nat} (hm : m ≤ 1048576) (hn : n ≤ 1048576) :
    Calls Tryz.prog 61 #[.agg #[.int .i64 k, .slice sa m sc, .slice la n lc]] w (fun e w' => e = .returned (.int .i64 ((bodyN k m n : Nat) : Int)) ∧ Below w.heap.size w w') := by
  by_cases h1 : k = 1
  · subst h1
    have HB : Hid (bodyN 1 m n = 16) := by show _ = _; simp [bodyN]
    go_enter Tryz.func61, Tryz.ntmps61
    go_wp2
    rw [HB.out]
    refine bodyPost_ret (v := .int .i64 (16)) (by simp [results, Tryz.results61, go_sem]; try omega) rfl ?_
    exact ⟨rfl, alloc_below _⟩
  · by_cases h3 : k = 3
    · subst h3
      have HB : Hid (bodyN 3 m n = 4 + 4 * m + 16 * n) := by show _ = _; simp [bodyN]
      go_enter Tryz.func61, Tryz.ntmps61
      go_wp2
      rw [HB.out]
      refine bodyPost_ret (v := .int .i64 (((4 + 4 * m + 16 * n : Nat) : Int))) (by simp [results, Tryz.results61, go_sem]; try omega) rfl ?_
      exact ⟨rfl, alloc_below _⟩
    · have HB : Hid (bodyN k m n = 4 + 16 * n) := by show _ = _; simp [bodyN, h1, h3]
      go_enter Tryz.func61, Tryz.ntmps61
      go_wp2
      rw [HB.out]
      refine bodyPost_ret (v := .int .i64 (((4 + 16 * n : Nat) : Int))) (by simp [results, Tryz.results61, go_sem]; try omega) rfl ?_
      exact ⟨rfl, alloc_below _⟩
end Go.Proofs.YtgobnjeankjkjaaGreatDoor

/- Layer 17: the pen: a node. -/
namespace Go.Proofs.YtgobnjeankjkjaaGreatDoor
open Go.ChangeShapes Go.WideShapes Go.ChangeAt Go.RowKit
open Ep Oc Tr Wk
set_option linter.unusedVariables false
namespace Wk
/-- the bytes of rings: their lengths, and all their places in one row -/
def rgB (little : Bool) : List Nat → List Pt → List UInt8
  | [], _ => []
  | z :: r, ps => lnB little (ps.take z) ++ rgB little r (ps.drop z)
theorem rgB_snoc (little : Bool) : ∀ (l : List Nat) (z : Nat) (ps : List Pt), rgB little (l ++ [z]) ps = rgB little l ps ++ lnB little ((ps.drop l.sum).take z)
  | [], z, ps => by show lnB little (ps.take z) ++ [] = [] ++ lnB little ((ps.drop 0).take z); simp
  | y :: r, z, ps => by
    show lnB little (ps.take y) ++ rgB little (r ++ [z]) (ps.drop y) = lnB little (ps.take y) ++ rgB little r (ps.drop y) ++ lnB little ((ps.drop (y + r.sum)).take z)
    rw [rgB_snoc, List.append_assoc, List.drop_drop]
theorem lnB_len (little : Bool) (l : List Pt) : (lnB little l).length = 4 + 16 * l.length := by unfold lnB; rw [List.length_append, ord_len, ptsB_len]
theorem rgB_len (little : Bool) : ∀ (l : List Nat) (ps : List Pt), (rgB little l ps).length ≤ 4 * l.length + 16 * ps.length
  | [], ps => by show (0 : Nat) ≤ _; omega
  | y :: r, ps => by
    show (lnB little (ps.take y) ++ rgB little r (ps.drop y)).length ≤ _
    have := rgB_len little r (ps.drop y)
    rw [List.length_append, lnB_len, List.length_cons]
    rw [List.length_drop] at this
    rw [List.length_take]
    omega
/-- a row of places of which pieces are taken -/
def Rst (S : Nat → Prop) (w : World) (r : Value) (l : List Pt) : Prop :=
  Pts S w r l ∧ ∃ a n c, r = .slice a n c ∧ n ≤ c ∧ c ≤ 9223372036854775807 ∧ ((a = none ∧ c = 0) ∨ ∃ b o, a = some ⟨b, o, none⟩)
theorem Rst.below {S : Nat → Prop} {w w' : World} (h : Kp S w w') {r : Value} {l : List Pt} (hr : Rst S w r l) : Rst S w' r l := ⟨Pts.below h hr.1, hr.2⟩
theorem Rst.nil {S : Nat → Prop} {w : World} {b o : Nat} : Rst S w (.slice (some ⟨b, o, none⟩) 0 0) [] := ⟨⟨by simp, _, 0, rfl, fun i p hi => by simp at hi⟩, _, _, _, rfl, by omega, by omega, Or.inr ⟨b, o, rfl⟩⟩
theorem pts_take {S : Nat → Prop} {w : World} {a : Option Addr} {n c z : Nat} {l : List Pt} (hz : z ≤ l.length) (h : Pts S w (.slice a n c) l) : Pts S w (.slice a z c) (l.take z) := by
  obtain ⟨h0, a0, c0, e, hc⟩ := h
  injection e with e1 e2 e3
  subst e1 e3
  refine ⟨by rw [List.length_take]; omega, a, c, by rw [List.length_take, Nat.min_eq_left hz], fun i p hi => ?_⟩
  rw [List.getElem?_take] at hi
  split at hi
  · exact hc i p hi
  · cases hi
theorem Rst.drop {S : Nat → Prop} {w : World} {a : Option Addr} {n c z : Nat} {l : List Pt} (hz : z ≤ l.length) (h : Rst S w (.slice a n c) l) : Rst S w (.slice (a.map fun p => ⟨p.block, p.off + 2 * z, none⟩) (n - z) (c - z)) (l.drop z) := by
  obtain ⟨⟨h0, a0, c0, e, hc⟩, a1, n1, c1, e', hnc, hc9, ha⟩ := h
  injection e with e1 e2 e3
  injection e' with f1 f2 f3
  subst e1 e2 e3 f1 f2 f3
  refine ⟨⟨by rw [List.length_drop]; omega, _, c - z, by rw [List.length_drop], fun i p hi => ?_⟩, _, _, _, rfl, by omega, by omega, ?_⟩
  · rw [List.getElem?_drop] at hi
    obtain ⟨b, o, rfl, hb, u1, u2, k1, k2⟩ := hc _ p hi
    refine ⟨b, o + 2 * z, rfl, hb, u1, u2, ?_, ?_⟩
    · rw [show o + 2 * z + 2 * i = o + 2 * (z + i) by omega]; exact k1
    · rw [show o + 2 * z + 2 * i + 1 = o + 2 * (z + i) + 1 by omega]; exact k2
  · rcases ha with ⟨rfl, rfl⟩ | ⟨b, o, rfl⟩
    · exact Or.inl ⟨rfl, by omega⟩
    · exact Or.inr ⟨b, o + 2 * z, rfl⟩
end Wk
set_option maxHeartbeats 3200000 in
set_option maxRecDepth 100000 in
theorem pgeo1_any {w0 w : World} {gp : Nat} {v : Value} {bs : List UInt8} {little : Bool} (h : PnS w0 w gp v bs little) (hl : bs.length ≤ 49999000) {S : Nat → Prop} (hS0 : ∀ k, S k → k < w0.heap.size) {sv u : Value} {ps : List Pt} (hP : Pts S w u ps) (hps : ps.length ≤ 1048576) :
    Calls Tryz.prog 38 #[.pointer (some ⟨gp, 0, none⟩), .agg #[.int .i64 1, sv, u]] w (Ppn w0 w gp v bs ([if little then 1 else 0] ++ (ord 4 1 little ++ spB little ps)) little) := by
  obtain ⟨B, hB⟩ : ∃ B, B = w.heap.size := ⟨_, rfl⟩
  have HB0 : Hid (B = w.heap.size) := hB
  have hxB := (h.old (b := B) (by omega)).1
  obtain ⟨W, hW0⟩ : ∃ W, W = w.alloc (.cells #[.int .i64 1, sv, u] 91) := ⟨_, rfl⟩
  have HW : Hid (w.alloc (.cells #[.int .i64 1, sv, u] 91) = W) := hW0.symm
  have hbW : Below w.heap.size w W := by rw [hW0]; exact alloc_below _
  have gB : W.heap[B]? = some (.cells #[.int .i64 1, sv, u] 91 (0, 0)) := by rw [hW0, hB]; exact heap_alloc_new _ _
  have hS := h.later hbW
  have hO := porder_any hS (by omega)
  obtain ⟨O, hOb⟩ : ∃ O : List UInt8, O = [if little then 1 else 0] := ⟨_, rfl⟩
  have hOl : O.length = 1 := by rw [hOb]; rfl
  rw [← hOb] at hO ⊢
  have c0 := cell_of gB 0
  have c1 := cell_of gB 1
  have c2 := cell_of gB 2
  simp only [List.getElem?_toArray, List.getElem?_cons_zero, List.getElem?_cons_succ] at c0 c1 c2
  have hbel := h.bel
  clear hW0 hB h hOb
  go_enter Tryz.func38, Tryz.ntmps38
  go_upto_region 1 with (fail)
  rw [HW.out, ← HB0.out]
  go_wp2_with fail
  refine hO.mono ?_
  rintro e w2 ⟨rfl, v2, hS2, hC2, hv2⟩
  clear hO c0 c1 c2
  have gB2 := (hC2.block B (lt_of_block gB) hxB).trans gB
  have hxB2 : ¬ Ep gp v2 B := fun q => hxB (ep_sub hv2 B (lt_of_block gB) q)
  have c0 := cell_of gB2 0
  have c1 := cell_of gB2 1
  have c2 := cell_of gB2 2
  simp only [List.getElem?_toArray, List.getElem?_cons_zero, List.getElem?_cons_succ] at c0 c1 c2
  have hN := pnumber_any hS2 (by rw [List.length_append, hOl]; omega) (V := 1) (by rw [show (256 : Nat) ^ 4 = 4294967296 by decide]; omega)
  go_wp2_with fail
  refine hN.mono ?_
  rintro e w3 ⟨rfl, v3, hS3, hC3, hv3⟩
  clear hN c0 c1 c2
  have gB3 := (hC3.block B (lt_of_block gB2) hxB2).trans gB2
  have hxB3 : ¬ Ep gp v3 B := fun q => hxB2 (ep_sub hv3 B (lt_of_block gB2) q)
  have c0 := cell_of gB3 0
  have c1 := cell_of gB3 1
  have c2 := cell_of gB3 2
  simp only [List.getElem?_toArray, List.getElem?_cons_zero, List.getElem?_cons_succ] at c0 c1 c2
  have hcw : Ch (Ep gp v) w w2 := (Ch.of_below (X := Ep gp v) hbW).trans hC2 (fun _ _ x => x)
  have hvw : v2.ownBlock = v.ownBlock ∨ ∃ g, v2.ownBlock = some g ∧ w.heap.size ≤ g := by
    have := hbW.size
    rcases hv2 with q | ⟨g, q, hg⟩
    · exact Or.inl q
    · exact Or.inr ⟨g, q, by omega⟩
  have Hcw := hidP hcw
  have Hvw := hidP hvw
  have HC3 := hidP hC3
  have Hv3 := hidP hv3
  have hlen : ((bs ++ O) ++ ord 4 1 little).length ≤ 50000000 := by rw [List.length_append, List.length_append, ord_len, hOl]; omega
  have hk3 : Kp S w w3 := ⟨by have := hbW.size; have := hC2.size; have := hC3.size; omega, fun k hk => (hS3.bel.block k (hS0 k hk)).trans (hbel.block k (hS0 k hk)).symm⟩
  have hT := pspot_any hS3 (by omega) (Pts.below hk3 hP) hps
  clear hcw hvw hC3 hv3 hC2 hv2 hbW gB gB2 gB3 hxB hxB2 hxB3 hS hS2 hbel hk3
  go_wp2_with fail
  refine hT.mono ?_
  intro e w4 hq
  have hf := Ppn.then Hcw.out Hvw.out (Ppn.then HC3.out Hv3.out hq)
  have he := hq.1
  subst he
  clear hT hq c0 c1 c2
  go_wp2
  go_end0
  exact hf
set_option maxHeartbeats 3200000 in
set_option maxRecDepth 100000 in
theorem pgeo2_any {w0 w : World} {gp : Nat} {v : Value} {bs : List UInt8} {little : Bool} (h : PnS w0 w gp v bs little) (hl : bs.length ≤ 49999000) {S : Nat → Prop} (hS0 : ∀ k, S k → k < w0.heap.size) {sv u : Value} {ps : List Pt} (hP : Pts S w u ps) (hps : ps.length ≤ 1048576) :
    Calls Tryz.prog 38 #[.pointer (some ⟨gp, 0, none⟩), .agg #[.int .i64 2, sv, u]] w (Ppn w0 w gp v bs ([if little then 1 else 0] ++ (ord 4 2 little ++ lnB little ps)) little) := by
  obtain ⟨B, hB⟩ : ∃ B, B = w.heap.size := ⟨_, rfl⟩
  have HB0 : Hid (B = w.heap.size) := hB
  have hxB := (h.old (b := B) (by omega)).1
  obtain ⟨W, hW0⟩ : ∃ W, W = w.alloc (.cells #[.int .i64 2, sv, u] 91) := ⟨_, rfl⟩
  have HW : Hid (w.alloc (.cells #[.int .i64 2, sv, u] 91) = W) := hW0.symm
  have hbW : Below w.heap.size w W := by rw [hW0]; exact alloc_below _
  have gB : W.heap[B]? = some (.cells #[.int .i64 2, sv, u] 91 (0, 0)) := by rw [hW0, hB]; exact heap_alloc_new _ _
  have hS := h.later hbW
  have hO := porder_any hS (by omega)
  obtain ⟨O, hOb⟩ : ∃ O : List UInt8, O = [if little then 1 else 0] := ⟨_, rfl⟩
  have hOl : O.length = 1 := by rw [hOb]; rfl
  rw [← hOb] at hO ⊢
  have c0 := cell_of gB 0
  have c1 := cell_of gB 1
  have c2 := cell_of gB 2
  simp only [List.getElem?_toArray, List.getElem?_cons_zero, List.getElem?_cons_succ] at c0 c1 c2
  have hbel := h.bel
  clear hW0 hB h hOb
  go_enter Tryz.func38, Tryz.ntmps38
  go_upto_region 1 with (fail)
  rw [HW.out, ← HB0.out]
  go_wp2_with fail
  refine hO.mono ?_
  rintro e w2 ⟨rfl, v2, hS2, hC2, hv2⟩
  clear hO c0 c1 c2
  have gB2 := (hC2.block B (lt_of_block gB) hxB).trans gB
  have hxB2 : ¬ Ep gp v2 B := fun q => hxB (ep_sub hv2 B (lt_of_block gB) q)
  have c0 := cell_of gB2 0
  have c1 := cell_of gB2 1
  have c2 := cell_of gB2 2
  simp only [List.getElem?_toArray, List.getElem?_cons_zero, List.getElem?_cons_succ] at c0 c1 c2
  have hN := pnumber_any hS2 (by rw [List.length_append, hOl]; omega) (V := 2) (by rw [show (256 : Nat) ^ 4 = 4294967296 by decide]; omega)
  go_wp2_with fail
  refine hN.mono ?_
  rintro e w3 ⟨rfl, v3, hS3, hC3, hv3⟩
  clear hN c0 c1 c2
  have gB3 := (hC3.block B (lt_of_block gB2) hxB2).trans gB2
  have hxB3 : ¬ Ep gp v3 B := fun q => hxB2 (ep_sub hv3 B (lt_of_block gB2) q)
  have c0 := cell_of gB3 0
  have c1 := cell_of gB3 1
  have c2 := cell_of gB3 2
  simp only [List.getElem?_toArray, List.getElem?_cons_zero, List.getElem?_cons_succ] at c0 c1 c2
  have hcw : Ch (Ep gp v) w w2 := (Ch.of_below (X := Ep gp v) hbW).trans hC2 (fun _ _ x => x)
  have hvw : v2.ownBlock = v.ownBlock ∨ ∃ g, v2.ownBlock = some g ∧ w.heap.size ≤ g := by
    have := hbW.size
    rcases hv2 with q | ⟨g, q, hg⟩
    · exact Or.inl q
    · exact Or.inr ⟨g, q, by omega⟩
  have Hcw := hidP hcw
  have Hvw := hidP hvw
  have HC3 := hidP hC3
  have Hv3 := hidP hv3
  have hlen : ((bs ++ O) ++ ord 4 2 little).length ≤ 50000000 := by rw [List.length_append, List.length_append, ord_len, hOl]; omega
  have hk3 : Kp S w w3 := ⟨by have := hbW.size; have := hC2.size; have := hC3.size; omega, fun k hk => (hS3.bel.block k (hS0 k hk)).trans (hbel.block k (hS0 k hk)).symm⟩
  have hT := pline_any hS3 (by omega) (Pts.below hk3 hP) hS0 hps
  clear hcw hvw hC3 hv3 hC2 hv2 hbW gB gB2 gB3 hxB hxB2 hxB3 hS hS2 hbel hk3
  go_wp2_with fail
  refine hT.mono ?_
  intro e w4 hq
  have hf := Ppn.then Hcw.out Hvw.out (Ppn.then HC3.out Hv3.out hq)
  have he := hq.1
  subst he
  clear hT hq c0 c1 c2
  go_wp2
  go_end0
  exact hf
set_option maxHeartbeats 3200000 in
set_option maxRecDepth 100000 in
theorem pgeo4_any {w0 w : World} {gp : Nat} {v : Value} {bs : List UInt8} {little : Bool} (h : PnS w0 w gp v bs little) (hl : bs.length ≤ 49999000) {S : Nat → Prop} (hS0 : ∀ k, S k → k < w0.heap.size) {sv u : Value} {K m sc N sb so : Nat} (hsv : Hid (sv = .slice (some ⟨sb, so, none⟩) (m + 1) sc)) (hK4 : 4 ≤ K) (hK7 : K ≤ 7) (hN9 : N ≤ 1048576) (hm : m ≤ 1048576) (hsb : S sb) (hz : w.cell? ⟨sb, so, none⟩ = some (.int .i64 (N : Int))) :
    Calls Tryz.prog 38 #[.pointer (some ⟨gp, 0, none⟩), .agg #[.int .i64 (K : Int), sv, u]] w (Ppn w0 w gp v bs ([if little then 1 else 0] ++ (ord 4 K little ++ ord 4 N little)) little) := by
  obtain ⟨B, hB⟩ : ∃ B, B = w.heap.size := ⟨_, rfl⟩
  have HB0 : Hid (B = w.heap.size) := hB
  have hxB := (h.old (b := B) (by omega)).1
  obtain ⟨W, hW0⟩ : ∃ W, W = w.alloc (.cells #[.int .i64 (K : Int), sv, u] 91) := ⟨_, rfl⟩
  have HW : Hid (w.alloc (.cells #[.int .i64 (K : Int), sv, u] 91) = W) := hW0.symm
  have hbW : Below w.heap.size w W := by rw [hW0]; exact alloc_below _
  have gB : W.heap[B]? = some (.cells #[.int .i64 (K : Int), sv, u] 91 (0, 0)) := by rw [hW0, hB]; exact heap_alloc_new _ _
  have hS := h.later hbW
  have hO := porder_any hS (by omega)
  obtain ⟨O, hOb⟩ : ∃ O : List UInt8, O = [if little then 1 else 0] := ⟨_, rfl⟩
  have hOl : O.length = 1 := by rw [hOb]; rfl
  rw [← hOb] at hO ⊢
  have c0 := cell_of gB 0
  have c1 := cell_of gB 1
  have c2 := cell_of gB 2
  simp only [List.getElem?_toArray, List.getElem?_cons_zero, List.getElem?_cons_succ] at c0 c1 c2
  have hbel := h.bel
  clear hW0 hB h hOb
  go_enter Tryz.func38, Tryz.ntmps38
  go_upto_region 1 with (fail)
  rw [HW.out, ← HB0.out]
  go_wp2_with fail
  refine hO.mono ?_
  rintro e w2 ⟨rfl, v2, hS2, hC2, hv2⟩
  clear hO c0 c1 c2
  have gB2 := (hC2.block B (lt_of_block gB) hxB).trans gB
  have hxB2 : ¬ Ep gp v2 B := fun q => hxB (ep_sub hv2 B (lt_of_block gB) q)
  have c0 := cell_of gB2 0
  have c1 := cell_of gB2 1
  have c2 := cell_of gB2 2
  simp only [List.getElem?_toArray, List.getElem?_cons_zero, List.getElem?_cons_succ] at c0 c1 c2
  have hN := pnumber_any hS2 (by rw [List.length_append, hOl]; omega) (V := K) (by rw [show (256 : Nat) ^ 4 = 4294967296 by decide]; omega)
  go_wp2_with fail
  refine hN.mono ?_
  rintro e w3 ⟨rfl, v3, hS3, hC3, hv3⟩
  clear hN c0 c1 c2
  have gB3 := (hC3.block B (lt_of_block gB2) hxB2).trans gB2
  have hxB3 : ¬ Ep gp v3 B := fun q => hxB2 (ep_sub hv3 B (lt_of_block gB2) q)
  have c0 := cell_of gB3 0
  have c1 := cell_of gB3 1
  have c2 := cell_of gB3 2
  simp only [List.getElem?_toArray, List.getElem?_cons_zero, List.getElem?_cons_succ] at c0 c1 c2
  have hcw : Ch (Ep gp v) w w2 := (Ch.of_below (X := Ep gp v) hbW).trans hC2 (fun _ _ x => x)
  have hvw : v2.ownBlock = v.ownBlock ∨ ∃ g, v2.ownBlock = some g ∧ w.heap.size ≤ g := by
    have := hbW.size
    rcases hv2 with q | ⟨g, q, hg⟩
    · exact Or.inl q
    · exact Or.inr ⟨g, q, by omega⟩
  have Hcw := hidP hcw
  have Hvw := hidP hvw
  have HC3 := hidP hC3
  have Hv3 := hidP hv3
  have hlen : ((bs ++ O) ++ ord 4 K little).length ≤ 50000000 := by rw [List.length_append, List.length_append, ord_len, hOl]; omega
  have hk3 : Kp S w w3 := ⟨by have := hbW.size; have := hC2.size; have := hC3.size; omega, fun k hk => (hS3.bel.block k (hS0 k hk)).trans (hbel.block k (hS0 k hk)).symm⟩
  have hz3 : w3.cell? ⟨sb, so, none⟩ = some (.int .i64 (N : Int)) := (hk3.cell (p := ⟨sb, so, none⟩) hsb).trans hz
  rw [hsv.out] at c1
  have hT := pnumber_any hS3 (by omega) (V := N) (by rw [show (256 : Nat) ^ 4 = 4294967296 by decide]; omega)
  clear hz
  clear hcw hvw hC3 hv3 hC2 hv2 hbW gB gB2 gB3 hxB hxB2 hxB3 hS hS2 hbel hk3
  go_wp2_with fail
  refine hT.mono ?_
  intro e w4 hq
  have hf := Ppn.then Hcw.out Hvw.out (Ppn.then HC3.out Hv3.out hq)
  have he := hq.1
  subst he
  clear hT hq c0 c1 c2
  go_wp2
  go_end0
  exact hf
set_option maxHeartbeats 3200000 in
set_option maxRecDepth 100000 in
theorem pgeo3_any {w0 w : World} {gp : Nat} {v : Value} {bs : List UInt8} {little : Bool} (h : PnS w0 w gp v bs little) (hl : bs.length ≤ 49999000) {S : Nat → Prop} (hS0 : ∀ k, S k → k < w0.heap.size) {sv u : Value} {zs : List Nat} {ps : List Pt} {sa la : Option Addr} {sc lc : Nat} (hsv : Hid (sv = .slice sa zs.length sc)) (hu : Hid (u = .slice la ps.length lc)) (hP : Hid (Rst S w u ps)) (hZ : Hid (∀ i z : Nat, zs[i]? = some z → ∃ b o, sa = some ⟨b, o, none⟩ ∧ S b ∧ w.cell? ⟨b, o + i, none⟩ = some (.int .i64 (z : Int)))) (hsum : Hid (zs.sum = ps.length)) (hm : zs.length ≤ 1048576) (hn : ps.length ≤ 1048576) :
    Calls Tryz.prog 38 #[.pointer (some ⟨gp, 0, none⟩), .agg #[.int .i64 3, sv, u]] w (Ppn w0 w gp v bs ([if little then 1 else 0] ++ (ord 4 3 little ++ (ord 4 zs.length little ++ rgB little zs ps))) little) := by
  obtain ⟨B, hB⟩ : ∃ B, B = w.heap.size := ⟨_, rfl⟩
  have HB0 : Hid (B = w.heap.size) := hB
  have hxB := (h.old (b := B) (by omega)).1
  obtain ⟨W, hW0⟩ : ∃ W, W = w.alloc (.cells #[.int .i64 3, sv, u] 91) := ⟨_, rfl⟩
  have HW : Hid (w.alloc (.cells #[.int .i64 3, sv, u] 91) = W) := hW0.symm
  have hbW : Below w.heap.size w W := by rw [hW0]; exact alloc_below _
  have gB : W.heap[B]? = some (.cells #[.int .i64 3, sv, u] 91 (0, 0)) := by rw [hW0, hB]; exact heap_alloc_new _ _
  have hS := h.later hbW
  have hO := porder_any hS (by omega)
  obtain ⟨O, hOb⟩ : ∃ O : List UInt8, O = [if little then 1 else 0] := ⟨_, rfl⟩
  have hOl : O.length = 1 := by rw [hOb]; rfl
  rw [← hOb] at hO ⊢
  have c0 := cell_of gB 0
  have c1 := cell_of gB 1
  have c2 := cell_of gB 2
  simp only [List.getElem?_toArray, List.getElem?_cons_zero, List.getElem?_cons_succ] at c0 c1 c2
  have hbel := h.bel
  clear hW0 hB h hOb
  go_enter Tryz.func38, Tryz.ntmps38
  go_upto_region 1 with (fail)
  rw [HW.out, ← HB0.out]
  go_wp2_with fail
  refine hO.mono ?_
  rintro e w2 ⟨rfl, v2, hS2, hC2, hv2⟩
  clear hO c0 c1 c2
  have gB2 := (hC2.block B (lt_of_block gB) hxB).trans gB
  have hxB2 : ¬ Ep gp v2 B := fun q => hxB (ep_sub hv2 B (lt_of_block gB) q)
  have c0 := cell_of gB2 0
  have c1 := cell_of gB2 1
  have c2 := cell_of gB2 2
  simp only [List.getElem?_toArray, List.getElem?_cons_zero, List.getElem?_cons_succ] at c0 c1 c2
  have hN := pnumber_any hS2 (by rw [List.length_append, hOl]; omega) (V := 3) (by rw [show (256 : Nat) ^ 4 = 4294967296 by decide]; omega)
  go_wp2_with fail
  refine hN.mono ?_
  rintro e w3 ⟨rfl, v3, hS3, hC3, hv3⟩
  clear hN c0 c1 c2
  have gB3 := (hC3.block B (lt_of_block gB2) hxB2).trans gB2
  have hxB3 : ¬ Ep gp v3 B := fun q => hxB2 (ep_sub hv3 B (lt_of_block gB2) q)
  have c0 := cell_of gB3 0
  have c1 := cell_of gB3 1
  have c2 := cell_of gB3 2
  simp only [List.getElem?_toArray, List.getElem?_cons_zero, List.getElem?_cons_succ] at c0 c1 c2
  have hcw : Ch (Ep gp v) w w2 := (Ch.of_below (X := Ep gp v) hbW).trans hC2 (fun _ _ x => x)
  have hvw : v2.ownBlock = v.ownBlock ∨ ∃ g, v2.ownBlock = some g ∧ w.heap.size ≤ g := by
    have := hbW.size
    rcases hv2 with q | ⟨g, q, hg⟩
    · exact Or.inl q
    · exact Or.inr ⟨g, q, by omega⟩
  have Hcw := hidP hcw
  have Hvw := hidP hvw
  have HC3 := hidP hC3
  have Hv3 := hidP hv3
  have hlen : ((bs ++ O) ++ ord 4 3 little).length ≤ 50000000 := by rw [List.length_append, List.length_append, ord_len, hOl]; omega
  have hk3 : Kp S w w3 := ⟨by have := hbW.size; have := hC2.size; have := hC3.size; omega, fun k hk => (hS3.bel.block k (hS0 k hk)).trans (hbel.block k (hS0 k hk)).symm⟩
  obtain ⟨m, hm0⟩ : ∃ m, m = zs.length := ⟨_, rfl⟩
  have HM : Hid (m = zs.length) := hm0
  rw [← hm0] at hm hsv ⊢
  have hT := pnumber_any hS3 (by omega) (V := m) (by rw [show (256 : Nat) ^ 4 = 4294967296 by decide]; omega)
  rw [hsv.out] at c1
  rw [hu.out] at c2
  clear hcw hvw hC3 hv3 hC2 hv2 hbW gB gB2 hxB hxB2 hS hS2 hm0
  go_wp2_with fail
  refine hT.mono ?_
  rintro e w4 ⟨rfl, v4, hS4, hC4, hv4⟩
  clear hT c0 c1 c2
  have gB4 := (hC4.block B (lt_of_block gB3) hxB3).trans gB3
  have c0 := cell_of gB4 0
  have c1 := cell_of gB4 1
  have c2 := cell_of gB4 2
  simp only [List.getElem?_toArray, List.getElem?_cons_zero, List.getElem?_cons_succ] at c0 c1 c2
  rw [hsv.out] at c1
  rw [hu.out] at c2
  obtain ⟨Y, hY⟩ : ∃ Y, Y = bs ++ O ++ ord 4 3 little ++ ord 4 m little := ⟨_, rfl⟩
  have hYl : Y.length ≤ 50000000 := by rw [hY, List.length_append, List.length_append, List.length_append, ord_len, ord_len, hOl]; omega
  rw [← hY] at hS4
  have HY : Hid (Y = bs ++ O ++ ord 4 3 little ++ ord 4 m little) := hY
  have hkw : ∀ w', Below w0.heap.size w0 w' → w.heap.size ≤ w'.heap.size → Kp S w w' := fun w' hb hs => ⟨hs, fun k hk => (hb.block k (hS0 k hk)).trans (hbel.block k (hS0 k hk)).symm⟩
  have hs4 : w.heap.size ≤ w4.heap.size := by have := hC4.size; have := hk3.size; omega
  have HX0 : Hid (∃ vj, PnS w0 w4 gp vj (Y ++ rgB little (zs.take 0) ps) little ∧ Ch (Ep gp v4) w4 w4 ∧ (vj.ownBlock = v4.ownBlock ∨ ∃ g, vj.ownBlock = some g ∧ w4.heap.size ≤ g)) := ⟨v4, by simpa [rgB] using hS4, Ch.refl _ _, Or.inl rfl⟩
  have HR0 : Hid (Rst S w4 (.slice la ps.length lc) (ps.drop (zs.take 0).sum)) := by
    have := Rst.below (hkw w4 hS4.bel hs4) hP.out
    rw [hu.out] at this
    show Rst _ _ _ _
    simpa using this
  have Hkw := hidP hkw
  have HS0 := hidP hS0
  have HC4 := hidP hC4
  have Hv4 := hidP hv4
  have Hs4 := hidP hs4
  clear hS3 gB3 hxB3 hlen hk3 hS4 hC4 hv4 gB4 hY hkw hS0 hbel hs4 hOl hl
  go_wp2
  go_loopw [4, 45] (fun r i wr => ∃ j : Nat, i = .int .i64 (j : Int) ∧ j ≤ m ∧ Hid (∃ vj, PnS w0 wr gp vj (Y ++ rgB little (zs.take j) ps) little ∧ Ch (Ep gp v4) w4 wr ∧ (vj.ownBlock = v4.ownBlock ∨ ∃ g, vj.ownBlock = some g ∧ w4.heap.size ≤ g)) ∧ Hid (Rst S wr r (ps.drop (zs.take j).sum))) (fun _ i _ => m - (intOf i).toNat)
  case atStart => exact ⟨0, rfl, Nat.zero_le _, HX0, HR0⟩
  case round =>
    obtain ⟨j, rfl, hj, HX, HR⟩ := hrel
    obtain ⟨vj, hSj, hCj, hvj⟩ := HX.out
    by_cases hlt : j < m
    · obtain ⟨z, hz⟩ : ∃ z, zs[j]? = some z := ⟨_, List.getElem?_eq_getElem (by rw [← HM.out]; exact hlt)⟩
      obtain ⟨b, o, rfl, hSb, hcz⟩ := hZ.out j z hz
      have hsj : w.heap.size ≤ wr.heap.size := by have := hCj.size; have := Hs4.out; omega
      have kz : wr.cell? ⟨b, o + j, none⟩ = some (.int .i64 (z : Int)) := ((Hkw.out wr hSj.bel hsj).cell (p := ⟨b, o + j, none⟩) hSb).trans hcz
      have hT1 : zs.take (j + 1) = zs.take j ++ [z] := by rw [List.take_add_one, hz]; rfl
      have hsm : (zs.take j).sum + z ≤ ps.length := by
        have h1 : (zs.take (j + 1)).sum + (zs.drop (j + 1)).sum = zs.sum := by rw [← List.sum_append, List.take_append_drop]
        rw [hT1, List.sum_append, hsum.out] at h1
        simp at h1
        omega
      have HT : Hid (rgB little (zs.take (j + 1)) ps = rgB little (zs.take j) ps ++ lnB little ((ps.drop (zs.take j).sum).take z)) := by
        show _ = _
        rw [hT1]; exact rgB_snoc little _ z ps
      have HD : Hid (ps.drop (zs.take (j + 1)).sum = (ps.drop (zs.take j).sum).drop z) := by
        show _ = _
        rw [hT1, List.sum_append, List.drop_drop]; simp
      obtain ⟨l, hl0⟩ : ∃ l, l = ps.drop (zs.take j).sum := ⟨_, rfl⟩
      have hzl : z ≤ l.length := by rw [hl0, List.length_drop]; omega
      rw [← hl0] at HT HD HR
      have hz9 : z ≤ 1048576 := by omega
      have hlen : (Y ++ rgB little (zs.take j) ps).length ≤ 80000000 := by
        have := rgB_len little (zs.take j) ps
        rw [List.length_append]
        rw [List.length_take] at this
        omega
      obtain ⟨hPl, a, n', c', rfl, hnc, hc9, ha⟩ := HR.out
      have hn' : n' = l.length := by
        obtain ⟨_, a0, c0', e, _⟩ := hPl
        injection e
      rw [← hn'] at hzl
      have hR5 : ∀ w', Kp S wr w' → Rst S w' (.slice (a.map fun p => ⟨p.block, p.off + 2 * z, none⟩) (n' - z) (c' - z)) (l.drop z) := fun w' hk => Rst.drop (hn' ▸ hzl) (Rst.below hk HR.out)
      have hPt : Pts S wr (.slice a z c') (l.take z) := pts_take (hn' ▸ hzl) hPl
      have hPc := pline_any hSj hlen hPt HS0.out (by rw [List.length_take]; omega)
      have HR5 := hidP hR5
      have Hl5 := hidP hCj
      have Hv5 := hidP hvj
      have HSj := hidP hSj
      clear hR5 hPt hPl hl0 hsm hT1 hz hcz hsj hCj hvj HX HR hlen hSj HX0 HR0
      rcases ha with ⟨rfl, rfl⟩ | ⟨ab, ao, rfl⟩
      · have hz0 : z = 0 := by omega
        have hn0 : n' = 0 := by omega
        clear hn'
        subst hz0 hn0
        simp only [Option.map_none] at HR5
        go_wp2_with fail
        refine hPc.mono ?_
        rintro e w5 ⟨rfl, v5, hS5, hC5, hv5⟩
        clear hPc
        have HX5 : Hid (∃ vj, PnS w0 w5 gp vj (Y ++ rgB little (zs.take (j + 1)) ps) little ∧ Ch (Ep gp v4) w4 w5 ∧ (vj.ownBlock = v4.ownBlock ∨ ∃ g, vj.ownBlock = some g ∧ w4.heap.size ≤ g)) := by
          refine ⟨v5, ?_, Hl5.out.trans hC5 (fun i hi => ep_sub Hv5.out i hi), ?_⟩
          · rw [HT.out, ← List.append_assoc]
            exact hS5
          · have s1 := Hl5.out.size
            rcases hv5 with q | ⟨g, q, hg⟩
            · rw [q]; exact Hv5.out
            · exact Or.inr ⟨g, q, by omega⟩
        have hk5 : Kp S wr w5 := ⟨hC5.size, fun k hk => (hS5.bel.block k (HS0.out k hk)).trans (HSj.out.bel.block k (HS0.out k hk)).symm⟩
        have HR6 := hidP (HR5.out w5 hk5)
        clear hS5 hC5 hv5 hk5 HR5
        go_wp2
        go_roundw
        case rel =>
          refine ⟨j + 1, by go_num, by omega, HX5, ?_⟩
          rw [HD.out]
          exact HR6
        case measure => simp [intOf]; omega
      · simp only [Option.map_some] at HR5
        go_wp2_with fail
        refine hPc.mono ?_
        rintro e w5 ⟨rfl, v5, hS5, hC5, hv5⟩
        clear hPc
        have HX5 : Hid (∃ vj, PnS w0 w5 gp vj (Y ++ rgB little (zs.take (j + 1)) ps) little ∧ Ch (Ep gp v4) w4 w5 ∧ (vj.ownBlock = v4.ownBlock ∨ ∃ g, vj.ownBlock = some g ∧ w4.heap.size ≤ g)) := by
          refine ⟨v5, ?_, Hl5.out.trans hC5 (fun i hi => ep_sub Hv5.out i hi), ?_⟩
          · rw [HT.out, ← List.append_assoc]
            exact hS5
          · have s1 := Hl5.out.size
            rcases hv5 with q | ⟨g, q, hg⟩
            · rw [q]; exact Hv5.out
            · exact Or.inr ⟨g, q, by omega⟩
        have hk5 : Kp S wr w5 := ⟨hC5.size, fun k hk => (hS5.bel.block k (HS0.out k hk)).trans (HSj.out.bel.block k (HS0.out k hk)).symm⟩
        have HR6 := hidP (HR5.out w5 hk5)
        clear hS5 hC5 hv5 hk5 HR5
        go_wp2
        go_roundw
        case rel =>
          refine ⟨j + 1, by go_num, by omega, HX5, ?_⟩
          rw [HD.out]
          split
          · next hcz =>
            have hd : l.drop z = [] := List.drop_eq_nil_of_le (by omega)
            rw [hd, show l.length - z = 0 by omega, show c' - z = 0 by omega]
            exact Rst.nil
          · rw [Nat.mul_comm z 2, ← hn']
            exact HR6
        case measure => simp [intOf]; omega
    · have hjn : zs.take j = zs := List.take_of_length_le (by rw [← HM.out]; omega)
      rw [hjn] at hSj
      have hf := Ppn.then Hcw.out Hvw.out (Ppn.then HC3.out Hv3.out (Ppn.then HC4.out Hv4.out (xs := ord 4 m little) (ys := rgB little zs ps) (e := .returned (.tuple #[])) (w2 := wr) ⟨rfl, vj, by rw [← HY.out]; exact hSj, hCj, hvj⟩))
      rw [HM.out] at hf
      clear hjn HX HX0 HR0 HR hSj hCj hvj
      go_wp2
      go_end0
      exact hf

end Go.Proofs.YtgobnjeankjkjaaGreatDoor

/- Layer 17: the order of a geometry; the size of nodes. -/
namespace Go.Proofs.YtgobnjeankjkjaaGreatDoor
open Go.ChangeShapes Go.WideShapes Go.ChangeAt Go.RowKit
open Ep Oc Tr Wk
set_option linter.unusedVariables false
namespace Wk
/-- the order of the i-th geometry -/
def orO (os : List Bool) (i : Nat) : Bool := os.getD (min i (os.length - 1)) false
/-- a node's value: its lists are slices -/
structure NdV where
  k : Int
  sa : Option Addr
  m : Nat
  sc : Nat
  la : Option Addr
  n : Nat
  lc : Nat
def NdV.sv (d : NdV) : Value := .slice d.sa d.m d.sc
def NdV.lv (d : NdV) : Value := .slice d.la d.n d.lc
/-- a row of nodes in memory -/
def Nds (S : Nat → Prop) (w : World) (a : Option Addr) (ds : List NdV) : Prop :=
  ∀ i d, ds[i]? = some d → (d.m ≤ 1048576 ∧ d.n ≤ 1048576 ∧ -9223372036854775808 ≤ d.k ∧ d.k ≤ 9223372036854775807) ∧ ∃ b o, a = some ⟨b, o, none⟩ ∧ S b ∧ w.cell? ⟨b, o + i * 3, none⟩ = some (.int .i64 d.k) ∧ w.cell? ⟨b, o + i * 3 + 1, none⟩ = some (.slice d.sa d.m d.sc) ∧ w.cell? ⟨b, o + i * 3 + 2, none⟩ = some (.slice d.la d.n d.lc)
theorem Nds.below {S : Nat → Prop} {w w' : World} {a : Option Addr} {ds : List NdV} (h : Nds S w a ds) (hk : Kp S w w') : Nds S w' a ds := fun i d hi => by
  obtain ⟨q, b, o, e, hb, k1, k2, k3⟩ := h i d hi
  exact ⟨q, b, o, e, hb, (hk.cell (p := ⟨b, o + i * 3, none⟩) hb).trans k1, (hk.cell (p := ⟨b, o + i * 3 + 1, none⟩) hb).trans k2, (hk.cell (p := ⟨b, o + i * 3 + 2, none⟩) hb).trans k3⟩
def szN : List NdV → Nat
  | [] => 0
  | d :: r => 5 + bodyN d.k d.m d.n + szN r
theorem szN_snoc : ∀ (l : List NdV) (d : NdV), szN (l ++ [d]) = szN l + (5 + bodyN d.k d.m d.n)
  | [], d => by show 5 + bodyN d.k d.m d.n + 0 = 0 + _; omega
  | e :: r, d => by show 5 + bodyN e.k e.m e.n + szN (r ++ [d]) = 5 + bodyN e.k e.m e.n + szN r + _; rw [szN_snoc]; omega
theorem bodyN_le (k : Int) (m n : Nat) : bodyN k m n ≤ 16 + 4 * m + 16 * n := by unfold bodyN; split <;> (try split) <;> omega
theorem szN_le {S : Nat → Prop} {w : World} {a : Option Addr} : ∀ (ds : List NdV), (∀ d ∈ ds, d.m ≤ 1048576 ∧ d.n ≤ 1048576) → szN ds ≤ 20971541 * ds.length
  | [], _ => by show (0 : Nat) ≤ _; omega
  | d :: r, h => by
    show 5 + bodyN d.k d.m d.n + szN r ≤ _
    have h1 := szN_le (S := S) (w := w) (a := a) r (fun x hx => h x (List.mem_cons_of_mem _ hx))
    have h2 := bodyN_le d.k d.m d.n
    have := h d (List.mem_cons_self ..)
    rw [List.length_cons]
    omega
end Wk
set_option maxHeartbeats 3200000 in
set_option maxRecDepth 100000 in
theorem orderOf_any {w : World} {a : Option Addr} {c j : Nat} {os : List Bool} (hc : ∀ i x, os[i]? = some x → ∃ b o, a = some ⟨b, o, none⟩ ∧ w.cell? ⟨b, o + i, none⟩ = some (.bool x)) (hn : os.length ≤ 100000000) (hj : j ≤ 100000000) :
    Calls Tryz.prog 37 #[.slice a os.length c, .int .i64 (j : Int)] w (fun e w' => e = .returned (.bool (orO os j)) ∧ w' = w) := by
  obtain ⟨n, hn0⟩ : ∃ n, n = os.length := ⟨_, rfl⟩
  rw [← hn0] at hn ⊢
  by_cases h0 : n = 0
  · have HB : Hid (orO os j = false) := by
      show _ = _
      have : os = [] := List.eq_nil_of_length_eq_zero (by omega)
      rw [this]; rfl
    clear hc hn0
    subst h0
    go_enter Tryz.func37, Tryz.ntmps37
    go_wp2
    rw [HB.out]
    go_ret
    exact ⟨rfl, rfl⟩
  · obtain ⟨t, ht⟩ : ∃ t, t = min j (n - 1) := ⟨_, rfl⟩
    have htl : t < os.length := by omega
    obtain ⟨x, hx⟩ : ∃ x, os[t]? = some x := ⟨_, List.getElem?_eq_getElem htl⟩
    have HB : Hid (orO os j = x) := by
      show _ = _
      unfold orO
      rw [← hn0, ← ht, List.getD_eq_getElem?_getD, hx]
      rfl
    obtain ⟨b, o, rfl, k1⟩ := hc t x hx
    have Ht := hidP ht
    clear hc hx ht
    rw [HB.out]
    have htn : t < n := by omega
    by_cases hle : j ≤ n - 1
    · have e1 : t = j := by have := Ht.out; omega
      rw [e1] at k1
      clear hn0 htl Ht htn e1
      go_enter Tryz.func37, Tryz.ntmps37
      go_wp2
      go_ret
      exact ⟨rfl, rfl⟩
    · obtain ⟨N, rfl⟩ : ∃ N, n = N + 1 := ⟨n - 1, by omega⟩
      have e1 : t = N := by have := Ht.out; omega
      rw [e1] at k1
      have hjN : N < j := by omega
      clear hn0 htl Ht htn e1 hle h0
      go_enter Tryz.func37, Tryz.ntmps37
      go_wp2
      go_ret
      exact ⟨rfl, rfl⟩
set_option maxHeartbeats 3200000 in
set_option maxRecDepth 100000 in
theorem size17_any {S : Nat → Prop} {w : World} (hS : ∀ k, S k → k < w.heap.size) {a : Option Addr} {c : Nat} {ds : List NdV} (hD : Nds S w a ds) (hn : ds.length ≤ 1048576) :
    Calls Tryz.prog 36 #[.slice a ds.length c] w (fun e w' => e = .returned (.int .i64 ((szN ds : Nat) : Int)) ∧ Below w.heap.size w w') := by
  obtain ⟨n, hn0⟩ : ∃ n, n = ds.length := ⟨_, rfl⟩
  have HN : Hid (n = ds.length) := hn0
  rw [← hn0] at hn ⊢
  have HD := hidP hD
  have HS := hidP hS
  have HB : Hid (∀ j, szN (ds.take j) ≤ 30000000000000) := fun j => by
    have h1 := szN_le (S := S) (w := w) (a := a) (ds.take j) (fun d hd => by
      obtain ⟨i, hi, rfl⟩ := List.getElem_of_mem (List.mem_of_mem_take hd)
      have := (hD i _ (List.getElem?_eq_getElem hi)).1
      exact ⟨this.1, this.2.1⟩)
    rw [List.length_take] at h1
    omega
  clear hD hS hn0
  go_enter Tryz.func36, Tryz.ntmps36
  go_wp2
  go_loopw [3, 8] (fun t i wr => ∃ j : Nat, i = .int .i64 (j : Int) ∧ j ≤ n ∧ t = .int .i64 ((szN (ds.take j) : Nat) : Int) ∧ Below w.heap.size w wr) (fun _ i _ => n - (intOf i).toNat)
  case atStart => exact ⟨0, rfl, Nat.zero_le _, rfl, Below.refl _ _⟩
  case round =>
    obtain ⟨j, rfl, hj, rfl, hb⟩ := hrel
    by_cases hlt : j < n
    · obtain ⟨d, hd⟩ : ∃ d, ds[j]? = some d := ⟨_, List.getElem?_eq_getElem (by rw [← HN.out]; exact hlt)⟩
      obtain ⟨⟨q1, q2, q3, q4⟩, b, o, rfl, hSb, k1, k2, k3⟩ := (HD.out.below (Kp.of_below hb HS.out)) j d hd
      have HT : Hid (szN (ds.take (j + 1)) = szN (ds.take j) + (5 + bodyN d.k d.m d.n)) := by
        show _ = _
        rw [List.take_add_one, hd]
        exact szN_snoc _ d
      have b1 := HB.out j
      have b2 := HB.out (j + 1)
      have b3 := bodyN_le d.k d.m d.n
      obtain ⟨T, hT⟩ : ∃ T, T = szN (ds.take j) := ⟨_, rfl⟩
      obtain ⟨E, hE⟩ : ∃ E, E = bodyN d.k d.m d.n := ⟨_, rfl⟩
      rw [← hT] at b1 HT ⊢
      have hC := bodyBytes_any (w := wr.alloc (.cells #[.int .i64 d.k, .slice d.sa d.m d.sc, .slice d.la d.n d.lc] 91)) (k := d.k) (sa := d.sa) (la := d.la) (sc := d.sc) (lc := d.lc) q1 q2
      rw [← hE] at b3 HT hC
      have Hb := hidP hb
      clear hT hE hd hb b2
      go_wp2_with fail
      refine hC.mono ?_
      rintro e w5 ⟨rfl, hb5⟩
      clear hC
      have Hb5 : Hid (Below w.heap.size w w5) := Hb.out.trans (((alloc_below _).trans (hb5.mono (alloc_below _).size)).mono Hb.out.size)
      clear hb5
      go_wp2
      go_roundw
      case rel => exact ⟨j + 1, by go_num, by omega, by rw [HT.out]; simp [Int.natCast_add]; try omega, Hb5⟩
      case measure => simp [intOf]; omega
    · have hjn : ds.take j = ds := List.take_of_length_le (by rw [← HN.out]; omega)
      rw [hjn]
      have hjb := HB.out j
      rw [hjn] at hjb
      clear hjn
      go_wp2
      go_ret
      exact ⟨rfl, hb⟩
end Go.Proofs.YtgobnjeankjkjaaGreatDoor

/- Layer 17: the pen: a node of any kind. -/
namespace Go.Proofs.YtgobnjeankjkjaaGreatDoor
open Go.ChangeShapes Go.WideShapes Go.ChangeAt Go.RowKit
open Ep Oc Tr Wk
set_option linter.unusedVariables false
namespace Wk
/-- a node as numbers: its kind, its sizes, its places -/
structure Nd where
  k : Nat
  zs : List Nat
  ps : List Pt
def Nd.body (d : Nd) (little : Bool) : List UInt8 :=
  if d.k = 1 then spB little d.ps else if d.k = 2 then lnB little d.ps else if d.k = 3 then ord 4 d.zs.length little ++ rgB little d.zs d.ps else ord 4 (d.zs.getD 0 0) little
def Nd.bytes (d : Nd) (little : Bool) : List UInt8 := [if little then 1 else 0] ++ (ord 4 d.k little ++ d.body little)
/-- what a node of a right tree is -/
structure Nd.Ok (d : Nd) : Prop where
  k : 1 ≤ d.k ∧ d.k ≤ 7
  ps : d.ps.length ≤ 1048576
  zs : d.zs.length ≤ 1048576
  sum : d.k = 3 → d.zs.sum = d.ps.length
  one : 4 ≤ d.k → ∃ N, d.zs = [N] ∧ N ≤ 1048576
/-- a node's value stands for it -/
structure NdIs (S : Nat → Prop) (w : World) (v : NdV) (d : Nd) : Prop where
  k : v.k = (d.k : Int)
  m : v.m = d.zs.length
  n : v.n = d.ps.length
  line : Rst S w v.lv d.ps
  sizes : ∀ i z : Nat, d.zs[i]? = some z → ∃ b o, v.sa = some ⟨b, o, none⟩ ∧ S b ∧ w.cell? ⟨b, o + i, none⟩ = some (.int .i64 (z : Int))
theorem NdIs.below {S : Nat → Prop} {w w' : World} {v : NdV} {d : Nd} (h : NdIs S w v d) (hk : Kp S w w') : NdIs S w' v d :=
  ⟨h.k, h.m, h.n, Rst.below hk h.line, fun i z hi => by
    obtain ⟨b, o, e, hb, q⟩ := h.sizes i z hi
    exact ⟨b, o, e, hb, (hk.cell (p := ⟨b, o + i, none⟩) hb).trans q⟩⟩
end Wk
theorem pgeo_any {w0 w : World} {gp : Nat} {v : Value} {bs : List UInt8} {little : Bool} (h : PnS w0 w gp v bs little) (hl : bs.length ≤ 49999000) {S : Nat → Prop} (hS0 : ∀ k, S k → k < w0.heap.size) {nv : NdV} {d : Nd} (hd : NdIs S w nv d) (ho : d.Ok) :
    Calls Tryz.prog 38 #[.pointer (some ⟨gp, 0, none⟩), .agg #[.int .i64 nv.k, nv.sv, nv.lv]] w (Ppn w0 w gp v bs (d.bytes little) little) := by
  obtain ⟨k1, k7⟩ := ho.k
  unfold Nd.bytes Nd.body
  rw [hd.k]
  by_cases e1 : d.k = 1
  · rw [if_pos e1, e1]
    exact pgeo1_any h hl hS0 hd.line.1 ho.ps
  · by_cases e2 : d.k = 2
    · rw [if_neg e1, if_pos e2, e2]
      exact pgeo2_any h hl hS0 hd.line.1 ho.ps
    · by_cases e3 : d.k = 3
      · rw [if_neg e1, if_neg e2, if_pos e3, e3]
        exact pgeo3_any h hl hS0 (sa := nv.sa) (sc := nv.sc) (la := nv.la) (lc := nv.lc) (hidP (by unfold NdV.sv; rw [hd.m])) (hidP (by unfold NdV.lv; rw [hd.n])) (hidP hd.line) (hidP hd.sizes) (hidP (ho.sum e3)) ho.zs ho.ps
      · rw [if_neg e1, if_neg e2, if_neg e3]
        obtain ⟨N, hN, hN9⟩ := ho.one (by omega)
        obtain ⟨b, o, e, hb, q⟩ := hd.sizes 0 N (by rw [hN]; rfl)
        rw [hN]
        exact pgeo4_any h hl hS0 (K := d.k) (m := 0) (sc := nv.sc) (N := N) (sb := b) (so := o) (hidP (by unfold NdV.sv; rw [hd.m, hN, e]; rfl)) (by omega) k7 hN9 (by omega) hb q
end Go.Proofs.YtgobnjeankjkjaaGreatDoor

/- Layer 17: Mixed of a tree that is laid flat. -/
namespace Go.Proofs.YtgobnjeankjkjaaGreatDoor
open Go.ChangeShapes Go.WideShapes Go.ChangeAt Go.RowKit
open Ep Oc Tr Wk
set_option linter.unusedVariables false
namespace Wk
/-- nodes in memory stand for these -/
def Fl (S : Nat → Prop) (w : World) (a : Option Addr) (vs : List NdV) (ds : List Nd) : Prop :=
  vs.length = ds.length ∧ Nds S w a vs ∧ ∀ (i : Nat) v d, vs[i]? = some v → ds[i]? = some d → NdIs S w v d ∧ d.Ok
/-- what Flat answers of a right tree -/
def Pfl (w : World) (ds : List Nd) (e : Ending) (w' : World) : Prop :=
  ∃ a c vs, e = .returned (.tuple #[.slice a ds.length c, .nilIface]) ∧ Below w.heap.size w w' ∧ Fl (fun k => k < w'.heap.size) w' a vs ds
def mixB (os : List Bool) : Nat → List Nd → List UInt8
  | _, [] => []
  | i, d :: r => d.bytes (orO os i) ++ mixB os (i + 1) r
theorem mixB_snoc (os : List Bool) : ∀ (l : List Nd) (i : Nat) (d : Nd), mixB os i (l ++ [d]) = mixB os i l ++ d.bytes (orO os (i + l.length))
  | [], i, d => by show d.bytes (orO os i) ++ [] = [] ++ d.bytes (orO os (i + 0)); simp
  | e :: r, i, d => by
    show e.bytes (orO os i) ++ mixB os (i + 1) (r ++ [d]) = e.bytes (orO os i) ++ mixB os (i + 1) r ++ d.bytes (orO os (i + (r.length + 1)))
    rw [mixB_snoc, List.append_assoc, show i + 1 + r.length = i + (r.length + 1) by omega]
end Wk
theorem PnS.turn {w0 w : World} {gp : Nat} {v : Value} {bs : List UInt8} {little : Bool} (h : PnS w0 w gp v bs little) (b : Bool) : PnS w0 (w.setCell ⟨gp, 1, none⟩ (.bool b)) gp v bs b := by
  have hch : Ch (Ep gp v) w (w.setCell ⟨gp, 1, none⟩ (.bool b)) := (Ch.refl _ _).setCell (Or.inr (Or.inl rfl)) _
  refine ⟨h.bel.trans (hch.below (fun i hi q => ?_) h.bel.size), ?_, ?_, h.lo, h.ne⟩
  · rcases q with rfl | e
    · exact h.lo
    · exact (h.row.blk e).1
  · simp [World.setCell, Array.getElem?_modify, h.blk]
  · have hI : In gp (gp + 1) w (w.setCell ⟨gp, 1, none⟩ (.bool b)) := (In.refl _ _ _).set1 1 _
    exact h.row.keep (r := some gp) ⟨hI.os, hI.tape, hI.output, hI.size, fun k hk q => hI.block k hk (by
      have : k ≠ gp := fun e => q (by rw [e])
      omega)⟩ (fun g e => fun q => by cases q; exact h.ne e)
set_option maxHeartbeats 3200000 in
set_option maxRecDepth 100000 in
theorem mixed_good {w : World} {x0 x1 x2 x3 : Value} {ds : List Nd} (hF : Calls Tryz.prog 35 #[.agg #[x0, x1, x2, x3]] (w.alloc (.cells #[x0, x1, x2, x3] 31)) (Pfl (w.alloc (.cells #[x0, x1, x2, x3] 31)) ds)) (hn : ds.length ≤ 1048576) {oa : Option Addr} {oc : Nat} {os : List Bool} (hO : os.length ≤ 100000000) (hOc : Hid (∀ (i : Nat) x, os[i]? = some x → ∃ b o, oa = some ⟨b, o, none⟩ ∧ b < w.heap.size ∧ w.cell? ⟨b, o + i, none⟩ = some (.bool x))) (hlen : Hid (∀ j, (mixB os 0 (ds.take j)).length ≤ 49999000)) :
    Calls Tryz.prog 19 #[.agg #[x0, x1, x2, x3], .slice oa os.length oc] w (fun e w' => ∃ v, e = .returned (.tuple #[v, .nilIface]) ∧ Ob w' w.heap.size v (mixB os 0 ds) ∧ Below w.heap.size w w') := by
  go_enter Tryz.func19, Tryz.ntmps19
  go_wp2_with fail
  refine hF.mono ?_
  rintro e w1 ⟨a, c, vs, rfl, hb1, hfl⟩
  clear hF
  have hsz := size17_any (S := fun k => k < w1.heap.size) (fun k hk => hk) hfl.2.1 (by rw [hfl.1]; exact hn) (c := c)
  rw [hfl.1] at hsz
  go_wp2_with fail
  refine hsz.mono ?_
  rintro e w2 ⟨rfl, hb2⟩
  obtain ⟨Z, hZ⟩ : ∃ Z, Z = szN vs := ⟨_, rfl⟩
  have hZ9 : Z ≤ 30000000000000 := by
    have h1 := szN_le (S := fun _ => True) (w := w) (a := a) vs (fun d hd => by
      obtain ⟨i, hi, rfl⟩ := List.getElem_of_mem hd
      have := (hfl.2.1 i _ (List.getElem?_eq_getElem hi)).1
      exact ⟨this.1, this.2.1⟩)
    rw [hfl.1] at h1
    omega
  rw [← hZ]
  have Hfl := hidP hfl
  have Hb1 := hidP hb1
  have Hb2 := hidP hb2
  clear hfl hb1 hb2 hsz hZ
  go_wp2_with (at_make; refine wpList_make8 rfl _ _ rfl (n := 0) (k := Z) rfl rfl rfl rfl (by omega) (by omega) ?_)
  intro w3 hOb hb3
  have HOb := hidP hOb
  have Hb3 := hidP hb3
  have hW3 : PnS w1 (w3.alloc (.cells #[.slice (some ⟨w2.heap.size, 0, none⟩) 0 Z, .bool false] 89)) w3.heap.size (.slice (some ⟨w2.heap.size, 0, none⟩) 0 Z) [] false := by
    have s2 := Hb2.out.size
    have s3 := hb3.size
    refine ⟨Hb2.out.trans ((hb3.trans ((alloc_below _).mono s3)).mono s2), heap_alloc_new _ _, (hOb.alloc _).wider s2, by omega, ?_⟩
    intro e
    have := (hOb.blk e).2
    omega
  obtain ⟨gp, hgp⟩ : ∃ gp, gp = w3.heap.size := ⟨_, rfl⟩
  have Hgp := hidP hgp
  rw [← hgp] at hW3
  have hbw : Below w.heap.size w w1 := (alloc_below _).trans (Hb1.out.mono (alloc_below _).size)
  have Hbw := hidP hbw
  have HX0 : Hid (∃ v l, PnS w1 (w3.alloc (.cells #[.slice (some ⟨w2.heap.size, 0, none⟩) 0 Z, .bool false] 89)) gp v (mixB os 0 (ds.take 0)) l) := ⟨_, _, hW3⟩
  obtain ⟨n, hn0⟩ : ∃ n, n = ds.length := ⟨_, rfl⟩
  have HN := hidP hn0
  rw [← hn0] at hn ⊢
  clear hOb hb3 hW3 hgp hbw hn0
  go_wp2
  rw [← Hgp.out]
  go_loopw [25] (fun i wr => ∃ j : Nat, i = .int .i64 (j : Int) ∧ j ≤ n ∧ Hid (∃ v l, PnS w1 wr gp v (mixB os 0 (ds.take j)) l)) (fun i _ => n - (intOf i).toNat)
  case atStart => exact ⟨0, rfl, Nat.zero_le _, HX0⟩
  case round =>
    obtain ⟨j, rfl, hj, HX⟩ := hrel
    obtain ⟨v, li, hSj⟩ := HX.out
    by_cases hlt : j < n
    · have hjl : j < ds.length := by rw [← HN.out]; exact hlt
      obtain ⟨d, hd⟩ : ∃ d, ds[j]? = some d := ⟨_, List.getElem?_eq_getElem hjl⟩
      obtain ⟨nv, hnv⟩ : ∃ nv, vs[j]? = some nv := ⟨_, List.getElem?_eq_getElem (by rw [Hfl.out.1]; exact hjl)⟩
      have hkr : Kp (fun k => k < w1.heap.size) w1 wr := Kp.of_below hSj.bel (fun k hk => hk)
      obtain ⟨⟨q1, q2, q3, q4⟩, b, o, rfl, hSb, k1, k2, k3⟩ := (Hfl.out.2.1.below hkr) j nv hnv
      obtain ⟨hIs, hOk⟩ := Hfl.out.2.2 j nv d hnv hd
      have HT : Hid (mixB os 0 (ds.take (j + 1)) = mixB os 0 (ds.take j) ++ d.bytes (orO os j)) := by
        show _ = _
        rw [List.take_add_one, hd]
        have := mixB_snoc os (ds.take j) 0 d
        rw [List.length_take, Nat.min_eq_left (by omega), Nat.zero_add] at this
        exact this
      obtain ⟨W, hW⟩ : ∃ W, W = wr.alloc (.cells #[.int .i64 nv.k, .slice nv.sa nv.m nv.sc, .slice nv.la nv.n nv.lc] 91) := ⟨_, rfl⟩
      have HW : Hid (wr.alloc (.cells #[.int .i64 nv.k, .slice nv.sa nv.m nv.sc, .slice nv.la nv.n nv.lc] 91) = W) := hW.symm
      have hbW : Below wr.heap.size wr W := by rw [hW]; exact alloc_below _
      have hSW := hSj.later hbW
      have hbwW : Below w.heap.size w W := Hbw.out.trans (hSW.bel.mono Hbw.out.size)
      have hOr := orderOf_any (w := W) (a := oa) (c := oc) (j := j) (os := os) (fun i x hi => by
        obtain ⟨b', o', e', hb', hc'⟩ := hOc.out i x hi
        exact ⟨b', o', e', (World.cell?_of_block (w := w) (a := ⟨b', o' + i, none⟩) (hbwW.block b' hb')).trans hc'⟩) hO (by omega)
      have gB : W.heap[wr.heap.size]? = some (.cells #[.int .i64 nv.k, .slice nv.sa nv.m nv.sc, .slice nv.la nv.n nv.lc] 91 (0, 0)) := by rw [hW]; exact heap_alloc_new _ _
      obtain ⟨B, hB⟩ : ∃ B, B = wr.heap.size := ⟨_, rfl⟩
      have HB := hidP hB
      have hgB : gp ≠ B := by have := hSj.lt; omega
      rw [← hB] at gB
      obtain ⟨g0, g1⟩ := hSW.cells
      have z1 := hSW.frozen 1
      have hSt := hSW.turn (orO os j)
      have hkW : Kp (fun k => k < w1.heap.size) w1 (W.setCell ⟨gp, 1, none⟩ (.bool (orO os j))) := Kp.of_below hSt.bel (fun k hk => hk)
      have hGe := pgeo_any hSt (hlen.out j) (S := fun k => k < w1.heap.size) (fun k hk => hk) (hIs.below hkW) hOk
      have gB' : (W.setCell ⟨gp, 1, none⟩ (.bool (orO os j))).heap[B]? = some (.cells #[.int .i64 nv.k, .slice nv.sa nv.m nv.sc, .slice nv.la nv.n nv.lc] 91 (0, 0)) := (Below.heap_setCell _ _ _ _ (fun e => hgB e.symm)).trans gB
      have c0 := cell_of gB' 0
      have c1 := cell_of gB' 1
      have c2 := cell_of gB' 2
      simp only [List.getElem?_toArray, List.getElem?_cons_zero, List.getElem?_cons_succ] at c0 c1 c2
      obtain ⟨lt, hlt0⟩ : ∃ lt, lt = orO os j := ⟨_, rfl⟩
      rw [← hlt0] at hOr c0 c1 c2 hGe HT
      unfold NdV.sv NdV.lv at hGe
      clear hW hbW hSW hbwW gB hB hSt hkW gB' hd hnv hIs hOk hkr HX HX0 hSj hjl hlt0
      go_upto_region 8 with (fail)
      rw [HW.out, ← HB.out]
      go_wp2_with fail
      refine hOr.mono ?_
      rintro e w4 ⟨rfl, rfl⟩
      clear hOr
      go_wp2_with fail
      refine hGe.mono ?_
      rintro e w5 ⟨rfl, v5, hS5, hC5, hv5⟩
      clear hGe c0 c1 c2 g0 g1
      rw [← HT.out] at hS5
      have HX5 : Hid (∃ v l, PnS w1 w5 gp v (mixB os 0 (ds.take (j + 1))) l) := ⟨_, _, hS5⟩
      clear hS5 hC5 hv5
      go_wp2
      go_roundw
      case rel => exact ⟨j + 1, by go_num, by omega, HX5⟩
      case measure => simp [intOf]; omega
    · have hjn : ds.take j = ds := List.take_of_length_le (by rw [← HN.out]; omega)
      rw [hjn] at hSj
      obtain ⟨c0, c1⟩ := hSj.cells
      have HS := hidP hSj
      clear hjn HX HX0 hSj
      go_wp2
      refine bodyPost_ret (v := .tuple #[v, .nilIface]) (by simp [results, Tryz.results19, go_sem]) rfl ?_
      exact ⟨v, rfl, HS.out.row.wider Hbw.out.size, Hbw.out.trans (HS.out.bel.mono Hbw.out.size)⟩
end Go.Proofs.YtgobnjeankjkjaaGreatDoor

/- Layer 17: Print and Size of a tree that is laid flat. -/
namespace Go.Proofs.YtgobnjeankjkjaaGreatDoor
open Go.ChangeShapes Go.WideShapes Go.ChangeAt Go.RowKit
open Ep Oc Tr Wk
set_option linter.unusedVariables false
set_option maxHeartbeats 3200000 in
set_option maxRecDepth 100000 in
theorem print_good {w : World} {x0 x1 x2 x3 : Value} {ds : List Nd} (hF : Hid (∀ W, Below w.heap.size w W → Calls Tryz.prog 35 #[.agg #[x0, x1, x2, x3]] W (Pfl W ds))) (hn : ds.length ≤ 1048576) {little : Bool} (hlen : Hid (∀ j, (mixB [little] 0 (ds.take j)).length ≤ 49999000)) :
    Calls Tryz.prog 17 #[.agg #[x0, x1, x2, x3], .bool little] w (fun e w' => ∃ v, e = .returned (.tuple #[v, .nilIface]) ∧ Ob w' w.heap.size v (mixB [little] 0 ds) ∧ Below w.heap.size w w') := by
  have hbW : Below w.heap.size w ((w.alloc (.cells #[x0, x1, x2, x3] 31)).alloc (.cells #[.bool little] 4)) := (alloc_below _).trans ((alloc_below _).mono (alloc_below _).size)
  obtain ⟨W, hW⟩ : ∃ W, W = (w.alloc (.cells #[x0, x1, x2, x3] 31)).alloc (.cells #[.bool little] 4) := ⟨_, rfl⟩
  have gB : W.heap[w.heap.size + 1]? = some (.cells #[.bool little] 4 (0, 0)) := by
    rw [hW]
    have := heap_alloc_new (w.alloc (.cells #[x0, x1, x2, x3] 31)) (.cells #[.bool little] 4 (0, 0))
    simpa using this
  have HW : Hid ((w.alloc (.cells #[x0, x1, x2, x3] 31)).alloc (.cells #[.bool little] 4) = W) := hW.symm
  rw [← hW] at hbW
  have hM := mixed_good (w := W) (hF.out _ (hbW.trans ((alloc_below _).mono hbW.size))) hn (oa := some ⟨w.heap.size + 1, 0, none⟩) (oc := 1) (os := [little]) (by simp) (hidP (fun i x hi => by
    have hi0 : i = 0 := by
      have := (List.getElem?_eq_some_iff.1 hi).1
      simp at this
      omega
    subst hi0
    simp at hi
    subst hi
    exact ⟨_, 0, rfl, lt_of_block gB, cell_of gB 0⟩)) hlen
  have HbW := hidP hbW
  clear hW gB hbW
  go_enter Tryz.func17, Tryz.ntmps17
  go_wp2_with fail
  rw [HW.out]
  refine hM.mono ?_
  rintro e w5 ⟨v, rfl, hO, hb5⟩
  have HO := hidP (hO.wider HbW.out.size)
  have Hb5 := hidP (HbW.out.trans (hb5.mono HbW.out.size))
  clear hM hO hb5
  go_wp2
  refine bodyPost_ret (v := .tuple #[v, .nilIface]) (by simp [results, Tryz.results17, go_sem]) rfl ?_
  exact ⟨v, rfl, HO, Hb5⟩
end Go.Proofs.YtgobnjeankjkjaaGreatDoor

/- Layer 17: the parts of a geometry, one by one. -/
namespace Go.Proofs.YtgobnjeankjkjaaGreatDoor
open Go.ChangeShapes Go.WideShapes Go.ChangeAt Go.RowKit
open Ep Oc Tr Wk
set_option linter.unusedVariables false
theorem info_gm7 : (Tryz.prog.info? 31).map (fun i => (i.zero, i.size, i.bytes)) = some (some (.agg #[.int .i64 0, .slice none 0 0, .slice none 0 0, .slice none 0 0]), 4, 80) := by kernel_rfl
theorem zero_gm7 : ∀ x ∈ (Value.agg #[.int .i64 0, .slice none 0 0, .slice none 0 0, .slice none 0 0]).cells.toList, NB8 x := by
  intro x hx z
  simp [Value.cells] at hx
  rcases hx with rfl | rfl <;> simp
set_option maxHeartbeats 6400000 in
set_option maxRecDepth 100000 in
theorem members_gm {w0 w : World} {gw gr : Nat} {D : Int} {l : List UInt8} {k : Nat} {v : Value} {os : List Bool} (h : WkS w0 w gw gr D l k v os) (hos : os.length ≤ k) {b1 b2 b3 N : Nat} {kind lev n : Nat} (ih : ∀ {w : World} {k : Nat} {v : Value} {os : List Bool}, WkS w0 w gw gr D l k v os → os.length ≤ k → Calls Tryz.prog 54 #[.pointer (some ⟨gw, 0, none⟩), .int .i64 (kind : Int), .int .i64 ((lev : Int) + 1)] w (Pge w0 w gw gr D l v os (geomS l n kind k))) (hlev : lev ≤ 1000) (h1 : Bx w b1 164 (.pointer (some ⟨gw, 0, none⟩))) (h2 : Bx w b2 3 (.int .i64 (kind : Int))) (h3 : Bx w b3 3 (.int .i64 (lev : Int))) (x1 : ¬ Ex gw gr v b1) (x2 : ¬ Ex gw gr v b2) (x3 : ¬ Ex gw gr v b3) (hn : N ≤ 100000) :
    Calls Tryz.prog 90 #[.int .i64 (N : Int), .func (.func 91) #[] #[.pointer (some ⟨b1, 0, none⟩), .pointer (some ⟨b2, 0, none⟩), .pointer (some ⟨b3, 0, none⟩)]] w (Pgs w0 w gw gr D l v os (many (geomS l n kind) N k)) := by
  have HB1 : Hid (Bx w b1 164 (.pointer (some ⟨gw, 0, none⟩))) := h1
  have HB2 : Hid (Bx w b2 3 (.int .i64 (kind : Int))) := h2
  have HB3 : Hid (Bx w b3 3 (.int .i64 (lev : Int))) := h3
  have HX : Hid (¬ Ex gw gr v b1 ∧ ¬ Ex gw gr v b2 ∧ ¬ Ex gw gr v b3) := ⟨x1, x2, x3⟩
  have HO : Hid (∀ b, w.heap.size ≤ b → b ≠ gr ∧ b ≠ gw ∧ v.ownBlock ≠ some b ∧ w0.heap.size ≤ b) := fun b hb => h.old hb
  clear h1 h2 h3 x1 x2 x3
  go_enter Tryz.func90, Tryz.ntmps90
  go_wp2
  go_loopw [5, 7] (fun ov i wr => ∃ (j kj : Nat) (ts : List (Tree × List Bool)) (xs : List Value) (vj : Value), i = .int .i64 (j : Int) ∧ j ≤ N ∧ Hid (ts.length = j) ∧ Hid ((os ++ (ts.map (·.2)).flatten).length ≤ kj) ∧ Hid (Rs.pre ts (many (geomS l n kind) (N - j) kj) = many (geomS l n kind) N k) ∧ Hid (WkS w0 wr gw gr D l kj vj (os ++ (ts.map (·.2)).flatten)) ∧ Hid (Ch (Ex gw gr v) w wr) ∧ Hid (vj.ownBlock = v.ownBlock ∨ ∃ g, vj.ownBlock = some g ∧ w.heap.size ≤ g) ∧ Hid (Nw wr w.heap.size 31 4 ov ts.length xs) ∧ Hid (Grow (fun i => w.heap.size ≤ i ∧ i < wr.heap.size ∧ ov.ownBlock ≠ some i ∧ vj.ownBlock ≠ some i) wr xs (ts.map (·.1)))) (fun _ i _ => N - (intOf i).toNat)
  case atStart =>
    exact ⟨0, k, [], [], v, rfl, Nat.zero_le _, rfl, (by show (os ++ []).length ≤ k; rw [List.append_nil]; exact hos), pre_nil _, (by show WkS w0 w gw gr D l k v (os ++ []); rw [List.append_nil]; exact h), Ch.refl _ _, Or.inl rfl, Nw.nil _ _ _ _, trivial⟩
  case round =>
    obtain ⟨j, kj, ts, xs, vj, rfl, hj, HL, HOs, HM, HS, HC, HV, HN, HR⟩ := hrel
    by_cases hlt : j < N
    · have hXj : ∀ b, b < w.heap.size → ¬ Ex gw gr v b → ¬ Ex gw gr vj b := fun b hb hx q => hx (ex_sub HV.out b hb q)
      have hB1 := HB1.out.ch HC.out HX.out.1
      have hB2 := HB2.out.ch HC.out HX.out.2.1
      have hB3 := HB3.out.ch HC.out HX.out.2.2
      have hP := geom2_any HS.out HOs.out ih hlev hB1 hB2 hB3
      obtain ⟨m, hm⟩ : ∃ m, N - j = m + 1 := ⟨N - j - 1, by omega⟩
      have hm2 : N - (j + 1) = m := by omega
      clear hB1 hB2 hB3 h
      cases hp : geomS l n kind kj with
      | bad p c =>
        rw [hp] at hP
        have HA : Hid (many (geomS l n kind) N k = .bad p c) := by show _ = _; rw [← HM.out, hm, many_bad ts hp]
        clear hp hm hm2 HM HN HC HS HR HV ih hXj
        go_wp2_with fail
        refine hP.mono ?_
        rintro e w3 ⟨hf, hb⟩
        rw [flw_of hf]
        clear hP
        go_wp2
        refine ⟨rfl, ?_⟩
        unfold Pgs
        rw [HA.out]
        exact ⟨rfl, hb⟩
      | ok q k1 =>
        rw [hp] at hP
        have hq9 := geom_len l n kind kj q k1 hp
        have HM2 : Hid (Rs.pre (ts ++ [q]) (many (geomS l n kind) (N - (j + 1)) k1) = many (geomS l n kind) N k) := by show _ = _; rw [← HM.out, hm, hm2, many_ok ts hp]
        have HF : Hid (os ++ ((ts ++ [q]).map (·.2)).flatten = (os ++ (ts.map (·.2)).flatten) ++ q.2) := by show _ = _; simp
        have HOs2 : Hid ((os ++ ((ts ++ [q]).map (·.2)).flatten).length ≤ k1) := by
          show _ ≤ _
          have := HOs.out
          rw [HF.out, List.length_append]
          omega
        clear hp hm hm2 HM hq9 ih
        go_wp2_with fail
        refine hP.mono ?_
        rintro e w3 ⟨u, v3, rfl, hS3, hC3, hov3, hT3⟩
        clear hP
        have hnx : ∀ i, w.heap.size ≤ i → vj.ownBlock ≠ some i → ¬ Ex gw gr vj i := fun i hi hv q => by
          have := HO.out i hi
          rcases q with q | q | q
          · exact this.1 q
          · exact this.2.1 q
          · exact hv q
        have hnb : ∀ g, u5.ownBlock = some g → vj.ownBlock ≠ some g := fun g hg => HN.out.ne_bo HS.out.row (by decide) hg
        have hN3 : Nw w3 w.heap.size 31 4 u5 ts.length xs := HN.out.keep (fun g hg => hC3.block g (HN.out.blk hg).2.1 (hnx g (HN.out.blk hg).1 (hnb g hg)))
        have hC : Ch (Ex gw gr v) w w3 := HC.out.trans hC3 (fun i hi => ex_sub HV.out i hi)
        have hs3 : w.heap.size ≤ w3.heap.size := hC.size
        have hsr : wr.heap.size ≤ w3.heap.size := hC3.size
        have hswr : w.heap.size ≤ wr.heap.size := HC.out.size
        have hkp : Kp (fun i => w.heap.size ≤ i ∧ i < wr.heap.size ∧ u5.ownBlock ≠ some i ∧ vj.ownBlock ≠ some i) wr w3 := hC3.kp (fun i hi => ⟨hi.2.1, hnx i hi.1 hi.2.2.2⟩)
        have hold : ∀ i, i < wr.heap.size → vj.ownBlock ≠ some i → v3.ownBlock ≠ some i := fun i hi hv e => by
          rcases hov3 with q | ⟨g, q, hg⟩
          · exact hv (q ▸ e)
          · rw [q] at e; cases e; omega
        have hR3 : Grow (fun i => w.heap.size ≤ i ∧ i < w3.heap.size ∧ u5.ownBlock ≠ some i ∧ v3.ownBlock ≠ some i) w3 xs (ts.map (·.1)) := HR.out.map (fun v t ht => (ht.below hkp).mono (fun i hi => ⟨hi.1, by have := hi.2.1; omega, hi.2.2.1, hold i hi.2.1 hi.2.2.2⟩))
        have HV3 : Hid (v3.ownBlock = v.ownBlock ∨ ∃ g, v3.ownBlock = some g ∧ w.heap.size ≤ g) := by
          rcases hov3 with q | ⟨g, q, hg⟩
          · rw [q]; exact HV.out
          · exact Or.inr ⟨g, q, by omega⟩
        have hT3' : TV (fun i => w.heap.size ≤ i ∧ i < w3.heap.size ∧ u5.ownBlock ≠ some i ∧ v3.ownBlock ≠ some i) w3 u q.1 := hT3.mono (fun i hi => ⟨by have := hi.1; omega, hi.2.1, fun e => by have := (HN.out.blk e).2.1; have := hi.1; omega, hi.2.2⟩)
        obtain ⟨v1, v2, pa, pc, hu, hk9, hP1, hR1, hl9', hf9⟩ := hT3'.parts
        obtain ⟨a1, d1, e1⟩ := hP1.slc
        obtain ⟨a2, d2, e2⟩ := hR1.slc
        rw [e1, e2] at hu
        have hR3' : Grow (fun i => w.heap.size ≤ i ∧ i < w3.heap.size ∧ u5.ownBlock ≠ some i ∧ v3.ownBlock ≠ some i) w3 (xs ++ [.int .i64 q.1.1.kind, .slice a1 q.1.1.line.length d1, .slice a2 q.1.1.rings.length d2, .slice pa q.1.2.len pc]) ((ts ++ [q]).map (·.1)) := by
          rw [List.map_append]
          exact hR3.snoc (by rw [← hu]; exact hT3')
        rw [← HF.out] at hS3
        subst hu
        clear hT3 hT3' hR3 hov3 hkp hnx hnb hold e1 e2 hP1 hR1 hl9' hf9 hk9 HV HR HS
        generalize q.1.1.kind = K0 at *
        generalize q.1.1.line.length = L1 at *
        generalize q.1.1.rings.length = L2 at *
        generalize q.1.2.len = L3 at *
        obtain ⟨W4, hW4⟩ : ∃ W4, W4 = w3.alloc (.cells #[.int .i64 K0, .slice a1 L1 d1, .slice a2 L2 d2, .slice pa L3 pc] 31) := ⟨_, rfl⟩
        have hb4 : Below w3.heap.size w3 W4 := by rw [hW4]; exact alloc_below _
        have hB4 : W4.heap[w3.heap.size]? = some (.cells #[.int .i64 K0, .slice a1 L1 d1, .slice a2 L2 d2, .slice pa L3 pc] 31 (0, 0)) := by rw [hW4]; exact heap_alloc_new _ _
        have hN4 : Nw W4 w.heap.size 31 4 u5 ts.length xs := hN3.keep (fun g hg => hb4.block g (hN3.blk hg).2.1)
        have HR4 : Hid (Grow (fun i => w.heap.size ≤ i ∧ i < w3.heap.size ∧ u5.ownBlock ≠ some i ∧ v3.ownBlock ≠ some i) W4 (xs ++ [.int .i64 K0, .slice a1 L1 d1, .slice a2 L2 d2, .slice pa L3 pc]) ((ts ++ [q]).map (·.1))) := hR3'.map (fun v t ht => ht.below (Kp.of_below hb4 (fun i hi => hi.2.1)))
        have HS4 : Hid (WkS w0 W4 gw gr D l k1 v3 (os ++ ((ts ++ [q]).map (·.2)).flatten)) := hS3.later hb4
        have HC4 : Hid (Ch (Ex gw gr v) w W4) := hC.trans (Ch.of_below (X := Ex gw gr v) hb4) (fun _ _ x => x)
        have hq4 : ∀ j x, [Value.int .i64 K0, .slice a1 L1 d1, .slice a2 L2 d2, .slice pa L3 pc][j]? = some x → W4.cell? ⟨w3.heap.size, j, none⟩ = some x := fun j x hx => by
          rw [cell_of hB4 j]
          simpa using hx
        have hs4 : w.heap.size ≤ W4.heap.size := Nat.le_trans hs3 hb4.size
        have hs34 : w3.heap.size ≤ W4.heap.size := hb4.size
        have hl9 : ts.length ≤ 1000000 := by rw [HL.out]; omega
        have HW4 : Hid (w3.alloc (.cells #[.int .i64 K0, .slice a1 L1 d1, .slice a2 L2 d2, .slice pa L3 pc] 31) = W4) := hW4.symm
        clear hN3 hC hS3 hC3 HC HN hb4 hB4 hW4 hR3'
        go_wp2_with (at_builtin; rw [HW4.out]; refine wpList_appN rfl _ _ 29 31 rfl Tryz.underlying29 info_gm7 rfl (by decide) zero_gm7 rfl hN4 rfl rfl hq4 (by simp [Value.oneCell']) (by simp [NB8]) hl9 (by decide) hs4 ?_)
        intro v' w5 hN5 hg5 ho5
        have HN5 : Hid (Nw w5 w.heap.size 31 4 v' (ts ++ [q]).length (xs ++ [.int .i64 K0, .slice a1 L1 d1, .slice a2 L2 d2, .slice pa L3 pc])) := by
          show Nw _ _ _ _ _ _ _
          rw [List.length_append]
          exact hN5
        have HS5 : Hid (WkS w0 w5 gw gr D l k1 v3 (os ++ ((ts ++ [q]).map (·.2)).flatten)) := HS4.out.grown hg5 (fun b hb => by
          have q := hN4.blk hb
          have := HO.out b q.1
          exact ⟨this.2.2.2, this.1, this.2.1, hN4.ne_bo HS4.out.row (by decide) hb, q.2.2⟩)
        have HC5 : Hid (Ch (Ex gw gr v) w w5) := HC4.out.trans (Ch.of_grown (X := fun i => w.heap.size ≤ i) hg5 (fun b hb => (hN4.blk hb).1)) (fun i hi q => by omega)
        have hs5 := hg5.size
        have HR5 : Hid (Grow (fun i => w.heap.size ≤ i ∧ i < w5.heap.size ∧ v'.ownBlock ≠ some i ∧ v3.ownBlock ≠ some i) w5 (xs ++ [.int .i64 K0, .slice a1 L1 d1, .slice a2 L2 d2, .slice pa L3 pc]) ((ts ++ [q]).map (·.1))) := by
          have hkp : Kp (fun i => w.heap.size ≤ i ∧ i < w3.heap.size ∧ u5.ownBlock ≠ some i ∧ v3.ownBlock ≠ some i) W4 w5 := ⟨hs5, fun i hi => hg5.block i (by have := hi.2.1; omega) (fun e => hi.2.2.1 e.symm)⟩
          refine HR4.out.map (fun v t ht => (ht.below hkp).mono (fun i hi => ⟨hi.1, by have := hi.2.1; omega, fun e => ?_, hi.2.2.2⟩))
          rcases ho5 with q | q
          · exact hi.2.2.1 (q ▸ e)
          · rw [q] at e
            cases e
            have := hi.2.1
            omega
        clear hN5 hg5 ho5 hN4 hq4 HS4 HC4 HR4
        go_wp2
        go_roundw
        case rel => exact ⟨j + 1, k1, ts ++ [q], _, v3, by go_num, by omega, by show _ = _; rw [List.length_append, HL.out]; rfl, HOs2, HM2, HS5, HC5, HV3, HN5, HR5⟩
        case measure => simp [intOf]; omega
    · have hjn : j = N := by omega
      subst hjn
      have HA : Hid (many (geomS l n kind) j k = .ok ts kj) := by
        show _ = _
        rw [← HM.out, Nat.sub_self]
        show Rs.ok (ts ++ []) kj = _
        rw [List.append_nil]
      have hfo := fo_of (ts := ts.map (·.1)) (by rw [List.length_map]; exact HN.out.own) HR.out
      obtain ⟨pa, pc, hu, hpc, hF⟩ := hfo
      rw [List.length_map] at hu hpc
      subst hu
      go_wp2
      go_ret
      unfold Pgs
      rw [HA.out]
      refine ⟨vj, pa, pc, rfl, hpc, HS.out, HC.out, HV.out, hF.mono (fun i hi => ?_)⟩
      rcases hi with hi | hi
      · exact ⟨hi.1, hi.2.1, hi.2.2.2⟩
      · exact ⟨(HN.out.blk hi).1, (HN.out.blk hi).2.1, HN.out.ne_bo HS.out.row (by decide) hi⟩
end Go.Proofs.YtgobnjeankjkjaaGreatDoor


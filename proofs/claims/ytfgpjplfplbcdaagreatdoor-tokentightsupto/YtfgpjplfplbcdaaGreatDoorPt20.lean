import Derived.Deep.MidRow
import Derived.Below
import Derived.BigQuiet
import Derived.ChangeOld
import Derived.Deep.CutRange
import Derived.Deep.LoopGhost
import Derived.Deep.QuietTactic
import Derived.Deep.RegionHeld3
import Derived.Deep.RegionWith
import Derived.Deep.WholeRow
import Derived.KernelRfl
import Derived.LaidEql
import Derived.Laws.AppendOwn
import Derived.Laws.BitsAllLaws
import Derived.Laws.CopyRow
import Derived.Laws.EntriesVeiled
import Derived.Laws.Externs
import Derived.Laws.IdiomCopy
import Derived.Laws.IdiomRangeMap
import Derived.Laws.RangeString
import Derived.Laws.ResultCell
import Derived.Laws.Runes
import Derived.Laws.Strings3
import Derived.Lib.AppendIntMem
import Derived.Lib.AsciiSet
import Derived.Lib.Builder
import Derived.Lib.Bytealg
import Derived.Lib.IndexBytes
import Derived.Lib.ItoaLen
import Derived.Lib.ItoaNum
import Derived.Lib.Strings
import Derived.Lib.TrimByte
import Derived.Lib.Walk
import Derived.OpenShut
import Derived.OwnWalk
import Derived.ProofKit
import Derived.RowKitTokens
import Derived.Shelf.Strconv.Clone
import Derived.Shelf.Strconv.Itoa3
import Derived.Shelf.Strings.BuilderK
import Derived.Shelf.Strings.OnBuilder
import Derived.ShutString
import Derived.Stop.Asserts
import Derived.WalkKit
import Derived.WalkLawsBesides
import Derived.WalkSpells
import Derived.Test.YtfgpjplfplbcdaaGreatDoorPt18
import Derived.Test.YtfgpjplfplbcdaaGreatDoorPt19
/- Layer 18: TokenTights. -/
namespace Go.Proofs.YtfgpjplfplbcdaaGreatDoor
open Go.ChangeShapes Go.WideShapes Go.ChangeAt Go.RowKit
open Lx Tk
set_option linter.unusedVariables false
set_option linter.unusedSimpArgs false
namespace Tk
/-- the cells of tokens -/
def tgcs : List Tg → List Value
  | [] => []
  | t :: r => (tgA t).toList ++ tgcs r
theorem tgcs_len : ∀ l : List Tg, (tgcs l).length = l.length * 9
  | [] => rfl
  | t :: r => by
    show ((tgA t).toList ++ tgcs r).length = _
    rw [List.length_append, tgcs_len r, List.length_cons]
    show 9 + _ = _
    omega
theorem tgcs_app : ∀ (l m : List Tg), tgcs (l ++ m) = tgcs l ++ tgcs m
  | [], m => rfl
  | t :: r, m => by
    show (tgA t).toList ++ tgcs (r ++ m) = ((tgA t).toList ++ tgcs r) ++ tgcs m
    rw [tgcs_app r m, List.append_assoc]
theorem tgcs_at : ∀ (l : List Tg) (i j : Nat) (t : Tg), l[i]? = some t → j < 9 → (tgcs l)[i * 9 + j]? = (tgA t)[j]?
  | [], i, j, t, h, hj => by simp at h
  | t' :: r, 0, j, t, h, hj => by
    simp at h
    subst h
    show ((tgA t').toList ++ tgcs r)[0 * 9 + j]? = _
    rw [Nat.zero_mul, Nat.zero_add, List.getElem?_append_left (by show j < 9; exact hj), Array.getElem?_toList]
  | t' :: r, i + 1, j, t, h, hj => by
    show ((tgA t').toList ++ tgcs r)[(i + 1) * 9 + j]? = _
    rw [List.getElem?_append_right (by show 9 ≤ _; omega)]
    have e : (i + 1) * 9 + j - (tgA t').toList.length = i * 9 + j := by show _ - 9 = _; omega
    rw [e]
    exact tgcs_at r i j t (by simpa using h) hj
theorem tgcs_one : ∀ (l : List Tg), ∀ u ∈ tgcs l, u.oneCell' = true
  | [], u, h => by cases h
  | t :: r, u, h => by
    rcases List.mem_append.mp h with h | h
    · simp [tgA, tkA] at h
      rcases h with rfl | rfl | rfl | rfl | rfl | rfl | rfl | rfl | rfl <;> rfl
    · exact tgcs_one r u h
def TgR (w : World) (base : Nat) (v : Value) (l : List Tg) : Prop := w.ownsRow base 32 9 v l.length (tgcs l)
theorem TgR.later {w w' : World} {base : Nat} {v : Value} {l : List Tg} (h : TgR w base v l) (hb : Below w.heap.size w w') : TgR w' base v l := by
  rcases h.2 with ⟨h0, h1⟩ | ⟨g, cap, cur, e, h1, h2, h3, h4, h5, h6⟩
  · exact ⟨h.1, Or.inl ⟨h0, h1⟩⟩
  · have hlt := (World.ownsRow.lt h g (by rw [e]; rfl)).2
    exact ⟨h.1, Or.inr ⟨g, cap, cur, e, h1, by rw [hb.block g hlt]; exact h2, h3, h4, h5, h6⟩⟩
theorem TgR.slice {w : World} {base : Nat} {v : Value} {l : List Tg} (h : TgR w base v l) (hl : l ≠ []) : ∃ g cap, v = .slice (some ⟨g, 0, none⟩) l.length cap ∧ v.ownBlock = some g ∧ l.length ≤ cap := by
  rcases h.2 with ⟨h0, h1⟩ | ⟨g, cap, cur, e, h1, h2, h3, h4, h5, h6⟩
  · exact absurd (List.eq_nil_of_length_eq_zero h1) hl
  · exact ⟨g, cap, e, by rw [e]; rfl, h3⟩
/-- the first tokens of a row that is the call's own -/
theorem TgR.front {w : World} {base g n cap : Nat} {l m : List Tg} (h : TgR w base (.slice (some ⟨g, 0, none⟩) n cap) (l ++ m)) (k : Nat) : Rt w (.slice (some ⟨g, 0, none⟩) l.length k) l := by
  refine ⟨some ⟨g, 0, none⟩, k, rfl, fun i t ht => ⟨g, 0, rfl, fun j u hu => ?_⟩⟩
  have hj : j < 9 := by
    have := (Array.getElem?_eq_some_iff.mp hu).1
    simpa [tgA, tkA] using this
  have hc := World.ownsRow.cells h (g := g) rfl (i * 9 + j) u (by
    rw [tgcs_at (l ++ m) i j t (by rw [List.getElem?_append_left (List.getElem?_eq_some_iff.mp ht).1]; exact ht) hj]
    exact hu)
  rw [Addr.add_mid] at hc
  rw [show 0 + i * 9 + j = 0 + (i * 9 + j) from by omega]
  exact hc
theorem TgR.at {w : World} {base g n cap : Nat} {l : List Tg} (h : TgR w base (.slice (some ⟨g, 0, none⟩) n cap) l) {i : Nat} {t : Tg} (ht : l[i]? = some t) {j : Nat} {u : Value} (hu : (tgA t)[j]? = some u) : w.cell? ⟨g, i * 9 + j, none⟩ = some u := by
  have hj : j < 9 := by
    have := (Array.getElem?_eq_some_iff.mp hu).1
    simpa [tgA, tkA] using this
  have hc := World.ownsRow.cells h (g := g) rfl (i * 9 + j) u (by rw [tgcs_at l i j t ht hj]; exact hu)
  rw [Addr.add_mid, Nat.zero_add] at hc
  exact hc
theorem Rt.news {w : World} {g o : Nat} {n c : Nat} {m : List Tg} (h : Rt w (.slice (some ⟨g, o, none⟩) n c) m) : ∀ j u, (tgcs m)[j]? = some u → w.cell? ((⟨g, o, none⟩ : Addr).add j) = some u := by
  intro j u hu
  have hj : j < (tgcs m).length := (List.getElem?_eq_some_iff.mp hu).1
  rw [tgcs_len] at hj
  have hi : j / 9 < m.length := by omega
  obtain ⟨t, ht⟩ : ∃ t, m[j / 9]? = some t := ⟨_, List.getElem?_eq_getElem hi⟩
  obtain ⟨g', o', e, hc⟩ := h.at ht
  simp only [Option.some.injEq, Addr.mk.injEq] at e
  obtain ⟨rfl, rfl, _⟩ := e
  have e9 : j / 9 * 9 + j % 9 = j := by omega
  have h2 := tgcs_at m (j / 9) (j % 9) t ht (Nat.mod_lt _ (by omega))
  rw [e9] at h2
  have h3 := hc (j % 9) u (by rw [← h2]; exact hu)
  rw [Addr.add_mid]
  rw [show o + j / 9 * 9 + j % 9 = o + j from by omega] at h3
  exact h3
theorem tx_le2 {k e : Int} {ng : Bool} {num den : B} (h0 : -1073741824 ≤ e) (h1 : e ≤ 1073741824) : (txL k ng num e den).length ≤ num.length + den.length + 30 := by
  have o : ∀ l : B, (ozL l).length ≤ l.length + 1 := fun l => by unfold ozL; split; simp; omega
  have := o num
  have := o den
  have hi : (Lib.itoa e).length ≤ 21 := Lib.itoa_length_le e (by omega) (by omega)
  unfold txL
  simp only [List.length_append]
  have a1 : (if ng = true then [45] else ([] : B)).length ≤ 1 := by split <;> simp
  have a2 : (if k = 2 then [48, 120] else ([] : B)).length ≤ 2 := by split <;> simp
  have a3 : (if k = 3 then 47 :: ozL den else if k = 2 then 112 :: Lib.itoa e else if e ≠ 0 then 101 :: Lib.itoa e else []).length ≤ den.length + 24 := by
    split
    · rw [List.length_cons]; omega
    · split
      · rw [List.length_cons]; omega
      · split
        · rw [List.length_cons]; omega
        · simp
  omega
theorem txT_sz (t : Tg) : (txT t).length ≤ szT t + 30 := by
  unfold txT szT
  split
  · omega
  · split
    · split
      · rename_i hr
        obtain ⟨_, _, _, r4, r5⟩ := right_kind hr
        have := tx_le2 (k := t.num.kind) (ng := t.num.neg) (num := t.num.num) (den := t.num.den) r4 r5
        omega
      · simp
    · split
      · simp
      · split
        · simp
        · split <;> simp
theorem tight_sz : ∀ (l : List Tg) (g : Bool), (tightL g l).length ≤ (l.map szT).sum + 31 * l.length
  | [], g => by cases g <;> exact Nat.zero_le _
  | t :: r, g => by
    have h1 := txT_sz t
    have h2 := tight_sz r
    rw [tight_cons, List.map_cons, List.sum_cons, List.length_cons]
    split
    · have := h2 g; omega
    · have := h2 (gapT t)
      rw [List.length_append, List.length_append]
      have a : (if (g && gapT t) = true then [32] else ([] : B)).length ≤ 1 := by split <;> simp
      omega
theorem szT_mem : ∀ (l : List Tg), ∀ t ∈ l, szT t ≤ (l.map szT).sum
  | [], t, h => by cases h
  | a :: r, t, h => by
    rw [List.map_cons, List.sum_cons]
    rcases List.mem_cons.mp h with rfl | h
    · omega
    · have := szT_mem r t h; omega
end Tk
/-- a list of tokens that may be read, behind one of the call's own -/
theorem wpList_appT {w : World} {ops : Array Oper} {rest : List Oper} {o : Oper} {a : Act} {Q : Exit → Act → World → Prop} (hgd : o.guard = none) (s x : Operand)
    (ho : o.op = .call { callee := .builtin .append, args := #[s, x], argTypes := #[24, 24] }) {base : Nat} {v : Value} {ad : Option Addr} {n c : Nat} {l m : List Tg} (hs : a.eval s = v) (hO : TgR w base v l) (hx : a.eval x = .slice ad n c) (hM : Rt w (.slice ad n c) m) (hb : l.length + m.length ≤ 1000000000) (hbase : base ≤ w.heap.size)
    (h : ∀ v' w', TgR w' base v' (l ++ m) → w.grownBy w' v.ownBlock → wpList Tryz.prog ops Q rest (a.put o.dst v') w') : wpList Tryz.prog ops Q (o :: rest) a w := by
  obtain ⟨i, hi, hz0, hz1, hz2⟩ := info_parts18 info_tk18
  have hn : n = m.length := by
    obtain ⟨a', c', e⟩ := hM.slice
    simp only [Value.slice.injEq] at e
    exact e.2.1
  by_cases hm : m = []
  · subst hm
    have hn0 : n = 0 := hn
    subst hn0
    refine wpList_append18 hgd s x 24 ho v _ hs hx (v' := v) (w' := w) ?_ (h v w (by rw [List.append_nil]; exact hO) ⟨rfl, rfl, rfl, Nat.le_refl _, fun _ _ _ => rfl⟩)
    rcases hO.2 with ⟨rfl, _⟩ | ⟨g, cap, cur, rfl, hbg, hg, hnc, hcm, hcs, htake⟩
    · cases ad <;> simp [Builtin.append_, run_underlying Tryz.underlying24, Result.andThen, sizeOf, typeInfo, hi, hz1, Builtin.lenOf, Builtin.firstCells, loadCells, loadCellsFrom]
    · cases ad <;> simp [Builtin.append_, run_underlying Tryz.underlying24, Result.andThen, hnc, sizeOf, typeInfo, hi, hz1, Builtin.lenOf, Builtin.firstCells, loadCells, loadCellsFrom, storeCells]
  · obtain ⟨t, r, rfl⟩ := List.exists_cons_of_ne_nil hm
    obtain ⟨g, o', e, _⟩ := hM.at (i := 0) (t := t) rfl
    subst e
    subst hn
    refine wpList_append_own _ hgd s x 24 ho base 32 i (.agg zero9) 9 96 Tryz.underlying24 hi hz0 hz1 hz2 rfl (by decide) v l.length (tgcs l) hs hO ⟨g, o', none⟩ (t :: r).length c (tgcs (t :: r)) hx (tgcs_len _) hM.news (tgcs_one _) (by unfold maxLen; omega) (by omega) hbase ?_
    intro v' w' h1 h2 _
    refine h v' w' ?_ h2
    unfold TgR
    rw [List.length_append, tgcs_app]
    exact h1
theorem Tk.TgR.grown {w w5 : World} {base : Nat} {v : Value} {l : List Tg} (h : TgR w base v l) (hg : w.grownBy w5 v.ownBlock) {a : World} {n : Nat} (hb : Below n a w) (hn : n ≤ base) (ha : n ≤ a.heap.size) : Below n a w5 := by
  cases ho : v.ownBlock with
  | none =>
    rw [ho] at hg
    exact hb.trans ((grown_below hg).mono (Nat.le_trans ha hb.size))
  | some b =>
    rw [ho] at hg
    have := (World.ownsRow.lt h b ho).1
    exact Tn.below hb (grown_tn hg) (by omega) ha
def Tk.t99 : Tg := ⟨99, 0, 0, [], nmZ0⟩
set_option maxHeartbeats 3200000 in
set_option maxRecDepth 100000 in
theorem tights_walk {w : World} {a : Option Addr} {n c : Nat} {l : List Tg} (hR : Rt w (.slice a n c) l) (hl : l.length ≤ 1048576) (hz : (l.map szT).sum ≤ 1048576) (hT : PowTab w) :
    Calls Tryz.prog 4 #[.slice a n c] w fun e w' => e = .returned (.bool true) ∧ Below w.heap.size w w' := by
  have hnl : n = l.length := by
    obtain ⟨a', c', e⟩ := hR.slice
    simp only [Value.slice.injEq] at e
    exact e.2.1
  subst hnl
  have TL : Hid (∀ w', Below w.heap.size w w' → PowTab w') := fun w' hb => pow_later18 hT hb
  have HR : Hid (Rt w (.slice a l.length c) l) := hR
  have hN : ∀ t ∈ l, t.num.num.length ≤ 1000000000 ∧ t.num.den.length ≤ 1000000000 := fun t ht => by
    have h2 : szT t ≤ 1048576 := Nat.le_trans (szT_mem l t ht) hz
    unfold szT at h2
    omega
  have HN : Hid (∀ t ∈ l, t.num.num.length ≤ 1000000000 ∧ t.num.den.length ≤ 1000000000) := hN
  have hZ : (tightL false l).length ≤ 100000000 := by have := tight_sz l false; omega
  clear hT hN hz
  have hbA : Below w.heap.size w (w.alloc (.cells #[] 32)) := (Below.refl _ _).alloc (Nat.le_refl _) _
  have hrow0 : TgR (w.alloc (.cells #[] 32)) w.heap.size (.slice (some ⟨w.heap.size, 0, none⟩) 0 0) [] :=
    ⟨rfl, Or.inr ⟨w.heap.size, 0, #[], rfl, Nat.le_refl _, Bk.new w 32 #[], Nat.le_refl _, by unfold maxLen; omega, rfl, rfl⟩⟩
  have hsrc0 := hR.later hbA
  have hlen0 : ([] : List Tg).length + l.length ≤ 1000000000 := by simp; omega
  have hbs0 : w.heap.size ≤ (w.alloc (.cells #[] 32)).heap.size := hbA.size
  clear hR
  go_enter Tryz.func4, Tryz.ntmps4
  go_wp2_with (at_builtin; refine wpList_appT rfl _ _ rfl rfl hrow0 rfl hsrc0 hlen0 hbs0 ?_)
  intro v7 w1 hR1 hg1
  have hb1 : Below w.heap.size w w1 := hrow0.grown hg1 hbA (Nat.le_refl _) (Nat.le_refl _)
  have hR1' : TgR w1 w.heap.size v7 l := hR1
  have hb2 : Below w1.heap.size w1 (w1.alloc (.cells (tgcs [t99]).toArray 32)) := (Below.refl _ _).alloc (Nat.le_refl _) _
  have hsrc2 : Rt (w1.alloc (.cells (tgcs [t99]).toArray 32)) (.slice (some ⟨w1.heap.size, 0, none⟩) 1 1) [t99] := by
    refine ⟨some ⟨w1.heap.size, 0, none⟩, 1, rfl, fun i t ht => ⟨w1.heap.size, 0, rfl, fun j u hu => ?_⟩⟩
    have hi0 : i = 0 := by
      have := (List.getElem?_eq_some_iff.mp ht).1
      simp at this; omega
    subst hi0
    simp at ht
    subst ht
    have hB := Bk.new w1 32 (tgcs [t99]).toArray
    rw [show 0 + 0 * 9 + j = j from by omega]
    exact hB.cell j (by rw [List.getElem?_toArray]; show ((tgA t99).toList ++ [])[j]? = _; rw [List.append_nil, Array.getElem?_toList]; exact hu)
  have hrow2 := hR1'.later hb2
  have hlen2 : l.length + [t99].length ≤ 1000000000 := by simp; omega
  have hbs2 : w.heap.size ≤ (w1.alloc (.cells (tgcs [t99]).toArray 32)).heap.size := Nat.le_trans hb1.size hb2.size
  have B12 := hb1.trans (hb2.mono hb1.size)
  have HB12 : Hid _ := B12
  clear hrow0 hsrc0 hlen0 hbs0 hg1 hbA hR1 hR1' hb2 B12
  go_wp2_with (at_builtin; refine wpList_appT rfl _ _ rfl rfl hrow2 rfl hsrc2 hlen2 hbs2 ?_)
  intro v3 w2 hR2 hg2
  have hb3 : Below w.heap.size w w2 := hrow2.grown hg2 HB12.out (Nat.le_refl _) (Nat.le_refl _)
  obtain ⟨g3, cap3, rfl, _, hcap⟩ := hR2.slice (by simp)
  have HR2 : Hid (TgR w2 w.heap.size (.slice (some ⟨g3, 0, none⟩) (l ++ [t99]).length cap3) (l ++ [t99])) := hR2
  have hlen3 : (l ++ [t99]).length = l.length + 1 := by simp
  have HB3 : Hid (Below w.heap.size w w2) := hb3
  have cT := tight18_any (HR2.out.front cap3) (by omega) HN.out (by omega) (fun w' hb => TL.out w' (hb3.trans (hb.mono hb3.size)))
  clear hrow2 hsrc2 hlen2 hbs2 hg2 HB12 hR2 hb3 hb1
  rw [hlen3] at hcap ⊢
  have hcI : (l.length : Int) ≤ (cap3 : Int) := by omega
  have hcI2 : (l.length : Int) ≤ (l.length : Int) + 1 := by omega
  clear hlen3
  go_wp2_with fail
  refine cT.mono ?_
  rintro e w4 ⟨rfl, hb4⟩
  clear cT
  have HB4 : Hid (Below w.heap.size w w4) := HB3.out.trans (hb4.mono HB3.out.size)
  have HR4 : Hid (TgR w4 w.heap.size (.slice (some ⟨g3, 0, none⟩) (l ++ [t99]).length cap3) (l ++ [t99])) := HR2.out.later hb4
  clear HB3 HR2 hb4
  have cA := alive18_any (w := w4) (fun w' hb => TL.out w' (HB4.out.trans (hb.mono HB4.out.size)))
  go_wp2_with fail
  refine cA.mono ?_
  rintro e w5 ⟨rfl, hb5⟩
  clear cA
  have HB5 : Hid (Below w.heap.size w w5) := HB4.out.trans (hb5.mono HB4.out.size)
  have HR5 : Hid (TgR w5 w.heap.size (.slice (some ⟨g3, 0, none⟩) (l ++ [t99]).length cap3) (l ++ [t99])) := HR4.out.later hb5
  clear HB4 HR4 hb5
  have cR := rtight18_any (HR.out.later HB5.out) (by omega) HN.out (by omega)
  generalize str (tightL false l) = TT at *
  go_wp2_with fail
  refine cR.mono ?_
  rintro e w6 ⟨rfl, hb6⟩
  clear cR
  have HB6 : Hid (Below w.heap.size w w6) := HB5.out.trans (hb6.mono HB5.out.size)
  have HR6 : Hid (TgR w6 w.heap.size (.slice (some ⟨g3, 0, none⟩) (l ++ [t99]).length cap3) (l ++ [t99])) := HR5.out.later hb6
  clear HB5 HR5 hb6
  have cQ := eq18_same (HR6.out.front cap3) (HR.out.later HB6.out) (by omega)
  go_wp2_with fail
  refine cQ.mono ?_
  rintro e w7 ⟨rfl, hb7⟩
  clear cQ
  have HB7 : Hid (Below w.heap.size w w7) := HB6.out.trans (hb7.mono HB6.out.size)
  have R7 : TgR w7 w.heap.size (.slice (some ⟨g3, 0, none⟩) (l ++ [t99]).length cap3) (l ++ [t99]) := HR6.out.later hb7
  have p0 : w7.cell? ⟨g3, l.length * 9, none⟩ = some (.int .i64 99) := R7.at (i := l.length) (t := t99) (by simp) (j := 0) rfl
  have hlt : (l.length : Int) < (l.length : Int) + 1 := by omega
  clear R7 hb7 HB6 HR6
  go_wp2
  go_ret
  exact ⟨rfl, HB7.out⟩
end Go.Proofs.YtfgpjplfplbcdaaGreatDoor


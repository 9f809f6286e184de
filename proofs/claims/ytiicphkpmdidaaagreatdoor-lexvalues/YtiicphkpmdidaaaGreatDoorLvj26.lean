import Derived.Deep.DeepCutAuto
import Derived.Below
import Derived.BigQuiet
import Derived.ChangeOld
import Derived.Deep.CutRange
import Derived.Deep.DeepFit
import Derived.Deep.LoopGhost
import Derived.Deep.QuietTactic
import Derived.Deep.RegionHeld3
import Derived.Deep.RegionWith
import Derived.Deep.WholeRow
import Derived.Defers
import Derived.KernelRfl
import Derived.Laws.BitsAllLaws
import Derived.Laws.CopyRow
import Derived.Laws.EntriesVeiled
import Derived.Laws.Externs
import Derived.Laws.IdiomCopy
import Derived.Laws.IdiomRangeMap
import Derived.Laws.IdiomStrings
import Derived.Laws.RangeAny
import Derived.Laws.RangeString
import Derived.Laws.ResultCell
import Derived.Laws.Runes
import Derived.Laws.Strings3
import Derived.Lib.AsciiSet
import Derived.Lib.AtoiErrMem
import Derived.Lib.BufferRead
import Derived.Lib.Bytealg
import Derived.Lib.ConvBytes
import Derived.Lib.IndexBytes
import Derived.Lib.OthersKept
import Derived.Lib.Strings
import Derived.Lib.TrimByte
import Derived.Lib.Walk
import Derived.OpenShut
import Derived.Orders
import Derived.OwnWalk
import Derived.ProofKit
import Derived.Recover
import Derived.Scope
import Derived.Shelf.Strconv.Clone
import Derived.Shelf.Strings.OnBuilder
import Derived.ShutString
import Derived.WalkKit
import Derived.WalkLawsBesides
import Derived.WalkMore
import Derived.WalkSpells
import Derived.Test.YtiicphkpmdidaaaGreatDoorLvj22
import Derived.Test.YtiicphkpmdidaaaGreatDoorLvj25
/- LexValues: what is made, and its pieces. -/
namespace Go.Proofs.YtiicphkpmdidaaaGreatDoor
open Go.ChangeShapes Go.WideShapes Go.ChangeAt Go.RowKit
open Na Ar Lx
set_option linter.unusedVariables false
namespace Lx
theorem bareR_len (l : B) : (bareR l).length ≤ l.length := by
  unfold bareR
  rw [List.length_map]
  exact (List.dropWhile_sublist _).length_le
theorem tmod_small {e : Int} (h0 : -60 < e) (h1 : e < 60) : -60 < e.tmod 100000 ∧ e.tmod 100000 < 60 := by
  by_cases h : 0 ≤ e
  · rw [Int.tmod_eq_emod_of_nonneg h]; omega
  · have q : e = -(-e) := by omega
    rw [q, Int.neg_tmod, Int.tmod_eq_emod_of_nonneg (by omega)]; omega
theorem mdN_small {k e : Int} {s h t : B} {ne : Bool} (hk : k = 0 ∨ k = 1 ∨ k = 2) (hh : h.length ≤ 40) (ht : t.length ≤ 40) (h0 : -60 < e) (h1 : e < 60) :
    (mdN k s h t ne e).num.length ≤ 100 ∧ (mdN k s h t ne e).den.length ≤ 100 ∧ -300 ≤ (mdN k s h t ne e).exp ∧ (mdN k s h t ne e).exp ≤ 300 := by
  have l1 : ∀ k : Int, (mdHead k h t).length ≤ 40 := by
    intro k
    unfold mdHead
    split
    · split
      · simp
      · exact hh
    · split
      · simp
      · exact hh
  have l2 : ∀ k : Int, (mdTail k t).length ≤ 40 := by
    intro k
    unfold mdTail
    split
    · split
      · simp
      · exact ht
    · exact ht
  rcases hk with rfl | rfl | rfl
  · rw [mdN_0]
    refine ⟨?_, by simp, ?_, ?_⟩
    · have := bareR_len (mdHead 0 h t ++ t); rw [List.length_append] at this; have := l1 0; show (bareR _).length ≤ 100; omega
    · show -300 ≤ (if ne = true then -(t.length : Int) else e - t.length); split <;> omega
    · show (if ne = true then -(t.length : Int) else e - t.length) ≤ 300; split <;> omega
  · rw [mdN_1]
    refine ⟨?_, by simp, ?_, ?_⟩
    · have := bareR_len (mdHead 1 h t ++ t); rw [List.length_append] at this; have := l1 1; show (bareR _).length ≤ 100; omega
    · show -300 ≤ e - 4 * (t.length : Int); omega
    · show e - 4 * (t.length : Int) ≤ 300; omega
  · rw [mdN_2]
    refine ⟨?_, ?_, (by show (-300 : Int) ≤ 0; omega), (by show (0 : Int) ≤ 300; omega)⟩
    · have := bareR_len (mdHead 2 h t); have := l1 2; show (bareR _).length ≤ 100; omega
    · have := bareR_len (mdTail 2 t); have := l2 2; show (bareR _).length ≤ 100; omega
theorem mul_step (s : Bool) (X : Int) {S : Int} : mkR s X 1 * ((S : Int) : Rat) = mkR s (X * S) 1 := by
  rw [mkR_one, mkR_one, ← Rat.intCast_mul]
  congr 1
  cases s
  · rfl
  · show -X * S = -(X * S)
    rw [Int.neg_mul]
theorem mkR_divV (s : Bool) {A B : Int} (hB : 0 < B) : mkR s A B = ((sg s A : Int) : Rat) / ((B : Int) : Rat) := by
  unfold mkR
  rw [Rat.mkRat_eq_div]
  have : (((B.toNat : Nat) : Int) : Rat) = ((B : Int) : Rat) := by rw [Int.toNat_of_nonneg (by omega)]
  rw [← this]
  rfl
theorem rat_ne0 {B : Int} (hB : 0 < B) : ((B : Int) : Rat) ≠ 0 := by
  intro h
  have : B = 0 := Rat.intCast_inj.mp (by rw [h]; rfl)
  omega
theorem div_step (s : Bool) (X : Int) {D S : Int} (hD : 0 < D) (hS : 0 < S) : mkR s X D / ((S : Int) : Rat) = mkR s X (D * S) := by
  have p := rat_ne0 hD
  have q := rat_ne0 hS
  rw [mkR_divV s hD, mkR_divV s (Int.mul_pos hD hS), Rat.intCast_mul]
  generalize ((D : Int) : Rat) = d at *
  generalize ((S : Int) : Rat) = u at *
  generalize ((sg s X : Int) : Rat) = v
  grind
theorem nv_zero_app (b : Int) (l : B) : nv b (48 :: l) = nv b l := by
  have h := nv_app b [48] l
  rw [List.singleton_append] at h
  rw [h, nv_one]
  have : valN ((48 : UInt8).toNat : Int) = 0 := by decide
  rw [this, Int.zero_mul, Int.zero_add]
end Lx
theorem made9_full {kd sg e : Int} {a1 a2 : Option Addr} {n1 c1 n2 c2 : Nat} {z1 z2 : List Int} (hn1 : n1 ≤ 9223372036854775807) (hn2 : n2 ≤ 9223372036854775807) (pt ne plus big : Bool) (h0 : -60 < e) (h1 : e < 60) :
    ∃ (S : Lx.B) (N : Lx.Nm), rightB N.kind N.num N.exp N.den = true ∧ (N.num.length ≤ 100 ∧ N.den.length ≤ 100 ∧ -300 ≤ N.exp ∧ N.exp ≤ 300) ∧ ∀ w, RowAt .i64 w a1 n1 z1 → RowAt .i64 w a2 n2 z2 → Calls Tryz.prog 4 #[.agg (pieA kd sg (.slice a1 n1 c1) (.slice a2 n2 c2) pt ne e plus big)] w fun r w' =>
      r = .returned (.tuple #[.string (str S), .agg (nmA N)]) ∧ Below w.heap.size w w' := by
  have hk : kd % 3 = 0 ∨ kd % 3 = 1 ∨ kd % 3 = 2 := by omega
  obtain ⟨t0, t1⟩ := tmod_small h0 h1
  refine ⟨mdS (kd % 3) (sgL (sg % 3 - 1) plus) (dgL (baseOf (kd % 3)) big z1) (dgL (baseOf (kd % 3)) big z2) pt ne big (exL (e.tmod 100000) plus), mdN (kd % 3) (sgL (sg % 3 - 1) plus) (dgL (baseOf (kd % 3)) big z1) (dgL (baseOf (kd % 3)) big z2) ne (e.tmod 100000), made_right hk _ rfl, mdN_small hk dgL_len dgL_len t0 t1, fun w hr1 hr2 => ?_⟩
  rcases hk with k0 | k1 | k2
  · rw [k0]; exact made9_k0 hr1 hr2 hn1 hn2 pt ne plus big k0 rfl rfl rfl rfl
  · rw [k1]; exact made9_k1 hr1 hr2 hn1 hn2 pt ne plus big k1 rfl rfl rfl rfl
  · rw [k2]; exact made9_k2 hr1 hr2 hn1 hn2 pt ne plus big k2 rfl rfl rfl rfl
theorem parse0_any (l : Lx.B) {b : Int} (hb : b = 10 ∨ b = 16) (hs : l.length ≤ 200) (hd : okB b l) (w : World) :
    Calls Tryz.prog 6 #[.string (str (48 :: l)), .int .i64 b] w fun r w' => ∃ a n c ls, r = .returned (.tuple #[.slice a n c, .nilIface]) ∧ RowC w' a n c ls ∧ Na.Nm ls (nv b l) ∧ ls.length ≤ 4096 ∧ Below w.heap.size w w' := by
  have hd' : okB b (48 :: l) := fun c hc => by
    rcases List.mem_cons.mp hc with rfl | hc
    · have : valN ((48 : UInt8).toNat : Int) = 0 := by decide
      omega
    · exact hd c hc
  have hw := nv_words hb hd (by omega)
  have nn := nv_nonneg (b := b) (by omega) l
  have hp := parse_good (str (48 :: l)) b (by omega) (by omega) (by rw [str_size, List.length_cons]; omega) (by rw [str_size, List.length_cons]; omega) (fun i hi => by
    rw [str_size] at hi
    exact hd'.dgt i hi) w
  rw [nv_of, str_list, nv_zero_app] at hp
  refine hp.mono ?_
  rintro e w' (⟨_, v, rfl, ho, hb'⟩ | ⟨hc, _⟩)
  · obtain ⟨a, c, rfl, hr⟩ := ho.readsC
    exact ⟨a, _, c, _, rfl, hr, nm_words nn (by omega), hw, hb'⟩
  · omega
set_option maxHeartbeats 6400000 in
set_option maxRecDepth 100000 in
theorem rNew_void {s : Bool} {w : World} {a b : Option Addr} {n c m d : Nat} {ys : List Int} (hr2 : RowC w b m d ys) (hy : Ws ys) (hm : m ≤ 4096) (h0 : num ys = 0) :
    Calls Tryz.prog 7 #[.bool s, .slice a n c, .slice b m d] w fun e w' => e = .returned (.tuple #[.agg #[.bool false, .slice none 0 0, .slice none 0 0], .int .i64 50]) ∧ Below w.heap.size w w' := by
  have hb0 := alloc_below (w := w) (.cells #[.bool false, .slice none 0 0, .slice none 0 0] 36)
  have st0 := st_new w (.bool false) (.slice none 0 0) (.slice none 0 0) 36
  have k2 := bits0_any (hr2.later hb0) hy (by omega)
  rw [h0, bits_none] at k2
  clear hr2
  obtain ⟨x0, x1, x2⟩ := st0.cells
  obtain ⟨y0, y1, y2⟩ := st0.frozen
  go_enter Tryz.func7, Tryz.ntmps7
  go_wp2_with fail
  refine k2.mono ?_
  rintro e w1 ⟨rfl, rfl⟩
  go_wp2_with fail
  refine bodyPost_ret (v := .tuple #[.agg #[.bool false, .slice none 0 0, .slice none 0 0], .int .i64 50]) (by simp [results, Tryz.results7, go_sem]) rfl ?_
  exact ⟨rfl, hb0⟩
set_option maxHeartbeats 3200000 in
set_option maxRecDepth 100000 in
theorem value9_void (ng : Bool) (nu : ByteArray) (e : Int) (de : ByteArray) (hr : rightB 3 nu.data.toList e de.data.toList = true) (hn : nu.size ≤ 400) (hz : de.data.toList = []) (w : World) :
    Calls Tryz.prog 8 #[.agg (numC 3 ng nu e de)] w fun r w' => r = .returned (.tuple #[.agg #[.bool false, .slice none 0 0, .slice none 0 0], .int .i64 50]) ∧ Below w.heap.size w w' := by
  have sd : de.size = 0 := by rw [Lib.size_eq, hz]; rfl
  have hC : ∀ w, Calls Tryz.prog 27 #[.agg (numC 3 ng nu e de)] w fun r w' => r = .returned (.int .i64 0) ∧ Below w.heap.size w w' := fun w => by
    have := check9_any 3 ng nu e de (by omega) (by omega) w
    rw [hr, if_pos rfl] at this
    exact this
  have hed : de.toList.isEmpty = true := by rw [Lib.toList_data, hz]; rfl
  have hb1 : Below w.heap.size w (w.alloc (.cells (numC 3 ng nu e de) 26)) := (Below.refl _ w).alloc (Nat.le_refl _) _
  have B1 : Bk (w.alloc (.cells (numC 3 ng nu e de) 26)) w.heap.size 26 (numC 3 ng nu e de) := Bk.new _ _ _
  have st1 := st_new (w.alloc (.cells (numC 3 ng nu e de) 26)) (.bool false) (.slice none 0 0) (.slice none 0 0) 36
  have hb2 := alloc_below (w := w.alloc (.cells (numC 3 ng nu e de) 26)) (.cells #[.bool false, .slice none 0 0, .slice none 0 0] 36)
  have hb0 := hb1.trans (hb2.mono hb1.size)
  have B0 := B1.later hb2
  rw [World.size_alloc] at st1
  obtain ⟨w0, hw0⟩ : ∃ w0, w0 = (w.alloc (.cells (numC 3 ng nu e de) 26)).alloc (.cells #[.bool false, .slice none 0 0, .slice none 0 0] 36) := ⟨_, rfl⟩
  rw [← hw0] at st1 hb0 B0
  obtain ⟨g, hg⟩ : ∃ g, g = w.heap.size := ⟨_, rfl⟩
  have HG : Hid (w.heap.size = g) := hg.symm
  rw [← hg] at B0 st1
  clear hb1 hb2 B1 hz hr
  unfold numC at hC hw0 ⊢
  go_enter Tryz.func8, Tryz.ntmps8
  go_wp2_with fail
  rw [← hw0, ← hg]
  refine (hC _).mono ?_
  rintro r w1 ⟨rfl, hbC⟩
  have BC := B0.later hbC
  have z0 := BC.cell 0 (v := .int .i64 3) rfl
  have z4 := BC.cell 4 (v := .string de) rfl
  have tC := st1.later hbC
  obtain ⟨p0, p1, p2⟩ := tC.cells
  obtain ⟨o0, o1, o2⟩ := tC.frozen
  have hB9 := hb0.trans (hbC.mono hb0.size)
  clear hC hw0 hg st1 B0 hb0
  go_wp2
  have st9 := (tC.set (.bool false) (.slice none 0 0) (.slice none 0 0)).cells
  refine bodyPost_ret (v := .tuple #[.agg #[.bool false, .slice none 0 0, .slice none 0 0], .int .i64 50]) (by simp [results, Tryz.results8, go_sem, st9]) rfl ?_
  exact ⟨rfl, below_in hB9 (in3 _ _ _ _ _) (by rw [HG.out]; omega) (Nat.le_refl _)⟩
set_option maxHeartbeats 3200000 in
set_option maxRecDepth 100000 in
theorem one9_any {w : World} {s1 s2 : Bool} {a1 b1 a2 b2 : Option Addr} {n1 c1 m1 d1 n2 c2 m2 d2 : Nat} {q : Rat} {k : Nat} (h1 : Rt w s1 a1 n1 c1 b1 m1 d1 q) (h2 : Rt w s2 a2 n2 c2 b2 m2 d2 q) (hz : Sz q k) (hk : k ≤ 4096) :
    Calls Tryz.prog 9 #[.agg #[.bool s1, .slice a1 n1 c1, .slice b1 m1 d1], .agg #[.bool s2, .slice a2 n2 c2, .slice b2 m2 d2]] w fun r w' => r = .returned (.bool true) ∧ Below w.heap.size w w' := by
  obtain ⟨t1, t2, hb0⟩ := st_two w (.bool s1) (.slice a1 n1 c1) (.slice b1 m1 d1) (.bool s2) (.slice a2 n2 c2) (.slice b2 m2 d2) 36 36
  have e1 : s1 = s2 := h1.sgn.trans h2.sgn.symm
  subst e1
  have l1 := h1.le hz
  have l2 := h2.le hz
  have l3 := h1.leD hz
  have l4 := h2.leD hz
  have f1 : ∀ {w1 : World}, Below w.heap.size w w1 → Calls Tryz.prog 33 #[.slice a1 n1 c1, .slice a2 n2 c2] w1 fun e w' => e = .returned (.bool true) ∧ Below w1.heap.size w1 w' := fun {w1} h => by
    have := same_any (c1 := c1) (c2 := c2) (h1.later h).nu.1 (h2.later h).nu.1 (by omega) (by omega)
    rw [decide_eq_true rfl] at this
    exact this
  have f2 : ∀ {w1 : World}, Below w.heap.size w w1 → Calls Tryz.prog 33 #[.slice b1 m1 d1, .slice b2 m2 d2] w1 fun e w' => e = .returned (.bool true) ∧ Below w1.heap.size w1 w' := fun {w1} h => by
    have := same_any (c1 := d1) (c2 := d2) (h1.later h).de.1 (h2.later h).de.1 (by omega) (by omega)
    rw [decide_eq_true rfl] at this
    exact this
  obtain ⟨w0, hw0⟩ : ∃ w0, w0 = (w.alloc (.cells #[.bool s1, .slice a1 n1 c1, .slice b1 m1 d1] 36)).alloc (.cells #[.bool s1, .slice a2 n2 c2, .slice b2 m2 d2] 36) := ⟨_, rfl⟩
  rw [← hw0] at t1 t2 hb0
  obtain ⟨g, hg⟩ : ∃ g, g = w.heap.size := ⟨_, rfl⟩
  rw [← hg] at t1 t2
  clear h1 h2 hz
  go_enter Tryz.func9, Tryz.ntmps9
  go_wp2_with fail
  rw [← hw0]
  refine (f1 hb0).mono ?_
  rintro r w1 ⟨rfl, hb1⟩
  have H1 := hb0.trans (hb1.mono hb0.size)
  obtain ⟨x0, x1, x2⟩ := (t1.later hb1).cells
  obtain ⟨y0, y1, y2⟩ := (t2.later hb1).cells
  rw [← hg]
  clear f1 hw0 hg hb1
  go_wp2_with fail
  refine (f2 H1).mono ?_
  rintro r w2 ⟨rfl, hb2⟩
  have H2 := H1.trans (hb2.mono H1.size)
  clear f2 hb2
  go_wp2
  go_ret
  exact ⟨rfl, H2⟩
theorem okB_kept10 {l : Lx.B} (h : keptB digs9 l = true) : okB 10 l := by
  by_cases hz : l = []
  · subst hz; intro c hc; cases hc
  · exact okB_ten (kept_dec h hz).2.2.1
theorem okB_kept16 {l : Lx.B} (h : keptB smal9 l = true) : okB 16 l := by
  by_cases hz : l = []
  · subst hz; intro c hc; cases hc
  · exact (kept_hex h hz).2.2.1
end Go.Proofs.YtiicphkpmdidaaaGreatDoor

/- LexValues: the walk. -/
namespace Go.Proofs.YtiicphkpmdidaaaGreatDoor
open Go.ChangeShapes Go.WideShapes Go.ChangeAt Go.RowKit
open Na Ar Lx
set_option linter.unusedVariables false
theorem RtO_rtV {w : World} {base : Nat} {s : Bool} {a b : Option Addr} {n c m d : Nat} {q : Rat} (h : RtO w base s (.slice a n c) (.slice b m d) q) : Rt w s a n c b m d q := by
  obtain ⟨a', n', c', b', m', d', e1, e2, r⟩ := h.opens
  simp only [Value.slice.injEq] at e1 e2
  obtain ⟨rfl, rfl, rfl⟩ := e1
  obtain ⟨rfl, rfl, rfl⟩ := e2
  exact r
theorem sz_intV {v : Int} (h : v.natAbs < 18446744073709551616) : Sz ((v : Int) : Rat) 1 := by
  refine ⟨?_, ?_⟩
  · rw [Rat.num_intCast]; exact Lt.word ⟨by omega, by omega⟩
  · rw [Rat.den_intCast]; exact lt_one
/-- what is the same in the loops: the boxes, the value, the step -/
structure Lp (w : World) (gn gr gv gs : Nat) (cs : Array Value) (sv : Bool) (av : Option Addr) (nv' cv : Nat) (bv : Option Addr) (mv dv' : Nat) (ss : Bool) (aS : Option Addr) (nS cS : Nat) (bS : Option Addr) (mS dS : Nat) (Q : Rat) (ST : Rat) : Prop where
  bn : Bk w gn 26 cs
  tv : St w gv 36 (.bool sv) (.slice av nv' cv) (.slice bv mv dv')
  ts : St w gs 36 (.bool ss) (.slice aS nS cS) (.slice bS mS dS)
  rv : ∃ base, gr < base ∧ RtO w base sv (.slice av nv' cv) (.slice bv mv dv') Q
  rs : ∃ base, gr < base ∧ RtO w base ss (.slice aS nS cS) (.slice bS mS dS) ST
section
variable {w w' : World} {gn gr gv gs : Nat} {cs : Array Value} {sv : Bool} {av : Option Addr} {nv' cv : Nat} {bv : Option Addr} {mv dv' : Nat} {ss : Bool} {aS : Option Addr} {nS cS : Nat} {bS : Option Addr} {mS dS : Nat} {Q ST : Rat}
theorem Lp.later (h : Lp w gn gr gv gs cs sv av nv' cv bv mv dv' ss aS nS cS bS mS dS Q ST) (hb : Below w.heap.size w w') : Lp w' gn gr gv gs cs sv av nv' cv bv mv dv' ss aS nS cS bS mS dS Q ST := by
  obtain ⟨b1, h1, r1⟩ := h.rv
  obtain ⟨b2, h2, r2⟩ := h.rs
  exact ⟨h.bn.later hb, h.tv.later hb, h.ts.later hb, ⟨b1, h1, r1.later hb⟩, ⟨b2, h2, r2.later hb⟩⟩
theorem Lp.set (h : Lp w gn gr gv gs cs sv av nv' cv bv mv dv' ss aS nS cS bS mS dS Q ST) (x y z : Value) (n1 : gn ≠ gr) (n2 : gv ≠ gr) (n3 : gs ≠ gr) : Lp (((w.setCell ⟨gr, 0, none⟩ x).setCell ⟨gr, 1, none⟩ y).setCell ⟨gr, 2, none⟩ z) gn gr gv gs cs sv av nv' cv bv mv dv' ss aS nS cS bS mS dS Q ST := by
  obtain ⟨b1, h1, r1⟩ := h.rv
  obtain ⟨b2, h2, r2⟩ := h.rs
  exact ⟨h.bn.tn ((((Tn.refl gr w).set 0 x).set 1 y).set 2 z) n1, h.tv.inn (in3 w gr x y z) n2, h.ts.inn (in3 w gr x y z) n3, ⟨b1, h1, r1.inn (in3 w gr x y z) h1⟩, ⟨b2, h2, r2.inn (in3 w gr x y z) h2⟩⟩
end
set_option maxHeartbeats 25600000 in
set_option maxRecDepth 100000 in
theorem values_walk {w : World} {kd sg e : Int} {a1 a2 : Option Addr} {n1 c1 n2 c2 : Nat} {z1 z2 : List Int} {pt ne plus big : Bool} (hr1 : RowAt .i64 w a1 n1 z1) (hn1 : n1 ≤ 9223372036854775807) (hr2 : RowAt .i64 w a2 n2 z2) (hn2 : n2 ≤ 9223372036854775807) :
    Calls Tryz.prog 3 #[.agg (pieA kd sg (.slice a1 n1 c1) (.slice a2 n2 c2) pt ne e plus big)] w fun r w' => r = .returned (.bool true) ∧ Below w.heap.size w w' := by
  obtain ⟨E0, hE0⟩ : ∃ E0, e.tmod 60 = E0 := ⟨_, rfl⟩
  have b0 : -60 < E0 := by rw [← hE0]; exact Int.lt_tmod_of_pos e (by omega)
  have b1 : E0 < 60 := by rw [← hE0]; exact Int.tmod_lt_of_pos e (by omega)
  obtain ⟨S, ⟨k, ng, nu, ex, de⟩, hrt, ⟨ln, ld, x0, x1⟩, hM⟩ := made9_full (kd := kd) (sg := sg) (e := E0) (a1 := a1) (a2 := a2) (c1 := c1) (c2 := c2) (z1 := z1) (z2 := z2) hn1 hn2 pt ne plus big b0 b1
  dsimp only at hrt ln ld x0 x1
  unfold nmA at hM
  dsimp only at hM
  have B0 := Bk.new w 24 (pieA kd sg (.slice a1 n1 c1) (.slice a2 n2 c2) pt ne e plus big)
  have hb0 : Below w.heap.size w (w.alloc (.cells (pieA kd sg (.slice a1 n1 c1) (.slice a2 n2 c2) pt ne e plus big) 24)) := (Below.refl _ w).alloc (Nat.le_refl _) _
  obtain ⟨w0, hw0⟩ : ∃ w0, w0 = w.alloc (.cells (pieA kd sg (.slice a1 n1 c1) (.slice a2 n2 c2) pt ne e plus big) 24) := ⟨_, rfl⟩
  rw [← hw0] at B0 hb0
  obtain ⟨g, hg⟩ : ∃ g, g = w.heap.size := ⟨_, rfl⟩
  rw [← hg] at B0
  have HG : Hid (w.heap.size = g) := hg.symm
  unfold pieA at hw0 hM ⊢
  go_enter Tryz.func3, Tryz.ntmps3
  go_upto_region 1 with fail
  rw [← hw0, ← hg]
  clear hw0 hg
  have y0 := B0.cell 0 (v := .int .i64 kd) rfl
  have y1 := B0.cell 1 (v := .int .i64 sg) rfl
  have y2 := B0.cell 2 (v := .slice a1 n1 c1) rfl
  have y3 := B0.cell 3 (v := .slice a2 n2 c2) rfl
  have y4 := B0.cell 4 (v := .bool pt) rfl
  have y5 := B0.cell 5 (v := .bool ne) rfl
  have y6 := B0.cell 6 (v := .int .i64 e) rfl
  have y7 := B0.cell 7 (v := .bool plus) rfl
  have y8 := B0.cell 8 (v := .bool big) rfl
  have f6 := B0.frozen 6
  obtain ⟨W, hW⟩ : ∃ W, W = w0.setCell ⟨g, 6, none⟩ (.int .i64 E0) := ⟨_, rfl⟩
  have BW : Below w.heap.size w W := by rw [hW]; exact Tn.below hb0 ((Tn.refl g w0).set 6 _) (by rw [HG.out]; exact Nat.le_refl _) (Nat.le_refl _)
  have hMW := hM W (hr1.later BW) (hr2.later BW)
  go_wp2_with fail
  rw [← hW]
  refine hMW.mono ?_
  rintro r w1 ⟨rfl, hb⟩
  replace BW := BW.trans (hb.mono BW.size)
  clear hM hMW hW hb y0 y1 y2 y3 y4 y5 y6 y7 y8 f6 B0 hb0 hr1 hr2 hE0 b0 b1
  go_upto_region 3 with fail
  have BN := Bk.new w1 26 #[.int .i64 k, .bool ng, .string (str nu), .int .i64 ex, .string (str de)]
  have hal := alloc_below (w := w1) (.cells #[.int .i64 k, .bool ng, .string (str nu), .int .i64 ex, .string (str de)] 26)
  replace BW := BW.trans (hal.mono BW.size)
  generalize w1.alloc (.cells #[.int .i64 k, .bool ng, .string (str nu), .int .i64 ex, .string (str de)] 26) = Y at *
  obtain ⟨gn, hgn⟩ : ∃ gn, gn = w1.heap.size := ⟨_, rfl⟩
  have kgn : w.heap.size ≤ Y.heap.size := BW.size
  rw [← hgn] at BN ⊢
  clear hgn hal
  have cat1 : (ByteArray.mk #[48]) ++ str nu = str (48 :: nu) := cat_str9 [48] nu
  have cat2 : (ByteArray.mk #[48]) ++ str de = str (48 :: de) := cat_str9 [48] de
  have hal := fun w => alive9b_any w
  have szn : (str nu).size ≤ 100 := by rw [str_size]; exact ln
  have szd : (str de).size ≤ 100 := by rw [str_size]; exact ld
  have hcn : ∀ w', Below Y.heap.size Y w' → w'.cell? ⟨gn, 0, none⟩ = some (.int .i64 k) ∧ w'.cell? ⟨gn, 1, none⟩ = some (.bool ng) ∧ w'.cell? ⟨gn, 2, none⟩ = some (.string (str nu)) ∧ w'.cell? ⟨gn, 3, none⟩ = some (.int .i64 ex) ∧ w'.cell? ⟨gn, 4, none⟩ = some (.string (str de)) := fun w' h => ⟨(BN.later h).cell 0 rfl, (BN.later h).cell 1 rfl, (BN.later h).cell 2 rfl, (BN.later h).cell 3 rfl, (BN.later h).cell 4 rfl⟩
  have sgn := BN.lt
  obtain ⟨p0, p1, p2, p3, p4⟩ := hcn Y (Below.refl _ _)
  rcases right_kinds hrt with ⟨rfl, q1, q2, q3⟩ | ⟨rfl, q1, q2, q3⟩ | ⟨rfl, q1, q2, q3⟩
  · have hd := okB_kept10 q1
    clear q1 q2 q3
    have R : refE 1 (str nu).data.toList ex (str de).data.toList = 0 := by rw [str_list, str_list]; unfold refE; rw [hrt, if_pos rfl, if_neg (fun q => absurd q.1 (by decide))]
    have hV := fun w => value9_any 1 ng (str nu) ex (str de) R (by omega) (by omega) (by omega) (by omega) w
    rw [str_list, str_list] at hV
    have HV0 : Hid (∀ X : Nat, ex = (X : Int) → mkR ng (vA 1 nu ex) (vB 1 ex de) = mkR ng (nv 10 nu * 10 ^ X) 1) := fun X hX => by
      unfold vA vB exN exD
      rw [if_pos rfl, if_pos rfl, if_pos (by omega), if_pos (by omega), hX, Int.toNat_natCast]
    have HV1 : Hid (∀ X : Nat, 0 < X → ex = -(X : Int) → mkR ng (vA 1 nu ex) (vB 1 ex de) = mkR ng (nv 10 nu) (10 ^ X)) := fun X hp hX => by
      unfold vA vB exN exD
      rw [if_pos rfl, if_pos rfl, if_neg (by omega), if_neg (by omega), hX, Int.neg_neg, Int.toNat_natCast]
    generalize mkR ng (vA 1 nu ex) (vB 1 ex de) = Q at *
    clear R hrt
    have hP0 := fun w => parse0_any nu (b := 10) (by omega) (by omega) hd w
    have lT := nv_LtV (b := 10) (by omega) (by omega) hd
    have lT' := lT.mono (show nu.length ≤ 100 by omega)
    go_wp2_with fail
    refine (hal _).mono ?_
    rintro r w2 ⟨rfl, H⟩
    obtain ⟨p0, p1, p2, p3, p4⟩ := hcn w2 H
    go_wp2_with fail
    refine (hP0 _).mono ?_
    rintro r w3 ⟨at_, nt, ct, lt', rfl, rt, mt, ltl, hb⟩
    replace H := H.trans (hb.mono H.size)
    obtain ⟨p0, p1, p2, p3, p4⟩ := hcn w3 H
    clear hP0 hb
    have hb3 := alloc_below (w := w3) (.cells #[.int .u64 1] 40)
    have r3 := rowC_one w3 1 40
    have hN1 := rNew_ok (neg := ng) (rt.later hb3) r3 mt (Nm.one (by omega)) (by omega) (lT'.mono (by omega)) (lt_one.mono (by omega)) (by have := rt.1.1; omega) (by omega)
    go_wp2_with fail
    refine hN1.mono ?_
    rintro r w4 ⟨s0, v1, v2, rfl, hR0, hb⟩
    obtain ⟨a0, n0, c0, b0, m0, d0, rfl, rfl, q0⟩ := hR0.opens
    have H4 := H.trans ((hb3.trans (hb.mono hb3.size)).mono H.size)
    replace rt := rt.later (hb3.trans (hb.mono hb3.size))
    clear hN1 hR0 hb hb3 r3 H p0 p1 p2 p3 p4
    go_upto_region 12 with fail
    have tr := st_new w4 (.bool s0) (.slice a0 n0 c0) (.slice b0 m0 d0) 36
    have ha4 := alloc_below (w := w4) (.cells #[.bool s0, .slice a0 n0 c0, .slice b0 m0 d0] 36)
    replace q0 := q0.later ha4
    replace rt := rt.later ha4
    have kgr : Y.heap.size ≤ w4.heap.size := H4.size
    replace H4 := H4.trans (ha4.mono H4.size)
    generalize w4.alloc (.cells #[.bool s0, .slice a0 n0 c0, .slice b0 m0 d0] 36) = y5 at *
    obtain ⟨gr, hgr⟩ : ∃ gr, gr = w4.heap.size := ⟨_, rfl⟩
    rw [← hgr] at tr kgr ⊢
    clear hgr ha4
    have slr := tr.lt
    obtain ⟨p0, p1, p2, p3, p4⟩ := hcn y5 H4
    unfold numC at hV
    go_wp2_with fail
    refine (hV _).mono ?_
    rintro r w6 ⟨sv, v1, v2, rfl, hRv, hb⟩
    obtain ⟨av, nv', cv, bv, mv, dv', rfl, rfl, _⟩ := hRv.opens
    have H6 := H4.trans (hb.mono H4.size)
    have kv := hb.size
    replace tr := tr.later hb
    replace q0 := q0.later hb
    clear hV hb H4 p0 p1 p2 p3 p4 rt
    go_upto_region 13 with fail
    have tv := st_new w6 (.bool sv) (.slice av nv' cv) (.slice bv mv dv') 36
    have ha6 := alloc_below (w := w6) (.cells #[.bool sv, .slice av nv' cv, .slice bv mv dv'] 36)
    replace q0 := q0.later ha6
    replace tr := tr.later ha6
    replace hRv := hRv.later ha6
    replace H6 := H6.trans (ha6.mono H6.size)
    generalize w6.alloc (.cells #[.bool sv, .slice av nv' cv, .slice bv mv dv'] 36) = y7 at *
    obtain ⟨gv, hgv⟩ : ∃ gv, gv = w6.heap.size := ⟨_, rfl⟩
    have kgv : y5.heap.size ≤ gv := by rw [hgv]; exact kv
    rw [← hgv] at tv ⊢
    clear hgv ha6
    obtain ⟨p0, p1, p2, p3, p4⟩ := hcn y7 H6
    have hI := fun w => rInt_any (v := 10) (by omega) (by omega) w
    go_wp2_with fail
    refine (hI _).mono ?_
    rintro r w8 ⟨ss, v1, v2, rfl, hRs, hb⟩
    obtain ⟨aS, nS, cS, bS, mS, dS, rfl, rfl, _⟩ := hRs.opens
    have HZ := hb
    have ks := hb.size
    clear hI hb p0 p1 p2 p3 p4
    go_upto_region 24 with fail
    have ts := st_new w8 (.bool ss) (.slice aS nS cS) (.slice bS mS dS) 36
    have ha8 := alloc_below (w := w8) (.cells #[.bool ss, .slice aS nS cS, .slice bS mS dS] 36)
    replace hRs := hRs.later ha8
    replace HZ := HZ.trans (ha8.mono HZ.size)
    generalize w8.alloc (.cells #[.bool ss, .slice aS nS cS, .slice bS mS dS] 36) = y9 at *
    obtain ⟨gs, hgs⟩ : ∃ gs, gs = w8.heap.size := ⟨_, rfl⟩
    rw [← hgs] at ts ks ⊢
    clear hgs ha8
    obtain ⟨p0, p1, p2, p3, p4⟩ := hcn y9 (H6.trans (HZ.mono H6.size))
    have svl := tv.lt
    go_upto_region 26 with fail
    have LP : Lp y9 gn gr gv gs #[.int .i64 1, .bool ng, .string (str nu), .int .i64 ex, .string (str de)] sv av nv' cv bv mv dv' ss aS nS cS bS mS dS Q (((10 : Int)) : Rat) := ⟨BN.later (H6.trans (HZ.mono H6.size)), tv.later HZ, ts, ⟨_, slr, hRv.later HZ⟩, ⟨_, by omega, hRs⟩⟩
    replace tr := tr.later HZ
    replace q0 := q0.later HZ
    have BZ := BW.trans ((H6.trans (HZ.mono H6.size)).mono BW.size)
    clear ts hRs p0 p1 p2 p3 p4
    have e1 : gn ≠ gr := by omega
    have e2 : gv ≠ gr := by omega
    have e3 : gs ≠ gr := by omega
    have kw : w.heap.size ≤ gr := by omega
    have zs := sz_intV (v := 10) (by decide)
    have zT : ∀ j : Nat, j ≤ 300 → Sz (mkR ng (nv 10 nu * 10 ^ j) 1) 402 := fun j hj => Sz.mkR ((lT'.mul (lt_pow_v (b := 10) (by omega) (by omega) j)).mono (by omega)) (lt_one.mono (by omega)) (by omega)
    have zD : ∀ j : Nat, j ≤ 300 → Sz (mkR ng (nv 10 nu) (10 ^ j)) 402 := fun j hj => Sz.mkR (lT'.mono (by omega)) ((lt_pow_v (b := 10) (by omega) (by omega) j).mono (by omega)) (Int.pow_pos (by omega))
    generalize nv 10 nu = T at *
    clear hcn BN tv hRv HZ H6 hal hd lT lT' mt ltl cat1 cat2 szn szd
    by_cases hex : 0 ≤ ex
    · obtain ⟨X, hX⟩ : ∃ X : Nat, ex = (X : Int) := ⟨ex.toNat, by omega⟩
      have HQ := HV0.out X hX
      have hX1 : ex ≤ (X : Int) := by omega
      have hX2 : (X : Int) ≤ ex := by omega
      clear HV0 HV1 hX
      go_wp2
      go_loopw [9, 15] (fun ve vk wr => ∃ (j : Nat) (s : Bool) (a b : Option Addr) (n c m d : Nat), ve = .int .i64 0 ∧ vk = .int .i64 (j : Int) ∧ j ≤ X ∧ Lp wr gn gr gv gs #[.int .i64 1, .bool ng, .string (str nu), .int .i64 ex, .string (str de)] sv av nv' cv bv mv dv' ss aS nS cS bS mS dS Q (((10 : Int)) : Rat) ∧ St wr gr 36 (.bool s) (.slice a n c) (.slice b m d) ∧ Rt wr s a n c b m d (mkR ng (T * 10 ^ j) 1) ∧ Below w.heap.size w wr) (fun _ vk _ => X - (RowKit.intOf vk).toNat)
      case atStart => exact ⟨0, s0, a0, b0, n0, c0, m0, d0, rfl, rfl, by omega, LP, tr, by rw [Int.pow_zero, Int.mul_one]; exact q0, BZ⟩
      case round =>
        obtain ⟨j, s, a, b, n, c, m, d, rfl, rfl, hj, hL, hr, hq, hB⟩ := hrel
        clear LP tr q0 BZ
        have c3 := hL.bn.cell 3 (v := .int .i64 ex) rfl
        obtain ⟨x0, x1', x2⟩ := hr.cells
        obtain ⟨y0, y1, y2⟩ := hL.ts.cells
        by_cases hlt : j < X
        · have dlt : decide ((j : Int) < ex) = true := by simp; omega
          obtain ⟨bs, hbs, rS⟩ := hL.rs
          have hM := rMul_ok hq (RtO_rtV rS) (zT j (by omega)) zs (by omega)
          rw [mul_step, Int.mul_assoc, ← Int.pow_succ] at hM
          clear hq rS
          go_wp2_with fail
          refine hM.mono ?_
          rintro r wm ⟨s', v1, v2, rfl, hR, _, hb⟩
          obtain ⟨a', n', c', b', m', d', rfl, rfl, _⟩ := hR.opens
          have grl := hr.lt
          have hr' := hr.later hb
          have hL' := (hL.later hb).set (.bool s') (.slice a' n' c') (.slice b' m' d') e1 e2 e3
          have hB' := below_in (hB.trans (hb.mono hB.size)) (in3 wm gr (.bool s') (.slice a' n' c') (.slice b' m' d')) kw (Nat.le_refl _)
          have hR' := RtO_rtV (hR.inn (in3 wm gr (.bool s') (.slice a' n' c') (.slice b' m' d')) grl)
          have hs' := hr'.set (.bool s') (.slice a' n' c') (.slice b' m' d')
          obtain ⟨k0, k1, k2⟩ := hr'.cells
          obtain ⟨o0, o1, o2⟩ := hr'.frozen
          clear hM x0 x1' x2 y0 y1 y2 c3 hL hr hB hb hR dlt
          go_wp2
          go_roundw
          case rel => exact ⟨j + 1, s', a', b', n', c', m', d', rfl, by go_num, by omega, hL', hs', hR', hB'⟩
          case measure => simp [RowKit.intOf]; omega
        · have hjX : j = X := by omega
          subst hjX
          have dlt : decide ((j : Int) < ex) = false := by simp; omega
          rw [← HQ] at hq
          have zQ := zT j (by omega)
          rw [← HQ] at zQ
          go_wp2
          go_loopw [9, 16] (fun ve vk wx => ve = .int .i64 0 ∧ vk = .int .i64 0 ∧ wx = wr) (fun _ _ _ => 0)
          case atStart => exact ⟨rfl, rfl, rfl⟩
          case round =>
            obtain ⟨rfl, rfl, rfl⟩ := hrel
            have d2 : decide ((0 : Int) > ex) = false := by simp; omega
            have d2' : decide (ex < (0 : Int)) = false := by simp; omega
            obtain ⟨z0, z1', z2'⟩ := hL.tv.cells
            obtain ⟨b9, _, rV⟩ := hL.rv
            have hO := one9_any (RtO_rtV rV) hq zQ (by omega)
            clear rV hq
            go_wp2_with fail
            refine hO.mono ?_
            rintro r wz ⟨rfl, hb⟩
            have hB9 := hB.trans (hb.mono hB.size)
            clear hO hb
            go_wp2
            go_ret
            exact ⟨rfl, hB9⟩
    · obtain ⟨X, hX⟩ : ∃ X : Nat, ex = -(X : Int) := ⟨(-ex).toNat, by omega⟩
      have HQ := HV1.out X (by omega) hX
      have hX1 : ex ≤ -(X : Int) := by omega
      have hX2 : -(X : Int) ≤ ex := by omega
      clear HV0 HV1 hX
      go_wp2
      go_loopw [9, 15] (fun ve vk wx => ve = .int .i64 0 ∧ vk = .int .i64 0 ∧ wx = y9) (fun _ _ _ => 0)
      case atStart => exact ⟨rfl, rfl, rfl⟩
      case round =>
        obtain ⟨rfl, rfl, rfl⟩ := hrel
        have d2 : decide ((0 : Int) < ex) = false := by simp; omega
        have c3 := LP.bn.cell 3 (v := .int .i64 ex) rfl
        go_wp2
        go_loopw [9, 16] (fun ve vk wr => ∃ (j : Nat) (s : Bool) (a b : Option Addr) (n c m d : Nat), ve = .int .i64 0 ∧ vk = .int .i64 (-(j : Int)) ∧ j ≤ X ∧ Lp wr gn gr gv gs #[.int .i64 1, .bool ng, .string (str nu), .int .i64 ex, .string (str de)] sv av nv' cv bv mv dv' ss aS nS cS bS mS dS Q (((10 : Int)) : Rat) ∧ St wr gr 36 (.bool s) (.slice a n c) (.slice b m d) ∧ Rt wr s a n c b m d (mkR ng T (10 ^ j)) ∧ Below w.heap.size w wr) (fun _ vk _ => X - (-(RowKit.intOf vk)).toNat)
        case atStart => exact ⟨0, s0, a0, b0, n0, c0, m0, d0, rfl, rfl, by omega, LP, tr, by rw [Int.pow_zero]; exact q0, BZ⟩
        case round =>
          obtain ⟨j, s, a, b, n, c, m, d, rfl, rfl, hj, hL, hr, hq, hB⟩ := hrel
          clear LP tr q0 BZ c3 d2
          have c3 := hL.bn.cell 3 (v := .int .i64 ex) rfl
          obtain ⟨x0, x1', x2⟩ := hr.cells
          obtain ⟨y0, y1, y2⟩ := hL.ts.cells
          by_cases hlt : j < X
          · have dlt : decide (-(j : Int) > ex) = true := by simp; omega
            have dlt' : decide (ex < -(j : Int)) = true := by simp; omega
            obtain ⟨bs, hbs, rS⟩ := hL.rs
            have hM := rDiv_ok hq (RtO_rtV rS) (zD j (by omega)) zs (by omega) (rat_ne0 (by omega))
            rw [div_step ng T (Int.pow_pos (by omega)) (by omega), ← Int.pow_succ] at hM
            clear hq rS
            go_wp2_with fail
            refine hM.mono ?_
            rintro r wm ⟨s', v1, v2, rfl, hR, _, hb⟩
            obtain ⟨a', n', c', b', m', d', rfl, rfl, _⟩ := hR.opens
            have grl := hr.lt
            have hr' := hr.later hb
            have hL' := (hL.later hb).set (.bool s') (.slice a' n' c') (.slice b' m' d') e1 e2 e3
            have hB' := below_in (hB.trans (hb.mono hB.size)) (in3 wm gr (.bool s') (.slice a' n' c') (.slice b' m' d')) kw (Nat.le_refl _)
            have hR' := RtO_rtV (hR.inn (in3 wm gr (.bool s') (.slice a' n' c') (.slice b' m' d')) grl)
            have hs' := hr'.set (.bool s') (.slice a' n' c') (.slice b' m' d')
            obtain ⟨k0, k1, k2⟩ := hr'.cells
            obtain ⟨o0, o1, o2⟩ := hr'.frozen
            clear hM x0 x1' x2 y0 y1 y2 c3 hL hr hB hb hR dlt dlt'
            have hsub : IntKind.i64.wrap (-(j : Int) - 1) = -((j + 1 : Nat) : Int) := by rw [wrapI (by omega) (by omega)]; omega
            go_wp2
            go_roundw
            case rel => exact ⟨j + 1, s', a', b', n', c', m', d', rfl, by first | rfl | go_num | (congr 1; omega), by omega, hL', hs', hR', hB'⟩
            case measure => simp [RowKit.intOf]; omega
          · have hjX : j = X := by omega
            subst hjX
            have dlt : decide (-(j : Int) > ex) = false := by simp; omega
            have dlt' : decide (ex < -(j : Int)) = false := by simp; omega
            rw [← HQ] at hq
            have zQ := zD j (by omega)
            rw [← HQ] at zQ
            obtain ⟨z0, z1', z2'⟩ := hL.tv.cells
            obtain ⟨b9, _, rV⟩ := hL.rv
            have hO := one9_any (RtO_rtV rV) hq zQ (by omega)
            clear rV hq
            go_wp2_with fail
            refine hO.mono ?_
            rintro r wz ⟨rfl, hb⟩
            have hB9 := hB.trans (hb.mono hB.size)
            clear hO hb
            go_wp2
            go_ret
            exact ⟨rfl, hB9⟩
  · have hd := okB_kept16 q1
    clear q1 q2 q3
    have R : refE 2 (str nu).data.toList ex (str de).data.toList = 0 := by rw [str_list, str_list]; unfold refE; rw [hrt, if_pos rfl, if_neg (fun q => absurd q.1 (by decide))]
    have hV := fun w => value9_any 2 ng (str nu) ex (str de) R (by omega) (by omega) (by omega) (by omega) w
    rw [str_list, str_list] at hV
    have HV0 : Hid (∀ X : Nat, ex = (X : Int) → mkR ng (vA 2 nu ex) (vB 2 ex de) = mkR ng (nv 16 nu * 2 ^ X) 1) := fun X hX => by
      have u1 : vA 2 nu ex = if 0 ≤ ex then nv 16 nu * 2 ^ ex.toNat else nv 16 nu := by unfold vA; rw [if_neg (by decide), if_pos rfl]
      have u2 : vB 2 ex de = if 0 ≤ ex then 1 else 2 ^ (-ex).toNat := by unfold vB; rw [if_neg (by decide), if_pos rfl]
      rw [u1, u2, if_pos (by omega), if_pos (by omega), hX, Int.toNat_natCast]
    have HV1 : Hid (∀ X : Nat, 0 < X → ex = -(X : Int) → mkR ng (vA 2 nu ex) (vB 2 ex de) = mkR ng (nv 16 nu) (2 ^ X)) := fun X hp hX => by
      have u1 : vA 2 nu ex = if 0 ≤ ex then nv 16 nu * 2 ^ ex.toNat else nv 16 nu := by unfold vA; rw [if_neg (by decide), if_pos rfl]
      have u2 : vB 2 ex de = if 0 ≤ ex then 1 else 2 ^ (-ex).toNat := by unfold vB; rw [if_neg (by decide), if_pos rfl]
      rw [u1, u2, if_neg (by omega), if_neg (by omega), hX, Int.neg_neg, Int.toNat_natCast]
    generalize mkR ng (vA 2 nu ex) (vB 2 ex de) = Q at *
    clear R hrt
    have hP0 := fun w => parse0_any nu (b := 16) (by omega) (by omega) hd w
    have lT := nv_LtV (b := 16) (by omega) (by omega) hd
    have lT' := lT.mono (show nu.length ≤ 100 by omega)
    go_wp2_with fail
    refine (hal _).mono ?_
    rintro r w2 ⟨rfl, H⟩
    obtain ⟨p0, p1, p2, p3, p4⟩ := hcn w2 H
    go_wp2_with fail
    refine (hP0 _).mono ?_
    rintro r w3 ⟨at_, nt, ct, lt', rfl, rt, mt, ltl, hb⟩
    replace H := H.trans (hb.mono H.size)
    obtain ⟨p0, p1, p2, p3, p4⟩ := hcn w3 H
    clear hP0 hb
    have hb3 := alloc_below (w := w3) (.cells #[.int .u64 1] 40)
    have r3 := rowC_one w3 1 40
    have hN1 := rNew_ok (neg := ng) (rt.later hb3) r3 mt (Nm.one (by omega)) (by omega) (lT'.mono (by omega)) (lt_one.mono (by omega)) (by have := rt.1.1; omega) (by omega)
    go_wp2_with fail
    refine hN1.mono ?_
    rintro r w4 ⟨s0, v1, v2, rfl, hR0, hb⟩
    obtain ⟨a0, n0, c0, b0, m0, d0, rfl, rfl, q0⟩ := hR0.opens
    have H4 := H.trans ((hb3.trans (hb.mono hb3.size)).mono H.size)
    replace rt := rt.later (hb3.trans (hb.mono hb3.size))
    clear hN1 hR0 hb hb3 r3 H p0 p1 p2 p3 p4
    go_upto_region 12 with fail
    have tr := st_new w4 (.bool s0) (.slice a0 n0 c0) (.slice b0 m0 d0) 36
    have ha4 := alloc_below (w := w4) (.cells #[.bool s0, .slice a0 n0 c0, .slice b0 m0 d0] 36)
    replace q0 := q0.later ha4
    replace rt := rt.later ha4
    have kgr : Y.heap.size ≤ w4.heap.size := H4.size
    replace H4 := H4.trans (ha4.mono H4.size)
    generalize w4.alloc (.cells #[.bool s0, .slice a0 n0 c0, .slice b0 m0 d0] 36) = y5 at *
    obtain ⟨gr, hgr⟩ : ∃ gr, gr = w4.heap.size := ⟨_, rfl⟩
    rw [← hgr] at tr kgr ⊢
    clear hgr ha4
    have slr := tr.lt
    obtain ⟨p0, p1, p2, p3, p4⟩ := hcn y5 H4
    unfold numC at hV
    go_wp2_with fail
    refine (hV _).mono ?_
    rintro r w6 ⟨sv, v1, v2, rfl, hRv, hb⟩
    obtain ⟨av, nv', cv, bv, mv, dv', rfl, rfl, _⟩ := hRv.opens
    have H6 := H4.trans (hb.mono H4.size)
    have kv := hb.size
    replace tr := tr.later hb
    replace q0 := q0.later hb
    clear hV hb H4 p0 p1 p2 p3 p4 rt
    go_upto_region 13 with fail
    have tv := st_new w6 (.bool sv) (.slice av nv' cv) (.slice bv mv dv') 36
    have ha6 := alloc_below (w := w6) (.cells #[.bool sv, .slice av nv' cv, .slice bv mv dv'] 36)
    replace q0 := q0.later ha6
    replace tr := tr.later ha6
    replace hRv := hRv.later ha6
    replace H6 := H6.trans (ha6.mono H6.size)
    generalize w6.alloc (.cells #[.bool sv, .slice av nv' cv, .slice bv mv dv'] 36) = y7 at *
    obtain ⟨gv, hgv⟩ : ∃ gv, gv = w6.heap.size := ⟨_, rfl⟩
    have kgv : y5.heap.size ≤ gv := by rw [hgv]; exact kv
    rw [← hgv] at tv ⊢
    clear hgv ha6
    obtain ⟨p0, p1, p2, p3, p4⟩ := hcn y7 H6
    have hI := fun w => rInt_any (v := 10) (by omega) (by omega) w
    go_wp2_with fail
    refine (hI _).mono ?_
    rintro r w8 ⟨ss, v1, v2, rfl, hRs, hb⟩
    obtain ⟨aS, nS, cS, bS, mS, dS, rfl, rfl, _⟩ := hRs.opens
    have HZ := hb
    have ks := hb.size
    clear hI hb p0 p1 p2 p3 p4
    go_upto_region 24 with fail
    have ts := st_new w8 (.bool ss) (.slice aS nS cS) (.slice bS mS dS) 36
    have ha8 := alloc_below (w := w8) (.cells #[.bool ss, .slice aS nS cS, .slice bS mS dS] 36)
    replace hRs := hRs.later ha8
    replace HZ := HZ.trans (ha8.mono HZ.size)
    generalize w8.alloc (.cells #[.bool ss, .slice aS nS cS, .slice bS mS dS] 36) = y9 at *
    obtain ⟨gs, hgs⟩ : ∃ gs, gs = w8.heap.size := ⟨_, rfl⟩
    rw [← hgs] at ts ks ⊢
    clear hgs ha8
    obtain ⟨p0, p1, p2, p3, p4⟩ := hcn y9 (H6.trans (HZ.mono H6.size))
    have svl := tv.lt
    have hI2 := fun w => rInt_any (v := 2) (by omega) (by omega) w
    clear hRs
    go_wp2_with fail
    refine (hI2 _).mono ?_
    rintro r w10 ⟨st, v1, v2, rfl, hRs, hb⟩
    obtain ⟨aT, nT, cT, bT, mT, dT, rfl, rfl, _⟩ := hRs.opens
    have tsl := ts.lt
    have ts2 := ts.later hb
    obtain ⟨x0, x1', x2⟩ := ts2.cells
    obtain ⟨o0, o1, o2⟩ := ts2.frozen
    have H10 := HZ.trans (hb.mono HZ.size)
    have HZ2 := below_in H10 (in3 w10 gs (.bool st) (.slice aT nT cT) (.slice bT mT dT)) ks (Nat.le_refl _)
    have ts3 := ts2.set (.bool st) (.slice aT nT cT) (.slice bT mT dT)
    have hRs3 := hRs.inn (in3 w10 gs (.bool st) (.slice aT nT cT) (.slice bT mT dT)) tsl
    clear hI2 ts hRs hb p0 p1 p2 p3 p4
    go_upto_region 26 with fail
    clear x0 x1' x2 o0 o1 o2 ts2 H10
    generalize ((w10.setCell ⟨gs, 0, none⟩ (.bool st)).setCell ⟨gs, 1, none⟩ (.slice aT nT cT)).setCell ⟨gs, 2, none⟩ (.slice bT mT dT) = Z at *
    have LP : Lp Z gn gr gv gs #[.int .i64 2, .bool ng, .string (str nu), .int .i64 ex, .string (str de)] sv av nv' cv bv mv dv' st aT nT cT bT mT dT Q (((2 : Int)) : Rat) := ⟨BN.later (H6.trans (HZ2.mono H6.size)), tv.later HZ2, ts3, ⟨_, slr, hRv.later HZ2⟩, ⟨_, by have := HZ.size; omega, hRs3⟩⟩
    replace tr := tr.later HZ2
    replace q0 := q0.later HZ2
    have BZ := BW.trans ((H6.trans (HZ2.mono H6.size)).mono BW.size)
    clear ts3 hRs3 HZ2
    have e1 : gn ≠ gr := by omega
    have e2 : gv ≠ gr := by omega
    have e3 : gs ≠ gr := by omega
    have kw : w.heap.size ≤ gr := by omega
    have zs := sz_intV (v := 2) (by decide)
    have zT : ∀ j : Nat, j ≤ 300 → Sz (mkR ng (nv 16 nu * 2 ^ j) 1) 402 := fun j hj => Sz.mkR ((lT'.mul (lt_pow_v (b := 2) (by omega) (by omega) j)).mono (by omega)) (lt_one.mono (by omega)) (by omega)
    have zD : ∀ j : Nat, j ≤ 300 → Sz (mkR ng (nv 16 nu) (2 ^ j)) 402 := fun j hj => Sz.mkR (lT'.mono (by omega)) ((lt_pow_v (b := 2) (by omega) (by omega) j).mono (by omega)) (Int.pow_pos (by omega))
    generalize nv 16 nu = T at *
    clear hcn BN tv hRv HZ H6 hal hd lT lT' mt ltl cat1 cat2 szn szd
    by_cases hex : 0 ≤ ex
    · obtain ⟨X, hX⟩ : ∃ X : Nat, ex = (X : Int) := ⟨ex.toNat, by omega⟩
      have HQ := HV0.out X hX
      have hX1 : ex ≤ (X : Int) := by omega
      have hX2 : (X : Int) ≤ ex := by omega
      clear HV0 HV1 hX
      go_wp2
      go_loopw [9, 15] (fun ve vk wr => ∃ (j : Nat) (s : Bool) (a b : Option Addr) (n c m d : Nat), ve = .int .i64 0 ∧ vk = .int .i64 (j : Int) ∧ j ≤ X ∧ Lp wr gn gr gv gs #[.int .i64 2, .bool ng, .string (str nu), .int .i64 ex, .string (str de)] sv av nv' cv bv mv dv' st aT nT cT bT mT dT Q (((2 : Int)) : Rat) ∧ St wr gr 36 (.bool s) (.slice a n c) (.slice b m d) ∧ Rt wr s a n c b m d (mkR ng (T * 2 ^ j) 1) ∧ Below w.heap.size w wr) (fun _ vk _ => X - (RowKit.intOf vk).toNat)
      case atStart => exact ⟨0, s0, a0, b0, n0, c0, m0, d0, rfl, rfl, by omega, LP, tr, by rw [Int.pow_zero, Int.mul_one]; exact q0, BZ⟩
      case round =>
        obtain ⟨j, s, a, b, n, c, m, d, rfl, rfl, hj, hL, hr, hq, hB⟩ := hrel
        clear LP tr q0 BZ
        have c3 := hL.bn.cell 3 (v := .int .i64 ex) rfl
        obtain ⟨x0, x1', x2⟩ := hr.cells
        obtain ⟨y0, y1, y2⟩ := hL.ts.cells
        by_cases hlt : j < X
        · have dlt : decide ((j : Int) < ex) = true := by simp; omega
          obtain ⟨bs, hbs, rS⟩ := hL.rs
          have hM := rMul_ok hq (RtO_rtV rS) (zT j (by omega)) zs (by omega)
          rw [mul_step, Int.mul_assoc, ← Int.pow_succ] at hM
          clear hq rS
          go_wp2_with fail
          refine hM.mono ?_
          rintro r wm ⟨s', v1, v2, rfl, hR, _, hb⟩
          obtain ⟨a', n', c', b', m', d', rfl, rfl, _⟩ := hR.opens
          have grl := hr.lt
          have hr' := hr.later hb
          have hL' := (hL.later hb).set (.bool s') (.slice a' n' c') (.slice b' m' d') e1 e2 e3
          have hB' := below_in (hB.trans (hb.mono hB.size)) (in3 wm gr (.bool s') (.slice a' n' c') (.slice b' m' d')) kw (Nat.le_refl _)
          have hR' := RtO_rtV (hR.inn (in3 wm gr (.bool s') (.slice a' n' c') (.slice b' m' d')) grl)
          have hs' := hr'.set (.bool s') (.slice a' n' c') (.slice b' m' d')
          obtain ⟨k0, k1, k2⟩ := hr'.cells
          obtain ⟨o0, o1, o2⟩ := hr'.frozen
          clear hM x0 x1' x2 y0 y1 y2 c3 hL hr hB hb hR dlt
          go_wp2
          go_roundw
          case rel => exact ⟨j + 1, s', a', b', n', c', m', d', rfl, by go_num, by omega, hL', hs', hR', hB'⟩
          case measure => simp [RowKit.intOf]; omega
        · have hjX : j = X := by omega
          subst hjX
          have dlt : decide ((j : Int) < ex) = false := by simp; omega
          rw [← HQ] at hq
          have zQ := zT j (by omega)
          rw [← HQ] at zQ
          go_wp2
          go_loopw [9, 16] (fun ve vk wx => ve = .int .i64 0 ∧ vk = .int .i64 0 ∧ wx = wr) (fun _ _ _ => 0)
          case atStart => exact ⟨rfl, rfl, rfl⟩
          case round =>
            obtain ⟨rfl, rfl, rfl⟩ := hrel
            have d2 : decide ((0 : Int) > ex) = false := by simp; omega
            have d2' : decide (ex < (0 : Int)) = false := by simp; omega
            obtain ⟨z0, z1', z2'⟩ := hL.tv.cells
            obtain ⟨b9, _, rV⟩ := hL.rv
            have hO := one9_any (RtO_rtV rV) hq zQ (by omega)
            clear rV hq
            go_wp2_with fail
            refine hO.mono ?_
            rintro r wz ⟨rfl, hb⟩
            have hB9 := hB.trans (hb.mono hB.size)
            clear hO hb
            go_wp2
            go_ret
            exact ⟨rfl, hB9⟩
    · obtain ⟨X, hX⟩ : ∃ X : Nat, ex = -(X : Int) := ⟨(-ex).toNat, by omega⟩
      have HQ := HV1.out X (by omega) hX
      have hX1 : ex ≤ -(X : Int) := by omega
      have hX2 : -(X : Int) ≤ ex := by omega
      clear HV0 HV1 hX
      go_wp2
      go_loopw [9, 15] (fun ve vk wx => ve = .int .i64 0 ∧ vk = .int .i64 0 ∧ wx = Z) (fun _ _ _ => 0)
      case atStart => exact ⟨rfl, rfl, rfl⟩
      case round =>
        obtain ⟨rfl, rfl, rfl⟩ := hrel
        have d2 : decide ((0 : Int) < ex) = false := by simp; omega
        have c3 := LP.bn.cell 3 (v := .int .i64 ex) rfl
        go_wp2
        go_loopw [9, 16] (fun ve vk wr => ∃ (j : Nat) (s : Bool) (a b : Option Addr) (n c m d : Nat), ve = .int .i64 0 ∧ vk = .int .i64 (-(j : Int)) ∧ j ≤ X ∧ Lp wr gn gr gv gs #[.int .i64 2, .bool ng, .string (str nu), .int .i64 ex, .string (str de)] sv av nv' cv bv mv dv' st aT nT cT bT mT dT Q (((2 : Int)) : Rat) ∧ St wr gr 36 (.bool s) (.slice a n c) (.slice b m d) ∧ Rt wr s a n c b m d (mkR ng T (2 ^ j)) ∧ Below w.heap.size w wr) (fun _ vk _ => X - (-(RowKit.intOf vk)).toNat)
        case atStart => exact ⟨0, s0, a0, b0, n0, c0, m0, d0, rfl, rfl, by omega, LP, tr, by rw [Int.pow_zero]; exact q0, BZ⟩
        case round =>
          obtain ⟨j, s, a, b, n, c, m, d, rfl, rfl, hj, hL, hr, hq, hB⟩ := hrel
          clear LP tr q0 BZ c3 d2
          have c3 := hL.bn.cell 3 (v := .int .i64 ex) rfl
          obtain ⟨x0, x1', x2⟩ := hr.cells
          obtain ⟨y0, y1, y2⟩ := hL.ts.cells
          by_cases hlt : j < X
          · have dlt : decide (-(j : Int) > ex) = true := by simp; omega
            have dlt' : decide (ex < -(j : Int)) = true := by simp; omega
            obtain ⟨bs, hbs, rS⟩ := hL.rs
            have hM := rDiv_ok hq (RtO_rtV rS) (zD j (by omega)) zs (by omega) (rat_ne0 (by omega))
            rw [div_step ng T (Int.pow_pos (by omega)) (by omega), ← Int.pow_succ] at hM
            clear hq rS
            go_wp2_with fail
            refine hM.mono ?_
            rintro r wm ⟨s', v1, v2, rfl, hR, _, hb⟩
            obtain ⟨a', n', c', b', m', d', rfl, rfl, _⟩ := hR.opens
            have grl := hr.lt
            have hr' := hr.later hb
            have hL' := (hL.later hb).set (.bool s') (.slice a' n' c') (.slice b' m' d') e1 e2 e3
            have hB' := below_in (hB.trans (hb.mono hB.size)) (in3 wm gr (.bool s') (.slice a' n' c') (.slice b' m' d')) kw (Nat.le_refl _)
            have hR' := RtO_rtV (hR.inn (in3 wm gr (.bool s') (.slice a' n' c') (.slice b' m' d')) grl)
            have hs' := hr'.set (.bool s') (.slice a' n' c') (.slice b' m' d')
            obtain ⟨k0, k1, k2⟩ := hr'.cells
            obtain ⟨o0, o1, o2⟩ := hr'.frozen
            clear hM x0 x1' x2 y0 y1 y2 c3 hL hr hB hb hR dlt dlt'
            have hsub : IntKind.i64.wrap (-(j : Int) - 1) = -((j + 1 : Nat) : Int) := by rw [wrapI (by omega) (by omega)]; omega
            go_wp2
            go_roundw
            case rel => exact ⟨j + 1, s', a', b', n', c', m', d', rfl, by first | rfl | go_num | (congr 1; omega), by omega, hL', hs', hR', hB'⟩
            case measure => simp [RowKit.intOf]; omega
          · have hjX : j = X := by omega
            subst hjX
            have dlt : decide (-(j : Int) > ex) = false := by simp; omega
            have dlt' : decide (ex < -(j : Int)) = false := by simp; omega
            rw [← HQ] at hq
            have zQ := zD j (by omega)
            rw [← HQ] at zQ
            obtain ⟨z0, z1', z2'⟩ := hL.tv.cells
            obtain ⟨b9, _, rV⟩ := hL.rv
            have hO := one9_any (RtO_rtV rV) hq zQ (by omega)
            clear rV hq
            go_wp2_with fail
            refine hO.mono ?_
            rintro r wz ⟨rfl, hb⟩
            have hB9 := hB.trans (hb.mono hB.size)
            clear hO hb
            go_wp2
            go_ret
            exact ⟨rfl, hB9⟩
  · have hd := okB_kept10 q1
    have hdd := okB_kept10 q2
    have lD := nv_LtV (b := 10) (by omega) (by omega) hdd
    have lD' := lD.mono (show de.length ≤ 100 by omega)
    have hP1 := fun w => parse0_any de (b := 10) (by omega) (by omega) hdd w
    by_cases hz : de = []
    · have hem : (str de).toList.isEmpty = true := by rw [Lib.toList_data, str_list, hz]; rfl
      have hV := fun w => value9_void ng (str nu) ex (str de) (by rw [str_list, str_list]; exact hrt) (by omega) (by rw [str_list]; exact hz) w
      have hD0 : nv 10 de = 0 := by rw [hz]; rfl
      rw [hD0] at hP1
      clear hz hrt lD lD' hdd q1 q2 q3 hD0
      have hP0 := fun w => parse0_any nu (b := 10) (by omega) (by omega) hd w
      have lT := nv_LtV (b := 10) (by omega) (by omega) hd
      have lT' := lT.mono (show nu.length ≤ 100 by omega)
      go_wp2_with fail
      refine (hal _).mono ?_
      rintro r w2 ⟨rfl, H⟩
      obtain ⟨p0, p1, p2, p3, p4⟩ := hcn w2 H
      go_wp2_with fail
      refine (hP0 _).mono ?_
      rintro r w3 ⟨at_, nt, ct, lt', rfl, rt, mt, ltl, hb⟩
      replace H := H.trans (hb.mono H.size)
      obtain ⟨p0, p1, p2, p3, p4⟩ := hcn w3 H
      clear hP0 hb
      have hb3 := alloc_below (w := w3) (.cells #[.int .u64 1] 40)
      have r3 := rowC_one w3 1 40
      have hN1 := rNew_ok (neg := ng) (rt.later hb3) r3 mt (Nm.one (by omega)) (by omega) (lT'.mono (by omega)) (lt_one.mono (by omega)) (by have := rt.1.1; omega) (by omega)
      go_wp2_with fail
      refine hN1.mono ?_
      rintro r w4 ⟨s0, v1, v2, rfl, hR0, hb⟩
      obtain ⟨a0, n0, c0, b0, m0, d0, rfl, rfl, q0⟩ := hR0.opens
      have H4 := H.trans ((hb3.trans (hb.mono hb3.size)).mono H.size)
      replace rt := rt.later (hb3.trans (hb.mono hb3.size))
      clear hN1 hR0 hb hb3 r3 H p0 p1 p2 p3 p4
      go_upto_region 12 with fail
      have tr := st_new w4 (.bool s0) (.slice a0 n0 c0) (.slice b0 m0 d0) 36
      have ha4 := alloc_below (w := w4) (.cells #[.bool s0, .slice a0 n0 c0, .slice b0 m0 d0] 36)
      replace q0 := q0.later ha4
      replace rt := rt.later ha4
      have kgr : Y.heap.size ≤ w4.heap.size := H4.size
      replace H4 := H4.trans (ha4.mono H4.size)
      generalize w4.alloc (.cells #[.bool s0, .slice a0 n0 c0, .slice b0 m0 d0] 36) = y5 at *
      obtain ⟨gr, hgr⟩ : ∃ gr, gr = w4.heap.size := ⟨_, rfl⟩
      rw [← hgr] at tr kgr ⊢
      clear hgr ha4
      have slr := tr.lt
      obtain ⟨p0, p1, p2, p3, p4⟩ := hcn y5 H4
      unfold numC at hV
      go_wp2_with fail
      refine (hV _).mono ?_
      rintro r w6 ⟨rfl, hb⟩
      have H6 := H4.trans (hb.mono H4.size)
      have kv := hb.size
      replace tr := tr.later hb
      replace rt := rt.later hb
      clear hV hb H4 p0 p1 p2 p3 p4 q0
      go_upto_region 13 with fail
      have tv := st_new w6 (.bool false) (.slice none 0 0) (.slice none 0 0) 36
      have ha6 := alloc_below (w := w6) (.cells #[.bool false, .slice none 0 0, .slice none 0 0] 36)
      replace rt := rt.later ha6
      replace tr := tr.later ha6
      replace H6 := H6.trans (ha6.mono H6.size)
      generalize w6.alloc (.cells #[.bool false, .slice none 0 0, .slice none 0 0] 36) = y7 at *
      obtain ⟨gv, hgv⟩ : ∃ gv, gv = w6.heap.size := ⟨_, rfl⟩
      have kgv : y5.heap.size ≤ gv := by rw [hgv]; exact kv
      rw [← hgv] at tv ⊢
      clear hgv ha6
      have e1 : gn ≠ gr := by omega
      have e2 : gv ≠ gr := by omega
      have kw : w.heap.size ≤ gr := by omega
      obtain ⟨p0, p1, p2, p3, p4⟩ := hcn y7 H6
      go_wp2_with fail
      refine (hP1 _).mono ?_
      rintro r w8 ⟨al, nl, cl, ll, rfl, rl, ml, lll, hb⟩
      have H8 := hb
      replace rt := rt.later hb
      obtain ⟨p0, p1, p2, p3, p4⟩ := hcn w8 (H6.trans (hb.mono H6.size))
      clear hP1 hb
      have hN2 := rNew_void (s := ng) (a := at_) (n := nt) (c := ct) rl ml.ws (by have := rl.1.1; omega) ml.num
      go_wp2_with fail
      refine hN2.mono ?_
      rintro r w9 ⟨rfl, hb⟩
      have HB := H8.trans (hb.mono H8.size)
      clear hN2 hb H8 p0 p1 p2 p3 p4
      have tr2 := tr.later HB
      have tv2 := tv.later HB
      obtain ⟨k0, k1, k2⟩ := tr2.cells
      obtain ⟨o0, o1, o2⟩ := tr2.frozen
      have I := in3 w9 gr (.bool false) (.slice none 0 0) (.slice none 0 0)
      have tr3 := tr2.set (.bool false) (.slice none 0 0) (.slice none 0 0)
      have tv3 := tv2.inn I e2
      have BN3 := (BN.later (H6.trans (HB.mono H6.size))).tn ((((Tn.refl gr w9).set 0 (.bool false)).set 1 (.slice none 0 0)).set 2 (.slice none 0 0)) e1
      have BZ := below_in (BW.trans ((H6.trans (HB.mono H6.size)).mono BW.size)) I kw (Nat.le_refl _)
      go_upto_region 20 with fail
      clear k0 k1 k2 o0 o1 o2 I tr2 tv2
      generalize ((w9.setCell ⟨gr, 0, none⟩ (.bool false)).setCell ⟨gr, 1, none⟩ (.slice none 0 0)).setCell ⟨gr, 2, none⟩ (.slice none 0 0) = ZZ at *
      have c4 := BN3.cell 4 (v := .string (str de)) rfl
      obtain ⟨z0, z1', z2'⟩ := tv3.cells
      go_wp2
      go_ret
      exact ⟨rfl, BZ⟩
    · have hem : (str de).toList.isEmpty = false := by rw [Lib.toList_data, str_list]; cases hl : de with | nil => exact absurd hl hz | cons c r => rfl
      have kp := val_pos_den q2 hz
      have R : refE 3 (str nu).data.toList ex (str de).data.toList = 0 := by rw [str_list, str_list]; unfold refE; rw [hrt, if_pos rfl, if_neg (fun q => hz q.2)]
      have hV := fun w => value9_any 3 ng (str nu) ex (str de) R (by omega) (by omega) (by omega) (by omega) w
      rw [str_list, str_list] at hV
      have u1 : vA 3 nu ex = nv 10 nu := by unfold vA; rw [if_neg (by decide), if_neg (by decide)]
      have u2 : vB 3 ex de = nv 10 de := by unfold vB; rw [if_neg (by decide), if_neg (by decide)]
      rw [u1, u2] at hV
      clear hz hrt lD hdd q1 q2 q3 R u1 u2
      have hP0 := fun w => parse0_any nu (b := 10) (by omega) (by omega) hd w
      have lT := nv_LtV (b := 10) (by omega) (by omega) hd
      have lT' := lT.mono (show nu.length ≤ 100 by omega)
      go_wp2_with fail
      refine (hal _).mono ?_
      rintro r w2 ⟨rfl, H⟩
      obtain ⟨p0, p1, p2, p3, p4⟩ := hcn w2 H
      go_wp2_with fail
      refine (hP0 _).mono ?_
      rintro r w3 ⟨at_, nt, ct, lt', rfl, rt, mt, ltl, hb⟩
      replace H := H.trans (hb.mono H.size)
      obtain ⟨p0, p1, p2, p3, p4⟩ := hcn w3 H
      clear hP0 hb
      have hb3 := alloc_below (w := w3) (.cells #[.int .u64 1] 40)
      have r3 := rowC_one w3 1 40
      have hN1 := rNew_ok (neg := ng) (rt.later hb3) r3 mt (Nm.one (by omega)) (by omega) (lT'.mono (by omega)) (lt_one.mono (by omega)) (by have := rt.1.1; omega) (by omega)
      go_wp2_with fail
      refine hN1.mono ?_
      rintro r w4 ⟨s0, v1, v2, rfl, hR0, hb⟩
      obtain ⟨a0, n0, c0, b0, m0, d0, rfl, rfl, q0⟩ := hR0.opens
      have H4 := H.trans ((hb3.trans (hb.mono hb3.size)).mono H.size)
      replace rt := rt.later (hb3.trans (hb.mono hb3.size))
      clear hN1 hR0 hb hb3 r3 H p0 p1 p2 p3 p4
      go_upto_region 12 with fail
      have tr := st_new w4 (.bool s0) (.slice a0 n0 c0) (.slice b0 m0 d0) 36
      have ha4 := alloc_below (w := w4) (.cells #[.bool s0, .slice a0 n0 c0, .slice b0 m0 d0] 36)
      replace q0 := q0.later ha4
      replace rt := rt.later ha4
      have kgr : Y.heap.size ≤ w4.heap.size := H4.size
      replace H4 := H4.trans (ha4.mono H4.size)
      generalize w4.alloc (.cells #[.bool s0, .slice a0 n0 c0, .slice b0 m0 d0] 36) = y5 at *
      obtain ⟨gr, hgr⟩ : ∃ gr, gr = w4.heap.size := ⟨_, rfl⟩
      rw [← hgr] at tr kgr ⊢
      clear hgr ha4
      have slr := tr.lt
      obtain ⟨p0, p1, p2, p3, p4⟩ := hcn y5 H4
      have zQ : Sz (mkR ng (nv 10 nu) (nv 10 de)) 402 := Sz.mkR (lT'.mono (by omega)) (lD'.mono (by omega)) kp
      unfold numC at hV
      go_wp2_with fail
      refine (hV _).mono ?_
      rintro r w6 ⟨sv, v1, v2, rfl, hRv, hb⟩
      obtain ⟨av, nv', cv, bv, mv, dv', rfl, rfl, _⟩ := hRv.opens
      have H6 := H4.trans (hb.mono H4.size)
      have kv := hb.size
      replace tr := tr.later hb
      replace rt := rt.later hb
      clear hV hb H4 p0 p1 p2 p3 p4 q0
      go_upto_region 13 with fail
      have tv := st_new w6 (.bool sv) (.slice av nv' cv) (.slice bv mv dv') 36
      have ha6 := alloc_below (w := w6) (.cells #[.bool sv, .slice av nv' cv, .slice bv mv dv'] 36)
      replace rt := rt.later ha6
      replace tr := tr.later ha6
      replace hRv := hRv.later ha6
      replace H6 := H6.trans (ha6.mono H6.size)
      generalize w6.alloc (.cells #[.bool sv, .slice av nv' cv, .slice bv mv dv'] 36) = y7 at *
      obtain ⟨gv, hgv⟩ : ∃ gv, gv = w6.heap.size := ⟨_, rfl⟩
      have kgv : y5.heap.size ≤ gv := by rw [hgv]; exact kv
      rw [← hgv] at tv ⊢
      clear hgv ha6
      have e1 : gn ≠ gr := by omega
      have e2 : gv ≠ gr := by omega
      have kw : w.heap.size ≤ gr := by omega
      obtain ⟨p0, p1, p2, p3, p4⟩ := hcn y7 H6
      go_wp2_with fail
      refine (hP1 _).mono ?_
      rintro r w8 ⟨al, nl, cl, ll, rfl, rl, ml, lll, hb⟩
      have H8 := hb
      replace rt := rt.later hb
      obtain ⟨p0, p1, p2, p3, p4⟩ := hcn w8 (H6.trans (hb.mono H6.size))
      clear hP1 hb
      have hN2 := rNew_ok (neg := ng) rt rl mt ml kp (lT'.mono (by omega)) (lD'.mono (by omega)) (by have := rt.1.1; omega) (by have := rl.1.1; omega)
      generalize mkR ng (nv 10 nu) (nv 10 de) = Q at *
      go_wp2_with fail
      refine hN2.mono ?_
      rintro r w9 ⟨s', v1, v2, rfl, hRn, hb⟩
      obtain ⟨a', n', c', b', m', d', rfl, rfl, _⟩ := hRn.opens
      have HB := H8.trans (hb.mono H8.size)
      have s8 := H8.size
      have sy := tv.lt
      clear hN2 hb H8 p0 p1 p2 p3 p4
      have tr2 := tr.later HB
      have tv2 := tv.later HB
      obtain ⟨k0, k1, k2⟩ := tr2.cells
      obtain ⟨o0, o1, o2⟩ := tr2.frozen
      have I := in3 w9 gr (.bool s') (.slice a' n' c') (.slice b' m' d')
      have tr3 := tr2.set (.bool s') (.slice a' n' c') (.slice b' m' d')
      have tv3 := tv2.inn I e2
      have BN3 := (BN.later (H6.trans (HB.mono H6.size))).tn ((((Tn.refl gr w9).set 0 (.bool s')).set 1 (.slice a' n' c')).set 2 (.slice b' m' d')) e1
      have BZ := below_in (BW.trans ((H6.trans (HB.mono H6.size)).mono BW.size)) I kw (Nat.le_refl _)
      have hRn3 := RtO_rtV (hRn.inn I (by omega))
      have hRv3 := RtO_rtV ((hRv.later HB).inn I slr)
      go_upto_region 20 with fail
      clear k0 k1 k2 o0 o1 o2 I tr2 tv2 hRn hRv
      generalize ((w9.setCell ⟨gr, 0, none⟩ (.bool s')).setCell ⟨gr, 1, none⟩ (.slice a' n' c')).setCell ⟨gr, 2, none⟩ (.slice b' m' d') = ZZ at *
      have c4 := BN3.cell 4 (v := .string (str de)) rfl
      obtain ⟨z0, z1', z2'⟩ := tv3.cells
      obtain ⟨x0, x1', x2⟩ := tr3.cells
      have hO := one9_any hRv3 hRn3 zQ (by omega)
      go_wp2_with fail
      refine hO.mono ?_
      rintro r wz ⟨rfl, hb⟩
      have hB9 := BZ.trans (hb.mono BZ.size)
      clear hO hb
      go_wp2
      go_ret
      exact ⟨rfl, hB9⟩
end Go.Proofs.YtiicphkpmdidaaaGreatDoor


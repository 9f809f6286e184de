import Derived.Lib.BytesEntry
import Derived.Lib.MakeNoZero
import Derived.Deep.QuietTactic
import Derived.BigQuiet
import Derived.Below
import Derived.ChangeOld
import Derived.Deep.DeepCutAuto
import Derived.Deep.RegionWith
import Derived.KernelRfl
import Derived.Laws.BitsAllLaws
import Derived.Laws.CopyRow
import Derived.Laws.IdiomCopy
import Derived.Laws.IdiomRangeMap
import Derived.OpenShut
import Derived.OwnWalk
import Derived.ProofKit
import Derived.ShutString
import Derived.WalkKit
import Derived.WalkLawsBesides
import Derived.WalkSpells
import Derived.Test.YtceecgklgkiffabGreatDoorXb1
import Derived.Test.YtceecgklgkiffabGreatDoorXb2
import Derived.Test.YtceecgklgkiffabGreatDoorXb3
/- Layer 13: rows of bytes in memory; bytes.Compare; cut, goesUp. -/
namespace Go.Proofs.YtceecgklgkiffabGreatDoor
open Go.ChangeShapes Go.WideShapes Go.ChangeAt Go.RowKit
open Na Ar Ep
set_option linter.unusedVariables false
namespace Ep
theorem nz_libBytes (l : List UInt8) : Lib.bytesOf (nz l) = l := by
  unfold Lib.bytesOf nz
  rw [List.map_map]
  conv => rhs; rw [← List.map_id l]
  refine List.map_congr_left fun x _ => ?_
  simp
theorem cmpL_lib : ∀ (a b : List UInt8), Lib.compareBytes a b = cmpL a b
  | [], [] => rfl
  | [], _ :: _ => rfl
  | _ :: _, [] => rfl
  | x :: a, y :: b => by
    unfold Lib.compareBytes cmpL
    rw [cmpL_lib a b]
    rfl
end Ep
/-- copy into memory that may be written -/
theorem Wr.copy {w : World} {base g n : Nat} {l : List UInt8} (h : Wr w base g n l) {o dLen dCap m c : Nat} {sa : Option Addr} {s : List UInt8} (hs : Rb w sa m c s) (hd : m ≤ dLen) (ho : o + dLen ≤ n) (ty : TypeId) :
    ∃ w', (Builtin.copy_ #[45, 45] ty #[.slice (some ⟨g, o, none⟩) dLen dCap, .slice sa m c]).run Tryz.prog w = .ok (goInt m) w' ∧ Wr w' base g n (l.take o ++ s ++ l.drop (o + m)) ∧ Below base w w' := by
  have hsl := hs.len
  have hl := h.len
  by_cases h0 : m = 0
  · have e0 : s = [] := List.eq_nil_of_length_eq_zero (by omega)
    subst h0
    refine ⟨w, ?_, by rw [e0]; simpa using h, Below.refl _ _⟩
    exact run_copy_none (P := Tryz.prog) w 45 45 ty 5 _ sa dLen dCap 0 c Tryz.underlying45 size8 (Nat.zero_min _)
  · obtain ⟨sg, so, rfl, hsg, hsc⟩ := hs.cells (by omega)
    have hr := run_copy_cells (P := Tryz.prog) w 45 45 ty 5 g o dLen dCap ⟨sg, so, none⟩ m c ((nz s).map (Value.int .u8)) Tryz.underlying45 size8 (by rw [List.length_map, nz_len, hsl]; exact (Nat.min_eq_left hd).symm)
      (fun j u hj => by
        rw [List.getElem?_map] at hj
        obtain ⟨x, hx, rfl⟩ := Option.map_eq_some_iff.1 hj
        exact hs.add j x hx)
      (fun j hj => by rw [List.length_map, nz_len, hsl] at hj; rw [h.cell _ (by omega)]; rfl) (fun j hj => by rw [List.length_map, nz_len, hsl] at hj; exact h.free _ (by omega))
      (fun u hu => by obtain ⟨x, _, rfl⟩ := List.mem_map.1 hu; rfl)
    rw [List.length_map, nz_len, hsl] at hr
    refine ⟨_, hr, ?_, ?_⟩
    · have hin := World.cell?_setCells_in g ((nz s).map (Value.int .u8)) o w (fun j hj => by rw [List.length_map, nz_len, hsl] at hj; rw [h.cell _ (by omega)]; rfl)
      have hout := World.cell?_setCells_out g ((nz s).map (Value.int .u8)) o w
      refine ⟨h.lo, ?_, by simp; omega, fun i hi => ?_, fun i hi => by rw [World.frozen?_setCells]; exact h.free i hi⟩
      · have : ∀ (vs : List Value) (o : Nat) (w : World), (w.setCells g o vs).heap.size = w.heap.size := fun vs => by
          induction vs with
          | nil => intro o w; rfl
          | cons v r ih => intro o w; rw [World.setCells, ih]; simp [World.setCell]
        rw [this]
        exact h.hi
      · by_cases q : o ≤ i ∧ i < o + m
        · obtain ⟨d, rfl⟩ : ∃ d, i = o + d := ⟨i - o, by omega⟩
          rw [hin d (by rw [List.length_map, nz_len]; omega)]
          have e : (l.take o ++ s ++ l.drop (o + m)).getD (o + d) 0 = s.getD d 0 := by
            rw [List.getD_eq_getElem?_getD, List.getD_eq_getElem?_getD, List.append_assoc, List.getElem?_append_right (by rw [List.length_take]; omega), List.length_take, show o + d - min o l.length = d by omega, List.getElem?_append_left (by omega)]
          have e2 : (nz s)[d]'(by rw [nz_len]; omega) = (nz s).getD d 0 := by
            rw [List.getD_eq_getElem?_getD, List.getElem?_eq_getElem (by rw [nz_len]; omega)]
            rfl
          rw [e, ← nz_at, List.getElem_map, e2]
        · rw [hout ⟨g, i, none⟩ (fun _ _ => by rw [List.length_map, nz_len]; show i < _ ∨ _ ≤ i; omega), h.cell i hi]
          have e3 : (l.take o ++ s ++ l.drop (o + m))[i]? = l[i]? := by
            by_cases q1 : i < o
            · rw [List.append_assoc, List.getElem?_append_left (by rw [List.length_take]; omega), List.getElem?_take_of_lt q1]
            · rw [List.getElem?_append_right (by simp; omega), List.getElem?_drop, show o + m + (i - (l.take o ++ s).length) = i by simp; omega]
          rw [List.getD_eq_getElem?_getD, List.getD_eq_getElem?_getD, e3]
    · have : ∀ (vs : List Value) (o : Nat) (w' : World), Below base w w' → Below base w (w'.setCells g o vs) := fun vs => by
        induction vs with
        | nil => intro o w' hb; exact hb
        | cons v r ih => intro o w' hb; exact ih (o + 1) _ (hb.setCell (p := ⟨g, o, none⟩) h.lo v)
      exact this _ _ _ (Below.refl _ _)
theorem wpList_copy8 {w : World} {ops : Array Oper} {rest : List Oper} {o : Oper} {a : Act} {Q : Exit → Act → World → Prop} (hgd : o.guard = none) (d s : Operand) (t t' : TypeId)
    (ho : o.op = .call { callee := .builtin .copy, args := #[d, s], argTypes := #[t, t'] }) (v u : Value) (hd : a.eval d = v) (hs : a.eval s = u) {v' : Value} {w' : World}
    (hr : (Builtin.copy_ #[t, t'] o.type #[v, u]).run Tryz.prog w = .ok v' w') (h : wpList Tryz.prog ops Q rest (a.put o.dst v') w') : wpList Tryz.prog ops Q (o :: rest) a w := by
  refine wpList_plain hgd fun K hK => ?_
  unfold Oper.wp execOp
  simp only [ho, resolve, invoke, builtin, Sem.run_bind, Sem.run_pure, Result.andThen_ok, List.map_toArray, List.map_cons, List.map_nil, hd, hs, hr]
  exact hK _ _ h
theorem step_copy8 {w : World} {ops : Array Oper} {o : Oper} {a : Act} {K : Act → World → Prop} {Q : Exit → Act → World → Prop} {E : Prop} (hgd : o.guard = none) (d s : Operand) (t t' : TypeId)
    (ho : o.op = .call { callee := .builtin .copy, args := #[d, s], argTypes := #[t, t'] }) (v u : Value) (hd : a.eval d = v) (hs : a.eval s = u) {v' : Value} {w' : World}
    (hr : (Builtin.copy_ #[t, t'] o.type #[v, u]).run Tryz.prog w = .ok v' w') (h : K (a.put o.dst v') w') : if Region.wanted o (yielded ops a.tmps) = true then Oper.wp Tryz.prog o a w K Q else E := by
  have hw : Region.wanted o (yielded ops a.tmps) = true := by simp [Region.wanted, hgd]
  rw [if_pos hw]
  unfold Oper.wp execOp
  simp only [ho, resolve, invoke, builtin, Sem.run_bind, Sem.run_pure, Result.andThen_ok, List.map_toArray, List.map_cons, List.map_nil, hd, hs, hr]
  exact h
/-- append where the base has no room: new memory -/
theorem append8 {w : World} {a b : Addr} {n m c : Nat} {l s : List UInt8} (hl : Rb w (some a) n n l) (hs : Rb w (some b) m c s) (hm : 0 < m) (hb : n + m ≤ 1000000) (ty : TypeId) :
    ∃ v w', (Builtin.append_ #[45, 45] ty #[.slice (some a) n n, .slice (some b) m c]).run Tryz.prog w = .ok v w' ∧ Own .u8 w' w.heap.size 5 v (nz (l ++ s)) ∧ Below w.heap.size w w' := by
  obtain ⟨i, hi, hz0, hz1, hz2⟩ := info_parts info8
  have hll := hl.len
  have hsl := hs.len
  have hr := run_append_grow (P := Tryz.prog) w 45 ty 5 i (.int .u8 0) Tryz.underlying45 hi hz0 a n n ((nz l).map (Value.int .u8)) (by rw [List.length_map, nz_len, hz1, hll, Nat.mul_one])
    (fun j u hj => by
      rw [List.getElem?_map] at hj
      obtain ⟨x, hx, rfl⟩ := Option.map_eq_some_iff.1 hj
      exact hl.add j x hx) b m c ((nz s).map (Value.int .u8)) (by rw [List.length_map, nz_len, hz1, hsl, Nat.mul_one])
    (fun j u hj => by
      rw [List.getElem?_map] at hj
      obtain ⟨x, hx, rfl⟩ := Option.map_eq_some_iff.1 hj
      exact hs.add j x hx) (by omega) (by omega) (growslice_fits (by omega) (by rw [hz2]; omega))
  have hge := grownCap_ge w (n + m) n 5
  have hle := grownCap_le_maxLen w (n + m) n 5 (by unfold maxLen; omega)
  generalize grownCap w (n + m) n 5 = cap at *
  refine ⟨_, _, hr, ⟨?_, Or.inr ⟨w.heap.size, cap, _, by rw [nz_len, List.length_append, hll, hsl], Nat.le_refl _, heap_alloc_new w.drew _, by rw [nz_len, List.length_append]; omega, hle, ?_, ?_⟩⟩, ?_⟩
  · rw [List.length_map, Nat.mul_one]
  · simp [nz_len, hll, hsl, Builtin.zeroCells, Value.cells]
    omega
  · rw [nz_len, List.length_append, hll, hsl, Nat.mul_one]
    simp only [Array.toList_append]
    rw [List.take_append_of_le_length (by simp [nz_len, hll, hsl]), List.take_of_length_le (by simp [nz_len, hll, hsl])]
    rw [nz_app, List.map_append]
  · exact ⟨rfl, rfl, rfl, by simp, fun k hk => heap_alloc_old w.drew _ hk⟩
theorem load8 {w : World} {a : Option Addr} {n c : Nat} {l : List UInt8} (h : Rb w a n c l) : (Extern.Bytes.bytesOf (.slice a n c)).run Tryz.prog w = .ok ⟨l.toArray⟩ w := by
  have hl := h.len
  cases a with
  | none =>
    by_cases h0 : n = 0
    · have e : l = [] := List.eq_nil_of_length_eq_zero (by omega)
      subst e
      rfl
    · obtain ⟨g, o, e, _⟩ := h.cells (by omega)
      cases e
  | some a =>
    have r := Lib.run_loadBytesX (P := Tryz.prog) w (nz l) a .empty (fun j x hj => h.add j x hj)
    rw [nz_len, hl, nz_libBytes] at r
    have he : (⟨ByteArray.empty.data ++ l.toArray⟩ : ByteArray) = ⟨l.toArray⟩ := by
      apply ByteArray.ext
      show (#[] : Array UInt8) ++ l.toArray = l.toArray
      simp
    rw [he] at r
    exact r
theorem compare8 {w : World} {a b : Option Addr} {n c m d : Nat} {l s : List UInt8} (hl : Rb w a n c l) (hs : Rb w b m d s) :
    (callFunc 123 #[.slice a n c, .slice b m d]).run Tryz.prog w = .ok (.value (.int .i64 (cmpL l s))) w := by
  rw [run_callFunc_extern Tryz.func123 (by kernel_rfl) (by kernel_rfl) (by kernel_rfl) (e := Extern.BytealgCompare.compare) (by kernel_rfl)]
  have e1 := load8 hl
  have e2 := load8 hs
  have : (Extern.BytealgCompare.compare #[.slice a n c, .slice b m d]).run Tryz.prog w = .ok (.int .i64 (cmpL l s)) w := by
    change Sem.run Tryz.prog (do pure (goInt (Extern.BytealgCompare.cmp (← Extern.Bytes.bytesOf (.slice a n c)) (← Extern.Bytes.bytesOf (.slice b m d))))) w = _
    simp only [Sem.run_bind, e1, e2, Sem.run_pure, Result.andThen]
    rw [Lib.cmp_eq, cmpL_lib]
    rfl
  rw [this]
  rfl
set_option maxHeartbeats 1600000 in
set_option maxRecDepth 100000 in
theorem bCompare_any {w : World} {a b : Option Addr} {n c m d : Nat} {l s : List UInt8} (hl : Rb w a n c l) (hs : Rb w b m d s) :
    Calls Tryz.prog 89 #[.slice a n c, .slice b m d] w fun e w' => e = .returned (.int .i64 (cmpL l s)) ∧ w' = w := by
  have hc := compare8 hl hs
  go_enter Tryz.func89, Tryz.ntmps89
  go_wp2
  go_ret
  exact ⟨rfl, rfl⟩
set_option maxHeartbeats 1600000 in
set_option maxRecDepth 100000 in
theorem cut13_any {w : World} {a : Option Addr} {N n c : Nat} {l : List UInt8} (h : Rb w a N c l) (hn : n ≤ N) :
    Calls Tryz.prog 23 #[.slice a N c, .int .i64 (n : Int)] w fun e w' => ∃ a1 a2, e = .returned (.tuple #[.slice a1 n n, .slice a2 (N - n) (N - n)]) ∧ Rb w' a1 n n (l.take n) ∧ Rb w' a2 (N - n) (N - n) (l.drop n) ∧ Below w.heap.size w w' := by
  have hc := h.2.1
  have hc' := h.2.2
  have h0 : (0 : Int) ≤ (n : Int) := by omega
  have h1 : (n : Int) ≤ (N : Int) := by omega
  have h2 : (N : Int) ≤ (c : Int) := by omega
  go_enter Tryz.func23, Tryz.ntmps23
  go_wp2
  go_quiet (fail)
  generalize hA : (if N = n then a else Option.map (fun x => x.add n) a) = A
  go_wp2
  go_ret2
  have hb : Below w.heap.size w (w.drewN nq) := below_drewN (Below.refl _ _) _
  refine ⟨_, _, rfl, (h.take hn (Nat.le_refl _) (by omega)).later hb, (h.drop hn rfl (Nat.le_refl _) (by omega) (fun hp g o e => ?_)).later hb, hb⟩
  rw [← hA, if_neg (by omega), e]
  show some ((⟨g, o, none⟩ : Addr).add n) = _
  unfold Addr.add
  split <;> simp_all
namespace Ep
/-- whether the last digit of a row is odd -/
def oddL (l : List UInt8) : Bool := decide (0 < l.length) && decide ((l.getD (l.length - 1) 0).toNat % 2 = 1)
def upL (l s : List UInt8) : Bool := decide (0 < cmpL s [53]) || (decide (cmpL s [53] = 0) && oddL l)
theorem cmpL_bd : ∀ (a b : List UInt8), -1 ≤ cmpL a b ∧ cmpL a b ≤ 1
  | [], [] => by decide
  | [], _ :: _ => by unfold cmpL; omega
  | _ :: _, [] => by unfold cmpL; omega
  | x :: a, y :: b => by
    unfold cmpL
    have := cmpL_bd a b
    split
    · omega
    · split <;> omega
theorem upL_dg {N n k : Nat} (hk : 1 ≤ k) (h0 : N % 10 ≠ 0) : upL (dg n (N / 10 ^ k)) (dg k N) = if n = 0 then (decide (0 < cmpL (dg k N) [53])) else up N (10 ^ k) := by
  unfold upL oddL
  rw [dg_len]
  by_cases h : n = 0
  · subst h
    simp
  · obtain ⟨c, hc, h1, _⟩ := odd_byte (n := n) (X := N / 10 ^ k) (by omega)
    rw [if_neg h, goes_up (n := n) hk h0, decide_eq_true (show 0 < n by omega), List.getD_eq_getElem?_getD, hc, Bool.true_and]
    show (_ || (_ && decide (c.toNat % 2 = 1))) = _
    rw [h1]
end Ep
set_option maxHeartbeats 1600000 in
set_option maxRecDepth 100000 in
theorem goesUp_any {w : World} {a b : Option Addr} {n c m d : Nat} {l s : List UInt8} (hl : Rb w a n c l) (hs : Rb w b m d s) :
    Calls Tryz.prog 50 #[.slice a n c, .slice b m d] w fun e w' => e = .returned (.bool (upL l s)) ∧ Below w.heap.size w w' := by
  obtain ⟨w1, hw1⟩ : ∃ w1, w1 = w.alloc (.cells #[.int .u8 53] 5) := ⟨_, rfl⟩
  have hb1 : Below w.heap.size w w1 := by rw [hw1]; exact alloc_below _
  have h5 : Rb w1 (some ⟨w.heap.size, 0, none⟩) 1 1 [53] := ⟨⟨rfl, Or.inr ⟨w.heap.size, 0, rfl, by rw [hw1]; simp, fun i hi => by
    have : i = 0 := by omega
    subst this
    rw [hw1]
    simp [nz]⟩⟩, Nat.le_refl _, by omega⟩
  have hC := bCompare_any (hs.later hb1) h5
  have hl1 := hl.later hb1
  have hln := hl.len
  have hcb := cmpL_bd s [53]
  obtain ⟨K, hK⟩ : ∃ K, K = cmpL s [53] := ⟨_, rfl⟩
  have hU : upL l s = (decide (0 < K) || (decide (K = 0) && oddL l)) := by rw [hK]; rfl
  rw [← hK] at hC hcb
  rw [hU]
  clear hK hU h5
  by_cases h0 : n = 0
  · have ho : oddL l = false := by unfold oddL; rw [hln, h0]; rfl
    rw [ho]
    subst h0
    rcases (by omega : K = -1 ∨ K = 0 ∨ K = 1) with rfl | rfl | rfl
    all_goals
      go_enter Tryz.func50, Tryz.ntmps50
      go_wp2_with fail
      rw [← hw1]
      refine hC.mono ?_
      rintro e w2 ⟨rfl, rfl⟩
      clear hC hw1
      go_wp2
      go_ret
      exact ⟨rfl, hb1⟩
  · obtain ⟨k, rfl⟩ : ∃ k, n = k + 1 := ⟨n - 1, by omega⟩
    obtain ⟨g, o, rfl, hg, hcell⟩ := hl1.cells (by omega)
    have hck := hcell k (by omega)
    obtain ⟨x, hx⟩ : ∃ x : Int, x = ((l.getD k 0).toNat : Int) := ⟨_, rfl⟩
    have ho : oddL l = decide (x % 2 = 1) := by
      unfold oddL
      rw [hln, decide_eq_true (by omega), Bool.true_and, show k + 1 - 1 = k by omega, hx]
      exact decide_eq_decide.2 (by omega)
    rw [← hx] at hck
    have hx0 : 0 ≤ x := by omega
    have hx1 : x < 256 := by have := (l.getD k 0).toNat_lt; omega
    rw [ho]
    have e1 : ((k + 1 : Nat) : Int) - 1 = (k : Int) := by omega
    have hkb : (k : Int) ≤ 9223372036854775806 := by have := hl.2; omega
    clear hcell hx ho hl hl1 hs
    rcases (by omega : x % 2 = 0 ∨ x % 2 = 1) with hp | hp
    all_goals rcases (by omega : K = -1 ∨ K = 0 ∨ K = 1) with rfl | rfl | rfl
    all_goals
      go_enter Tryz.func50, Tryz.ntmps50
      go_wp2_with fail
      rw [← hw1]
      refine hC.mono ?_
      rintro e w2 ⟨rfl, rfl⟩
      clear hC hw1
      go_wp2
      go_ret
      exact ⟨by rw [hp]; rfl, hb1⟩
end Go.Proofs.YtceecgklgkiffabGreatDoor


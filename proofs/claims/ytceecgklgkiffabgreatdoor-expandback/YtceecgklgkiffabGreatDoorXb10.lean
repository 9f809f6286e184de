import Derived.Deep.RegionHeldLaw
import Derived.Deep.LoopGhost
import Derived.Below
import Derived.BigQuiet
import Derived.ChangeOld
import Derived.Deep.DeepCutAuto
import Derived.Deep.QuietTactic
import Derived.Deep.RegionWith
import Derived.KernelRfl
import Derived.Laws.BitsAllLaws
import Derived.Laws.CopyRow
import Derived.Laws.IdiomCopy
import Derived.Laws.IdiomRangeMap
import Derived.Lib.BytesEntry
import Derived.Lib.MakeNoZero
import Derived.OpenShut
import Derived.OwnWalk
import Derived.ProofKit
import Derived.ShutString
import Derived.WalkKit
import Derived.WalkLawsBesides
import Derived.WalkSpells
import Derived.Test.YtceecgklgkiffabGreatDoorXb7
/- Layer 13: bytes.Repeat, zeros. -/
namespace Go.Proofs.YtceecgklgkiffabGreatDoor
open Go.ChangeShapes Go.WideShapes Go.ChangeAt Go.RowKit
open Na Ar Ep
set_option linter.unusedVariables false
/-- memory that is filled from the front -/
structure Pw (w : World) (base g n : Nat) (l : List UInt8) : Prop where
  lo : base ≤ g
  hi : g < w.heap.size
  len : l.length ≤ n
  there : ∀ i, i < n → (w.cell? ⟨g, i, none⟩).isSome = true
  cell : ∀ i, i < l.length → w.cell? ⟨g, i, none⟩ = some (.int .u8 ((l.getD i 0).toNat : Int))
  free : ∀ i, i < n → w.frozen? ⟨g, i, none⟩ = false
theorem Pw.later {w w' : World} {base g n : Nat} {l : List UInt8} (h : Pw w base g n l) (hb : Below w.heap.size w w') : Pw w' base g n l :=
  ⟨h.lo, Nat.lt_of_lt_of_le h.hi hb.size, h.len, fun i hi => by rw [hb.cell (p := ⟨g, i, none⟩) h.hi]; exact h.there i hi, fun i hi => (hb.cell (p := ⟨g, i, none⟩) h.hi).trans (h.cell i hi), fun i hi => (World.frozen?_of_block (a := ⟨g, i, none⟩) (hb.block g h.hi)).trans (h.free i hi)⟩
theorem Pw.full {w : World} {base g n : Nat} {l : List UInt8} (h : Pw w base g n l) (hn : l.length = n) : Wr w base g n l :=
  ⟨h.lo, h.hi, hn, fun i hi => h.cell i (by omega), h.free⟩
theorem Pw.row {w : World} {base g n : Nat} {l : List UInt8} (h : Pw w base g n l) {k c : Nat} (hk : k ≤ l.length) (hc : k ≤ c) (hc' : c ≤ 9223372036854775807) : Rb w (some ⟨g, 0, none⟩) k c (l.take k) :=
  ⟨⟨by rw [nz_len, List.length_take]; omega, Or.inr ⟨g, 0, rfl, h.hi, fun i hi => by rw [nz_at, Nat.zero_add, h.cell i (by omega), List.getD_eq_getElem?_getD, List.getD_eq_getElem?_getD, List.getElem?_take_of_lt hi]⟩⟩, hc, hc'⟩
theorem Pw.copy {w : World} {base g n : Nat} {l : List UInt8} (h : Pw w base g n l) {dLen dCap m c k : Nat} {sa : Option Addr} {s : List UInt8} (hs : Rb w sa m c s) (hd : l.length + dLen = n) (hk : k = Nat.min m dLen) (h0 : 0 < m) (ty : TypeId) :
    ∃ w', (Builtin.copy_ #[45, 45] ty #[.slice (some ⟨g, l.length, none⟩) dLen dCap, .slice sa m c]).run Tryz.prog w = .ok (goInt k) w' ∧ Pw w' base g n (l ++ s.take k) ∧ Below base w w' := by
  have hsl := hs.len
  have hkl : (s.take k).length = k := by rw [List.length_take, hk, hsl]; exact Nat.min_eq_left (Nat.min_le_left _ _)
  have hkd : k ≤ dLen := by rw [hk]; exact Nat.min_le_right _ _
  have hkm : k ≤ m := by rw [hk]; exact Nat.min_le_left _ _
  obtain ⟨sg, so, rfl, hsg, hsc⟩ := hs.cells h0
  have hlen : ((nz (s.take k)).map (Value.int .u8)).length = k := by rw [List.length_map, nz_len, hkl]
  have hr := run_copy_cells (P := Tryz.prog) w 45 45 ty 5 g l.length dLen dCap ⟨sg, so, none⟩ m c ((nz (s.take k)).map (Value.int .u8)) Tryz.underlying45 size8 (by rw [hlen]; exact hk)
    (fun j u hj => by
      rw [List.getElem?_map] at hj
      obtain ⟨x, hx, rfl⟩ := Option.map_eq_some_iff.1 hj
      refine hs.add j x ?_
      rw [nz_take] at hx
      by_cases q : j < k
      · rwa [List.getElem?_take_of_lt q] at hx
      · rw [List.getElem?_eq_none (by rw [List.length_take]; omega)] at hx; cases hx)
    (fun j hj => h.there _ (by rw [hlen] at hj; omega)) (fun j hj => h.free _ (by rw [hlen] at hj; omega))
    (fun u hu => by obtain ⟨x, _, rfl⟩ := List.mem_map.1 hu; rfl)
  rw [hlen] at hr
  refine ⟨_, hr, ?_, ?_⟩
  · have hin := World.cell?_setCells_in g ((nz (s.take k)).map (Value.int .u8)) l.length w (fun j hj => h.there _ (by rw [hlen] at hj; omega))
    have hout := World.cell?_setCells_out g ((nz (s.take k)).map (Value.int .u8)) l.length w
    have hat : ∀ i, i < k → (w.setCells g l.length ((nz (s.take k)).map (Value.int .u8))).cell? ⟨g, l.length + i, none⟩ = some (.int .u8 (((s.take k).getD i 0).toNat : Int)) := fun i hi => by
      have e2 : (nz (s.take k))[i]'(by rw [nz_len]; omega) = (nz (s.take k)).getD i 0 := by
        rw [List.getD_eq_getElem?_getD, List.getElem?_eq_getElem (by rw [nz_len]; omega)]
        rfl
      rw [hin i (by omega), List.getElem_map, e2, nz_at]
    refine ⟨h.lo, ?_, by rw [List.length_append, hkl]; omega, fun i hi => ?_, fun i hi => ?_, fun i hi => by rw [World.frozen?_setCells]; exact h.free i hi⟩
    · have : ∀ (vs : List Value) (o : Nat) (w : World), (w.setCells g o vs).heap.size = w.heap.size := fun vs => by
        induction vs with
        | nil => intro o w; rfl
        | cons v r ih => intro o w; rw [World.setCells, ih]; simp [World.setCell]
      rw [this]
      exact h.hi
    · by_cases q : l.length ≤ i ∧ i < l.length + k
      · obtain ⟨d, rfl⟩ : ∃ d, i = l.length + d := ⟨i - l.length, by omega⟩
        rw [hat d (by omega)]
        rfl
      · rw [hout ⟨g, i, none⟩ (fun _ _ => by rw [hlen]; show i < _ ∨ _ ≤ i; omega)]
        exact h.there i hi
    · rw [List.length_append, hkl] at hi
      by_cases q : l.length ≤ i
      · obtain ⟨d, rfl⟩ : ∃ d, i = l.length + d := ⟨i - l.length, by omega⟩
        rw [hat d (by omega), List.getD_eq_getElem?_getD, List.getD_eq_getElem?_getD, List.getElem?_append_right (by omega), Nat.add_sub_cancel_left]
      · rw [hout ⟨g, i, none⟩ (fun _ _ => by rw [hlen]; show i < _ ∨ _ ≤ i; omega), h.cell i (by omega), List.getD_eq_getElem?_getD, List.getD_eq_getElem?_getD, List.getElem?_append_left (by omega)]
  · have : ∀ (vs : List Value) (o : Nat) (w' : World), Below base w w' → Below base w (w'.setCells g o vs) := fun vs => by
      induction vs with
      | nil => intro o w' hb; exact hb
      | cons v r ih => intro o w' hb; exact ih (o + 1) _ (hb.setCell (p := ⟨g, o, none⟩) h.lo v)
    exact this _ _ _ (Below.refl _ _)
namespace Ep
theorem and32 {n : Int} (h0 : 0 ≤ n) (h1 : n < 4294967296) : bits BinOp.and IntKind.u64 n 4294967295 = n := by
  rw [and_half ⟨h0, by omega⟩]
  omega
end Ep
set_option maxHeartbeats 1600000 in
set_option maxRecDepth 100000 in
theorem mul64_one {n : Int} (h0 : 0 ≤ n) (h1 : n ≤ 8000) (w : World) :
    Calls Tryz.prog 151 #[.int .u64 1, .int .u64 n] w fun e w' => e = .returned (.tuple #[.int .u64 0, .int .u64 n]) ∧ w' = w := by
  have a1 := and32 (n := n) h0 (by omega)
  have a2 := and32 (n := 1) (by omega) (by omega)
  have a3 := and32 (n := 0) (by omega) (by omega)
  have a4 : n / 4294967296 = 0 := by omega
  go_enter Tryz.func151, Tryz.ntmps151
  go_wp2
  go_ret2
  exact ⟨rfl, rfl⟩
set_option maxHeartbeats 1600000 in
set_option maxRecDepth 100000 in
theorem bMul_one {n : Int} (h0 : 0 ≤ n) (h1 : n ≤ 8000) (w : World) :
    Calls Tryz.prog 121 #[.int .u64 1, .int .u64 n] w fun e w' => e = .returned (.tuple #[.int .u64 0, .int .u64 n]) ∧ w' = w := by
  have hM := mul64_one h0 h1
  go_enter Tryz.func121, Tryz.ntmps121
  go_wp2_with (refine (hM _).mono ?_; rintro e w' ⟨rfl, rfl⟩)
  go_ret2
  exact ⟨rfl, rfl⟩
theorem makeNoZero8 {w : World} {n : Nat} (h : n ≤ 8000) : ∃ c, n ≤ c ∧ c ≤ 9223372036854775807 ∧ ∃ w', (callFunc 122 #[.int .i64 (n : Int)]).run Tryz.prog w = .ok (.value (.slice (some ⟨w.heap.size, 0, none⟩) n c)) w' ∧ Pw w' w.heap.size w.heap.size n [] ∧ Below w.heap.size w w' := by
  obtain ⟨cs, hr, hle, hm⟩ := Lib.run_makeNoZero (P := Tryz.prog) w #[3] 45 5 Tryz.underlying45 n (by omega)
  have hm' := hm (by unfold maxLen; omega)
  refine ⟨cs.size, hle, by unfold maxLen at hm'; omega, w.drew.drew.alloc (.cells cs 5), ?_, ?_, ?_⟩
  · rw [run_callFunc_extern Tryz.func122 (by kernel_rfl) (by kernel_rfl) (by kernel_rfl) (e := Extern.BytealgMakeNoZero.makeNoZero #[3] #[45]) (by kernel_rfl), hr]
    rfl
  · refine ⟨Nat.le_refl _, by simp, Nat.zero_le _, fun i hi => ?_, fun i hi => by simp at hi, fun i hi => ?_⟩
    · have := World.cell?_alloc_mark w.drew.drew cs 5 (0, 0) i
      have e : w.drew.drew.heap.size = w.heap.size := rfl
      rw [e] at this
      rw [this, Array.getElem?_eq_getElem (by omega)]
      rfl
    · have := World.frozen?_alloc_mark w.drew.drew cs 5 0 0 i
      have e : w.drew.drew.heap.size = w.heap.size := rfl
      rw [e] at this
      rw [this]
      simp
  · exact ⟨rfl, rfl, rfl, by simp, fun k hk => heap_alloc_old w.drew.drew _ hk⟩
theorem step_copyPw {w : World} {ops : Array Oper} {o : Oper} {a : Act} {K : Act → World → Prop} {Q : Exit → Act → World → Prop} {E : Prop} (hgd : o.guard = none) (d s : Operand)
    (ho : o.op = .call { callee := .builtin .copy, args := #[d, s], argTypes := #[45, 45] }) {base g n : Nat} {l : List UInt8} (h : Pw w base g n l) {b dLen dCap m c k : Nat} {sa : Option Addr} {t : List UInt8} (hs : Rb w sa m c t) (hd : l.length + dLen = n) (hk : k = Nat.min m dLen) (h0 : 0 < m) (hb : b = l.length) {ds : Option Nat} (hds : o.dst = ds)
    (e1 : a.eval d = .slice (some ⟨g, b, none⟩) dLen dCap) (e2 : a.eval s = .slice sa m c) (hh : ∀ w', Pw w' base g n (l ++ t.take k) → Below base w w' → K (a.put ds (goInt k)) w') : if Region.wanted o (yielded ops a.tmps) = true then Oper.wp Tryz.prog o a w K Q else E := by
  subst hb
  subst hds
  obtain ⟨w', hr, hp, hb⟩ := h.copy hs hd hk h0 o.type (dCap := dCap)
  exact step_copy8 hgd d s 45 45 ho _ _ e1 e2 hr (hh w' hp hb)
set_option maxHeartbeats 3200000 in
set_option maxRecDepth 100000 in
theorem repeat_any {w : World} {a : Option Addr} {c0 n : Nat} {x : UInt8} (h : Rb w a 1 c0 [x]) (h1 : 1 ≤ n) (h2 : n ≤ 8000) :
    Calls Tryz.prog 88 #[.slice a 1 c0, .int .i64 (n : Int)] w fun e w' => ∃ g, e = .returned (.slice (some ⟨g, 0, none⟩) n n) ∧ Wr w' w.heap.size g n (List.replicate n x) ∧ Below w.heap.size w w' := by
  have hM := fun w => bMul_one (n := (n : Int)) (by omega) (by omega) w
  obtain ⟨c, hc, hc9, w1, hrun, hP, hb1⟩ := makeNoZero8 (w := w) h2
  have z1 : ((n : Int) == 0) = false := by simp; omega
  have z2 : (n : Int) ≤ 8000 := by omega
  have z3 : (1 : Int) ≤ n := by omega
  have z4 : (n : Int) ≤ (c : Int) := by omega
  obtain ⟨g, hg⟩ : ∃ g, g = w.heap.size := ⟨_, rfl⟩
  have HG : Hid (w.heap.size = g) := hg.symm
  rw [← hg] at hrun hP
  obtain ⟨w2, hr2, hP2, hb2⟩ := hP.copy (dLen := n) (dCap := n) (k := 1) (h.later hb1) (by simp) (by show 1 = min 1 n; omega) (by omega) 3
  rw [List.length_nil] at hr2
  rw [List.nil_append] at hP2
  have hB2 : Below w.heap.size w w2 := hb1.trans (by rw [← hg]; exact hb2)
  have HL : Hid (([x] : List UInt8).take 1 = List.replicate 1 x) := by show _ = _; rfl
  rw [HL.out] at hP2
  clear hP hb1 hb2 hg
  go_enter Tryz.func88, Tryz.ntmps88
  go_wp2_with fail
  refine (hM _).mono ?_
  rintro e w9 ⟨rfl, rfl⟩
  clear hM h
  go_wp2_with (first | (at_builtin; refine wpList_copy8 rfl _ _ 45 45 rfl _ _ rfl rfl hr2 ?_))
  clear hr2 hrun
  go_loopg [10] n (fun k s10 wr => ∃ b : Nat, s10 = .int .i64 (b : Int) ∧ 1 ≤ b ∧ b ≤ n ∧ n - b ≤ k ∧ Pw wr g g n (List.replicate b x) ∧ Below w9.heap.size w9 wr)
  case atStart => exact ⟨1, rfl, Nat.le_refl _, h1, by omega, hP2, hB2⟩
  case round =>
    obtain ⟨b, rfl, hb1, hbn, hk, hP, hB⟩ := hrel
    clear hP2 hB2
    by_cases hlt : b < n
    · have hm : min (b : Int) (n : Int) = (b : Int) := by omega
      have q1 : (b : Int) < (n : Int) := by omega
      have q2 : (0 : Int) ≤ (b : Int) := by omega
      have q3 : ¬ n = b := by omega
      have hR : Rb wr (some ⟨g, 0, none⟩) b n (List.replicate b x) := by
        have := hP.row (k := b) (c := n) (by rw [List.length_replicate]; exact Nat.le_refl _) (by omega) (by omega)
        rwa [List.take_of_length_le (by rw [List.length_replicate]; exact Nat.le_refl _)] at this
      obtain ⟨k, hkk⟩ : ∃ k, k = Nat.min b (n - b) := ⟨_, rfl⟩
      have hk1 : 1 ≤ k ∧ k ≤ b ∧ k ≤ n - b := by rw [hkk]; show 1 ≤ min b (n - b) ∧ min b (n - b) ≤ b ∧ min b (n - b) ≤ n - b; omega
      have HK : Hid (k = Nat.min b (n - b)) := hkk
      have HLb : Hid ((List.replicate b x).length = b) := List.length_replicate
      have HLb2 : Hid ((List.replicate b x).length + (n - b) = n) := by show _ = _; rw [HLb.out]; omega
      have HT : Hid (List.replicate b x ++ (List.replicate b x).take k = List.replicate (b + k) x) := by
        show _ = _
        rw [List.take_replicate, Nat.min_eq_left hk1.2.1, List.replicate_append_replicate]
      clear hkk
      generalize List.replicate b x = L at *
      go_wp2
      have hPd : Pw wr.drew g g n L := hP.later ⟨rfl, rfl, rfl, Nat.le_refl _, fun _ _ => rfl⟩
      have hRd : Rb wr.drew (some ⟨g, 0, none⟩) b n L := hR.later ⟨rfl, rfl, rfl, Nat.le_refl _, fun _ _ => rfl⟩
      have hBd : Below w9.heap.size w9 wr.drew := hB.trans ⟨rfl, rfl, rfl, Nat.le_refl _, fun _ _ => rfl⟩
      go_region_held_law (fun w' => True) (trivial) ((refine step_copyPw rfl (.tmp 70) (.tmp 73) rfl hPd (k := k) (b := b) (dLen := n - b) (dCap := n - b) hRd HLb2.out HK.out (by omega) HLb.out.symm (ds := some 74) rfl rfl rfl ?_; intro w3 hP3 hB3))
      have hB4 : Below w9.heap.size w9 w3 := hBd.trans (by rw [HG.out]; exact hB3)
      have HBK : Hid ((b : Int) + (k : Int) = ((b + k : Nat) : Int)) := by show _ = _; omega
      rw [HT.out] at hP3
      clear hPd hRd hBd hB3 hP hR hB HT
      have q8 : (k : Int) ≤ 8000 := by omega
      go_wp2
      go_roundg (n - (b + k))
      case measure => omega
      case rel => exact ⟨b + k, by first | rfl | (rw [HBK.out]; rw [IntWalk.i64_in _ (by omega)]), by omega, by omega, by omega, hP3, hB4⟩
    · obtain rfl : n = b := by omega
      have hW := hP.full List.length_replicate
      have HGl : Hid (w9.heap.size = g) := HG
      clear hP
      go_wp2
      go_ret
      exact ⟨g, rfl, hW.rebase (by rw [HGl.out]; exact Nat.le_refl _), hB⟩
set_option maxHeartbeats 1600000 in
set_option maxRecDepth 100000 in
theorem zeros13_any {n : Nat} (h1 : 1 ≤ n) (h2 : n ≤ 8000) (w : World) :
    Calls Tryz.prog 49 #[.int .i64 (n : Int)] w fun e w' => ∃ g, e = .returned (.slice (some ⟨g, 0, none⟩) n n) ∧ Wr w' w.heap.size g n (List.replicate n 48) ∧ Below w.heap.size w w' := by
  obtain ⟨w1, hw1⟩ : ∃ w1, w1 = w.alloc (.cells #[.int .u8 48] 5) := ⟨_, rfl⟩
  have hb1 : Below w.heap.size w w1 := by rw [hw1]; exact alloc_below _
  have h5 : Rb w1 (some ⟨w.heap.size, 0, none⟩) 1 1 [48] := ⟨⟨rfl, Or.inr ⟨w.heap.size, 0, rfl, by rw [hw1]; simp, fun i hi => by
    have : i = 0 := by omega
    subst this
    rw [hw1]
    simp [nz]⟩⟩, Nat.le_refl _, by omega⟩
  have hR := repeat_any h5 h1 h2
  go_enter Tryz.func49, Tryz.ntmps49
  go_wp2_with fail
  rw [← hw1]
  refine hR.mono ?_
  rintro e w2 ⟨g, rfl, hW, hb2⟩
  clear hw1 hR
  have hW2 := hW.rebase hb1.size
  have hb3 := hb1.trans (hb2.mono hb1.size)
  go_wp2
  go_ret
  exact ⟨g, rfl, hW2, hb3⟩
end Go.Proofs.YtceecgklgkiffabGreatDoor

/- Layer 13: next, rounded. -/
namespace Go.Proofs.YtceecgklgkiffabGreatDoor
open Go.ChangeShapes Go.WideShapes Go.ChangeAt Go.RowKit
open Na Ar Ep
set_option linter.unusedVariables false
namespace Ep
theorem upL_row {N n k : Nat} (hk : 1 ≤ k) (h0 : N % 10 ≠ 0) (hN : N < 10 ^ (n + k)) : upL (dg n (N / 10 ^ k)) (dg k N) = up N (10 ^ k) := by
  rw [upL_dg hk h0]
  by_cases h : n = 0
  · subst h
    rw [if_pos rfl, goes_up (n := 0) hk h0, Nat.div_eq_of_lt (by simpa using hN)]
    simp
  · rw [if_neg h]
theorem nz_zeros (n : Nat) : nz (List.replicate n (0 : UInt8)) = List.replicate n 0 := by unfold nz; rw [List.map_replicate]; rfl
/-- the state of next behind j nines -/
def nineL (n Q j : Nat) : List UInt8 := dg (n - j) (Q / 10 ^ j) ++ List.replicate j 48
theorem nineL_len {n Q j : Nat} (h : j ≤ n) : (nineL n Q j).length = n := by unfold nineL; rw [List.length_append, dg_len, List.length_replicate]; omega
theorem nineL_zero (n Q : Nat) : nineL n Q 0 = dg n Q := by unfold nineL; simp
theorem nineL_at {n Q j : Nat} (h : j < n) : (nineL n Q j).getD (n - 1 - j) 0 = UInt8.ofNat (48 + Q / 10 ^ j % 10) := by
  unfold nineL
  rw [List.getD_eq_getElem?_getD, List.getElem?_append_left (by rw [dg_len]; omega), dg_at (by omega), show n - j - 1 - (n - 1 - j) = 0 by omega, Nat.pow_zero, Nat.div_one]
  rfl
theorem nineL_parts {n Q j : Nat} (h : j < n) : nineL n Q j = dg (n - j - 1) (Q / 10 ^ (j + 1)) ++ (UInt8.ofNat (48 + Q / 10 ^ j % 10) :: List.replicate j 48) := by
  unfold nineL
  obtain ⟨i, rfl⟩ : ∃ i, n = i + 1 + j := ⟨n - j - 1, by omega⟩
  have e : dg (i + 1) (Q / 10 ^ j) = dg i (Q / 10 ^ j / 10) ++ [UInt8.ofNat (48 + Q / 10 ^ j % 10)] := rfl
  rw [show i + 1 + j - j = i + 1 by omega, show i + 1 - 1 = i by omega, e, Nat.div_div_eq_div_mul, Nat.pow_succ, List.append_assoc]
  rfl
theorem nineL_set {n Q j : Nat} (h : j < n) (x : UInt8) : (nineL n Q j).set (n - 1 - j) x = dg (n - j - 1) (Q / 10 ^ (j + 1)) ++ (x :: List.replicate j 48) := by
  rw [nineL_parts h, List.set_append_right _ _ (by rw [dg_len]; omega), dg_len, show n - 1 - j - (n - j - 1) = 0 by omega]
  rfl
theorem nineL_next {n Q j : Nat} (h : j < n) : (nineL n Q j).set (n - 1 - j) 48 = nineL n Q (j + 1) := by
  rw [nineL_set h]
  unfold nineL
  rw [show n - (j + 1) = n - j - 1 by omega]
  rfl
theorem nines_all {n Q : Nat} (h : Q < 10 ^ n) (h9 : Q % 10 ^ n = 10 ^ n - 1) : Q + 1 = 10 ^ n := by
  rw [Nat.mod_eq_of_lt h] at h9
  have := Nat.pow_pos (n := n) (show 0 < 10 by omega)
  omega
/-- how many digits the next number has -/
def nxl (n Q : Nat) : Nat := if Q + 1 < 10 ^ n then n else n + 1
theorem one_zeros (n : Nat) : dg (n + 1) (10 ^ n) = 49 :: List.replicate n 48 := by
  rw [dg_cons, Nat.div_self (Nat.pow_pos (by omega)), ← dg_mod n (10 ^ n), Nat.mod_self, dg_zero]
  rfl
end Ep
theorem own_one {w : World} {base : Nat} (x : Int) (hb : base ≤ w.heap.size) : Own .u8 (w.alloc (.cells #[.int .u8 x] 5)) base 5 (.slice (some ⟨w.heap.size, 0, none⟩) 1 1) [x] :=
  ⟨rfl, Or.inr ⟨w.heap.size, 1, #[.int .u8 x], rfl, hb, heap_alloc_new w _, Nat.le_refl _, by unfold maxLen; omega, rfl, rfl⟩⟩
theorem rb_own {w : World} {base : Nat} {v : Value} {l : List UInt8} (h : Own .u8 w base 5 v (nz l)) : ∃ a c, v = .slice a l.length c ∧ Rb w a l.length c l := by
  obtain ⟨a, c, hv, h1, h2, h3⟩ := h.reads
  rw [nz_len] at hv h1 h3
  exact ⟨a, c, hv, h3, h1, by unfold maxLen at h2; omega⟩
set_option maxHeartbeats 3200000 in
set_option maxRecDepth 100000 in
theorem next13_any {w : World} {a : Option Addr} {n c Q : Nat} (h : Rb w a n c (dg n Q)) (hn : n ≤ 8000) (hQ : Q < 10 ^ n) :
    Calls Tryz.prog 51 #[.slice a n c] w fun e w' => ∃ a' n' c', e = .returned (.slice a' n' c') ∧ n' = nxl n Q ∧ Rb w' a' n' c' (dg n' (Q + 1)) ∧ Below w.heap.size w w' := by
  obtain ⟨i_u8, hi_u8, hz0_u8, hz1_u8, hz2_u8⟩ := info_parts info8
  have HQ : Hid (Q < 10 ^ n) := hQ
  have z0 : (n : Int) ≤ 8000 := by omega
  clear hQ
  go_enter Tryz.func51, Tryz.ntmps51
  go_wp2_with (at_make; refine wpList_make_full _ rfl _ _ 45 rfl w.heap.size 5 i_u8 (.int .u8 0) 1 Tryz.underlying45 hi_u8 hz0_u8 hz1_u8 .i64 .i64 _ _ n rfl rfl (by omega) (by omega) (by rw [hz2_u8]; omega) (by unfold maxLen; omega) (Nat.le_refl _) ?_)
  intro w1 hmade hgr
  have hown := own_zeros hmade
  rw [← nz_zeros] at hown
  have hb1 : Below w.heap.size w w1 := (Below.refl _ _).grown hgr (Nat.le_refl _) (fun k hk => by cases hk)
  have hW := wr_own hown (by rw [List.length_replicate])
  obtain ⟨w2, hr2, hW2, hb2⟩ := hW.copy (h.later hb1) (o := 0) (dLen := n) (dCap := n) (Nat.le_refl _) (by omega) 3
  have hl : (List.replicate n (0 : UInt8)).take 0 ++ dg n Q ++ (List.replicate n (0 : UInt8)).drop (0 + n) = nineL n Q 0 := by
    rw [nineL_zero, List.take_zero, List.nil_append, List.drop_of_length_le (by simp), List.append_nil]
  rw [hl] at hW2
  have hB2 : Below w.heap.size w w2 := hb1.trans hb2
  obtain ⟨g, hg⟩ : ∃ g, g = w.heap.size := ⟨_, rfl⟩
  have HG : Hid (w.heap.size = g) := hg.symm
  rw [← hg] at hW2 hr2 ⊢
  clear hmade hgr hown hb1 hW hl hb2 hg
  go_wp2_with (first | (at_builtin; refine wpList_copy8 rfl _ _ 45 45 rfl _ _ rfl rfl hr2 ?_))
  clear hr2 h
  go_loopg [4] (n + 1) (fun k s4 wr => ∃ (j : Nat) (I : Int), s4 = .int .i64 I ∧ I = (n : Int) - 1 - (j : Int) ∧ j ≤ n ∧ n - j < k + 1 ∧ Hid (Q % 10 ^ j = 10 ^ j - 1) ∧ Wr wr g g n (nineL n Q j) ∧ Below w.heap.size w wr)
  case atStart => exact ⟨0, _, rfl, by first | rfl | omega, Nat.zero_le _, by omega, (by show _ = _; rw [Nat.pow_zero]; omega), hW2, hB2⟩
  case round =>
    obtain ⟨j, I, rfl, hI, hj, hk, h9, hW, hB⟩ := hrel
    clear hW2 hB2
    by_cases hlt : j < n
    · obtain ⟨i, hi⟩ : ∃ i, i = n - 1 - j := ⟨_, rfl⟩
      have hIi : I = (i : Int) := by omega
      subst hIi
      clear hI
      have hin : i < n := by omega
      have hc := hW.cell i hin
      have hf := hW.free i hin
      obtain ⟨d, hd⟩ : ∃ d, d = Q / 10 ^ j % 10 := ⟨_, rfl⟩
      have hd9 : d < 10 := by omega
      rw [hi, nineL_at hlt, ← hi, ← hd, dch_nat hd9] at hc
      have HD : Hid (d = Q / 10 ^ j % 10) := hd
      have HI : Hid (i = n - 1 - j) := hi
      have q1 : (i : Int) < (n : Int) := by omega
      have q2 : (0 : Int) ≤ (i : Int) := by omega
      have HC : Hid (((48 + d : Nat) : Int) = 48 + (d : Int)) := by show _ = _; omega
      rw [HC.out] at hc
      clear hi hd
      by_cases hne : d = 9
      · obtain ⟨hs, hsb⟩ := hW.set i 48 48 rfl hin
        have HS : Hid ((nineL n Q j).set i 48 = nineL n Q (j + 1)) := by show _ = _; rw [HI.out]; exact nineL_next hlt
        rw [HS.out] at hs
        have HN : Hid (Q % 10 ^ (j + 1) = 10 ^ (j + 1) - 1) := nines_next h9.out (by rw [← HD.out]; exact hne)
        have hB3 : Below w.heap.size w (wr.setCell ⟨g, i, none⟩ (.int .u8 48)) := hB.trans (by rw [HG.out]; exact hsb)
        have hb9 : (48 + (d : Int) == 57) = true := by rw [hne]; rfl
        have hv : (48 + (d : Int)) = 57 := by rw [hne]; rfl
        rw [hv] at hc
        clear hW hB hsb hne hb9 hv
        go_wp2
        go_roundg (n - j - 1)
        case measure => omega
        case rel => exact ⟨j + 1, _, rfl, by have := HI.out; omega, by omega, by omega, HN.out, hs, hB3⟩
      · obtain ⟨hs, hsb⟩ := hW.set i (UInt8.ofNat (48 + Q / 10 ^ j % 10 + 1)) (48 + (d : Int) + 1) (by
            rw [← HD.out, Nat.add_assoc, UInt8.toNat_ofNat']
            omega) hin
        have hnx := next_nines hlt h9.out (by rw [← HD.out]; exact hne)
        have HS : Hid ((nineL n Q j).set i (UInt8.ofNat (48 + Q / 10 ^ j % 10 + 1)) = dg n (Q + 1)) := by show _ = _; rw [HI.out, nineL_set hlt]; exact hnx.1
        rw [HS.out] at hs
        have hB3 : Below w.heap.size w (wr.setCell ⟨g, i, none⟩ (.int .u8 (48 + (d : Int) + 1))) := hB.trans (by rw [HG.out]; exact hsb)
        have hlt2 : Q + 1 < 10 ^ n := hnx.2 HQ.out
        have HL2 : Hid (n = nxl n Q) := by show _ = _; unfold nxl; rw [if_pos hlt2]
        have hb9 : (48 + (d : Int) == 57) = false := by simp; omega
        have hR := hs.row (c := n) (Nat.le_refl _) (by omega)
        clear hW hB hsb hnx hs hlt2
        go_wp2
        go_ret
        exact ⟨_, n, n, rfl, HL2.out, hR, hB3⟩
    · obtain rfl : j = n := by omega
      have hIi : I < 0 := by omega
      clear hI
      have hR := hW.row (c := j) (Nat.le_refl _) (by omega)
      have hQ1 := nines_all HQ.out h9.out
      have HL : Hid (49 :: nineL j Q j = dg (j + 1) (Q + 1)) := by
        show _ = _
        rw [hQ1, one_zeros]
        unfold nineL
        rw [Nat.sub_self]
        rfl
      have HL2 : Hid (j + 1 = nxl j Q) := by show _ = _; unfold nxl; rw [if_neg (by omega)]
      have hO := own_one (w := wr) (base := w.heap.size) 49 hB.size
      have hba := alloc_below (w := wr) (.cells #[.int .u8 49] 5)
      have hR1 := hR.later hba
      have hBa : Below w.heap.size w (wr.alloc (.cells #[.int .u8 49] 5)) := hB.trans (hba.mono hB.size)
      clear hW hR hba hQ1 h9
      go_wp2_with (at_builtin; refine wpList_append_own _ rfl _ _ 45 rfl w.heap.size 5 i_u8 (.int .u8 0) 1 1 Tryz.underlying45 hi_u8 hz0_u8 hz1_u8 hz2_u8 rfl (by decide) _ 1 [.int .u8 49] rfl hO.row ⟨g, 0, none⟩ j j ((nz (nineL j Q j)).map (Value.int .u8)) rfl (by rw [List.length_map, hR1.1.1, Nat.mul_one]) (fun jj u hj => by
          rw [List.getElem?_map] at hj
          obtain ⟨x, hx, rfl⟩ := Option.map_eq_some_iff.1 hj
          exact hR1.add jj x hx) (fun u hu => by obtain ⟨x, _, rfl⟩ := List.mem_map.1 hu; rfl) (by unfold maxLen; omega) (by omega) hBa.size ?_)
      intro v3 w3 hv3 hg3 hn3
      have hown3 : Own .u8 w3 w.heap.size 5 v3 (nz (dg (j + 1) (Q + 1))) := by
        rw [← HL.out]
        unfold Own
        rw [nz_len, List.length_cons, nineL_len (Nat.le_refl _), Nat.add_comm]
        exact hv3
      have hB3 : Below w.heap.size w w3 := hBa.grown hg3 hBa.size (fun k hk => (hO.row.lt k hk).1)
      obtain ⟨a3, c3, rfl, hR3⟩ := rb_own hown3
      have HLL : Hid ((dg (j + 1) (Q + 1)).length = j + 1) := dg_len _ _
      rw [HLL.out] at hR3 ⊢
      clear hv3 hg3 hn3 hown3 hO hR1 hBa hB
      go_wp2
      go_ret
      exact ⟨a3, j + 1, c3, rfl, HL2.out, hR3, hB3⟩
namespace Ep
theorem rw13_short {L N n : Nat} (hN : N < 10 ^ L) (h : L ≤ n) : rw13 L N n = dg L N ++ List.replicate (n - L) 48 := by
  unfold rw13
  rw [if_pos ((rn_le hN).2 h)]
  unfold rn
  rw [if_pos h]
  obtain ⟨k, rfl⟩ : ∃ k, n = L + k := ⟨n - L, by omega⟩
  rw [Nat.add_sub_cancel_left, dg_tens]
theorem rw13_up {L N n : Nat} (h : n < L) (hu : up N (10 ^ (L - n)) = true) : rw13 L N n = dg (nxl n (N / 10 ^ (L - n))) (N / 10 ^ (L - n) + 1) := by
  have e : rn L N n = N / 10 ^ (L - n) + 1 := by unfold rn rq; rw [if_neg (show ¬ L ≤ n by omega), if_pos hu]
  unfold rw13 nxl
  rw [e]
theorem rw13_down {L N n : Nat} (hN : N < 10 ^ L) (h : n < L) (hu : up N (10 ^ (L - n)) = false) : rw13 L N n = dg n (N / 10 ^ (L - n)) ∧ N / 10 ^ (L - n) < 10 ^ n := by
  have hd : N / 10 ^ (L - n) < 10 ^ n := by
    rw [Nat.div_lt_iff_lt_mul (Nat.pow_pos (by omega)), ← Nat.pow_add, show n + (L - n) = L by omega]
    exact hN
  refine ⟨?_, hd⟩
  have e : rn L N n = N / 10 ^ (L - n) := by unfold rn rq; rw [if_neg (show ¬ L ≤ n by omega), hu]; rfl
  unfold rw13
  rw [e, if_pos hd]
end Ep
set_option maxHeartbeats 3200000 in
set_option maxRecDepth 100000 in
theorem rounded13_any {w : World} {a : Option Addr} {L c N n : Nat} (h : Rb w a L c (dg L N)) (hL : 1 ≤ L) (hL9 : L ≤ 4000) (hn : n ≤ 4000) (hN : N < 10 ^ L) (h0 : N % 10 ≠ 0 ∨ L ≤ n) :
    Calls Tryz.prog 20 #[.slice a L c, .int .i64 (n : Int)] w fun e w' => ∃ a' n' c', e = .returned (.slice a' n' c') ∧ Rb w' a' n' c' (rw13 L N n) ∧ Below w.heap.size w w' := by
  have z0 : ¬ (n : Int) < 0 := by omega
  by_cases hln : L ≤ n
  · have z1 : (L : Int) ≤ (n : Int) := by omega
    have hZ := fun w => zeros13_any (n := n) (by omega) (by omega) w
    have HR : Hid (rw13 L N n = dg L N ++ List.replicate (n - L) 48) := rw13_short hN hln
    rw [HR.out]
    clear h0
    go_enter Tryz.func20, Tryz.ntmps20
    go_wp2_with fail
    refine (hZ _).mono ?_
    rintro e w1 ⟨g, rfl, hW, hb1⟩
    obtain ⟨w2, hr2, hW2, hb2⟩ := hW.copy (h.later hb1) (o := 0) (dLen := n) (dCap := n) hln (by omega) 3
    have hl : (List.replicate n (48 : UInt8)).take 0 ++ dg L N ++ (List.replicate n (48 : UInt8)).drop (0 + L) = dg L N ++ List.replicate (n - L) 48 := by
      rw [List.take_zero, List.nil_append, Nat.zero_add, List.drop_replicate]
    rw [hl] at hW2
    have hB2 : Below w.heap.size w w2 := hb1.trans hb2
    have hR := hW2.row (c := n) (Nat.le_refl _) (by omega)
    clear hl hW hW2 hb1 hb2 hZ
    go_wp2_with (first | (at_builtin; refine wpList_copy8 rfl _ _ 45 45 rfl _ _ rfl rfl hr2 ?_))
    go_ret
    exact ⟨_, n, n, rfl, hR, hB2⟩
  · have z1 : ¬ (L : Int) ≤ (n : Int) := by omega
    have h10 : N % 10 ≠ 0 := h0.resolve_right hln
    have hC := cut13_any h (n := n) (by omega)
    rw [dg_take (by omega), dg_drop (by omega)] at hC
    have HU := upL_row (N := N) (n := n) (k := L - n) (by omega) h10 (by rw [show n + (L - n) = L by omega]; exact hN)
    have hQ : N / 10 ^ (L - n) < 10 ^ n := by
      rw [Nat.div_lt_iff_lt_mul (Nat.pow_pos (by omega)), ← Nat.pow_add, show n + (L - n) = L by omega]
      exact hN
    by_cases hu : up N (10 ^ (L - n)) = true
    · have HR : Hid (rw13 L N n = dg (nxl n (N / 10 ^ (L - n))) (N / 10 ^ (L - n) + 1)) := rw13_up (by omega) hu
      rw [hu] at HU
      rw [HR.out]
      have HN := @next13_any
      have HQ : Hid (N / 10 ^ (L - n) < 10 ^ n) := hQ
      generalize N / 10 ^ (L - n) = Q at *
      clear h0 hu hQ
      go_enter Tryz.func20, Tryz.ntmps20
      go_wp2_with fail
      refine hC.mono ?_
      rintro e w1 ⟨a1, a2, rfl, h1, h2, hb1⟩
      have hG := goesUp_any h1 h2
      rw [HU] at hG
      clear hC HU HN
      go_wp2_with fail
      refine hG.mono ?_
      rintro e w2 ⟨rfl, hb2⟩
      have hX := next13_any (h1.later hb2) (by omega) HQ.out
      have hB2 := hb1.trans (hb2.mono hb1.size)
      clear hG h1 h2 hb1 hb2
      go_wp2_with fail
      refine hX.mono ?_
      rintro e w3 ⟨a3, n3, c3, rfl, hn3, hR3, hb3⟩
      have hB3 := hB2.trans (hb3.mono hB2.size)
      rw [hn3] at hR3 ⊢
      clear hX hb3 hn3
      go_wp2
      go_ret
      exact ⟨a3, _, c3, rfl, hR3, hB3⟩
    · have hu' : up N (10 ^ (L - n)) = false := by simpa using hu
      have HR : Hid (rw13 L N n = dg n (N / 10 ^ (L - n))) := (rw13_down hN (by omega) hu').1
      rw [hu'] at HU
      rw [HR.out]
      generalize N / 10 ^ (L - n) = Q at *
      clear h0 hu hu' hQ
      go_enter Tryz.func20, Tryz.ntmps20
      go_wp2_with fail
      refine hC.mono ?_
      rintro e w1 ⟨a1, a2, rfl, h1, h2, hb1⟩
      have hG := goesUp_any h1 h2
      rw [HU] at hG
      clear hC HU
      go_wp2_with fail
      refine hG.mono ?_
      rintro e w2 ⟨rfl, hb2⟩
      have hR2 := h1.later hb2
      have hB2 := hb1.trans (hb2.mono hb1.size)
      clear hG h1 h2 hb1 hb2
      go_wp2
      go_ret
      exact ⟨a1, n, n, rfl, hR2, hB2⟩
theorem rounded13_neg {a : Option Addr} {L c : Nat} {n : Int} (hn : n < 0) (w : World) :
    Calls Tryz.prog 20 #[.slice a L c, .int .i64 n] w fun e w' => e = .returned (.slice none 0 0) ∧ w' = w := by
  go_enter Tryz.func20, Tryz.ntmps20
  go_wp2
  go_ret
  exact ⟨rfl, rfl⟩
end Go.Proofs.YtceecgklgkiffabGreatDoor

/- Layer 13: pointed. -/
namespace Go.Proofs.YtceecgklgkiffabGreatDoor
open Go.ChangeShapes Go.WideShapes Go.ChangeAt Go.RowKit
open Na Ar Ep
set_option linter.unusedVariables false
namespace Ep
/-- a whole number of tens to the -n, in so many digits -/
def ptL (M W n : Nat) : List UInt8 := if n = 0 then dg M W else dg (M - n) (W / 10 ^ n) ++ (46 :: dg n W)
end Ep
theorem slice_tail13 (g : Nat) {M l : Nat} (h : l ≤ M) (W : World) : (Instr.slice 45 (.slice (some ⟨g, 0, none⟩) M M) (some (.int .i64 ((M - l : Nat) : Int))) none none).run Tryz.prog W = .ok (.slice (some (if M = M - l then (⟨g, 0, none⟩ : Addr) else ⟨g, M - l, none⟩)) l l) W := by
  have hz : ∀ w, (Go.sizeOf 5).run Tryz.prog w = .ok 1 w := fun w => by
    obtain ⟨i, hi, hz0, hz1, hz2⟩ := info_parts info8
    simp [Go.sizeOf, typeInfo, hi, hz1]
  have he : Tryz.prog.elem 45 = 5 := by simp [Program.elem, Tryz.underlying45]
  have ht' : Tryz.prog.underlying 45 = some (.slice (Tryz.prog.elem 45)) := by rw [he]; exact Tryz.underlying45
  rw [run_slice_l W 45 _ _ _ ht' .i64 _ (by omega) (by omega), he, hz]
  have e : M - (M - l) = l := by omega
  by_cases h0 : M = M - l
  · simp only [Result.andThen, sliced, Int.toNat_natCast, e]
    have h1 : l = 0 ∨ M = 0 := by omega
    rw [if_pos h0]
    by_cases hl : l = 0
    · simp [hl]
    · have : M = 0 := by omega
      subst this
      have : l = 0 := by omega
      exact absurd this hl
  · simp only [Result.andThen, sliced, Int.toNat_natCast, e]
    rw [if_neg h0]
    by_cases h1 : M - l = 0
    · simp [h1, Addr.add]
    · simp [Addr.add, h0, h1]
set_option maxHeartbeats 3200000 in
set_option maxRecDepth 100000 in
theorem pointed13_any {w : World} {a : Option Addr} {l c W n M : Nat} (hr0 : Rb w a l c (dg l W)) (hW : W < 10 ^ l) (hl : l ≤ 4000) (hn : n ≤ 2000) (hM : M = max l (n + 1)) :
    Calls Tryz.prog 44 #[.slice a l c, .int .i64 (n : Int)] w fun e w' => e = .returned (.string ⟨(ptL M W n).toArray⟩) ∧ Below w.heap.size w w' := by
  obtain ⟨i_u8, hi_u8, hz0_u8, hz1_u8, hz2_u8⟩ := info_parts info8
  have hM1 : l ≤ M ∧ n + 1 ≤ M ∧ M ≤ 4000 := by omega
  have hmax : max (l : Int) ((n : Int) + 1) = (M : Int) := by omega
  have hZ := fun w => zeros13_any (n := M) (by omega) (by omega) w
  have e1 : (M : Int) - (l : Int) = ((M - l : Nat) : Int) := by omega
  have e2 : (M : Int) - (n : Int) = ((M - n : Nat) : Int) := by omega
  have HRow : Hid (List.replicate (M - l) 48 ++ dg l W = dg M W) := by
    show _ = _
    rw [← dg_pad (M - l) hW, show M - l + l = M by omega]
  have q0 : (n : Int) ≤ 2000 := by omega
  have q1 : ((M - l : Nat) : Int) ≤ (M : Int) := by omega
  have q2 : (M : Int) ≤ 4000 := by omega
  have HM : Hid (M = max l (n + 1)) := hM
  clear hM hW
  have hcut := fun (w : World) (g : Nat) (h : Rb w (some ⟨g, 0, none⟩) M M (dg M W)) => (by
    have := cut13_any h (n := M - n) (by omega)
    rw [dg_take (by omega), dg_drop (by omega), show M - (M - n) = n by omega] at this
    exact this : Calls Tryz.prog 23 #[.slice (some ⟨g, 0, none⟩) M M, .int .i64 ((M - n : Nat) : Int)] w fun e w' => ∃ a1 a2, e = .returned (.tuple #[.slice a1 (M - n) (M - n), .slice a2 n n]) ∧ Rb w' a1 (M - n) (M - n) (dg (M - n) (W / 10 ^ n)) ∧ Rb w' a2 n n (dg n W) ∧ Below w.heap.size w w')
  have hcopy : ∀ (w1 : World) (base g : Nat), Wr w1 base g M (List.replicate M 48) → Rb w1 a l c (dg l W) → ∃ w2, (Builtin.copy_ #[45, 45] 3 #[.slice (some (if M = M - l then ⟨g, 0, none⟩ else ⟨g, M - l, none⟩)) l l, .slice a l c]).run Tryz.prog w1 = .ok (goInt l) w2 ∧ Rb w2 (some ⟨g, 0, none⟩) M M (dg M W) ∧ Below base w1 w2 := by
    intro w1 base g hWr hR
    by_cases h0 : l = 0
    · subst h0
      obtain ⟨w2, hr, hW2, hb⟩ := hWr.copy hR (o := 0) (dLen := 0) (dCap := 0) (Nat.le_refl _) (by omega) 3
      refine ⟨w2, by rw [if_pos (by omega)]; exact hr, ?_, hb⟩
      have := hW2.row (c := M) (Nat.le_refl _) (by omega)
      rw [← HRow.out]
      simpa [dg] using this
    · obtain ⟨w2, hr, hW2, hb⟩ := hWr.copy hR (o := M - l) (dLen := l) (dCap := l) (Nat.le_refl _) (by omega) 3
      refine ⟨w2, by rw [if_neg (by omega)]; exact hr, ?_, hb⟩
      have := hW2.row (c := M) (Nat.le_refl _) (by omega)
      rw [List.take_replicate, Nat.min_eq_left (by omega), List.drop_of_length_le (by simp; omega), List.append_nil, HRow.out] at this
      exact this
  go_enter Tryz.func44, Tryz.ntmps44
  go_wp2_with fail
  all_goals
    (first | (have eM : (l : Int) = (M : Int) := by omega
              rw [eM]; clear eM) | (have eM : (n : Int) + 1 = (M : Int) := by omega
                                    rw [eM]; clear eM))
    refine (hZ _).mono ?_
    rintro e w1 ⟨g, rfl, hWr, hb1⟩
    obtain ⟨w2, hr2, hR2, hb2⟩ := hcopy w1 _ g hWr (hr0.later hb1)
    have hC := hcut w2 g hR2
    have hB2 : Below w.heap.size w w2 := hb1.trans hb2
    have hsl := slice_tail13 g (M := M) (l := l) (by omega)
    generalize (if M = M - l then (⟨g, 0, none⟩ : Addr) else ⟨g, M - l, none⟩) = D at hr2 hsl
    clear hZ hcopy hcut hWr hb1 hb2 hmax
    go_wp2_with (first | (at_builtin; refine wpList_copy8 rfl _ _ 45 45 rfl _ _ rfl rfl hr2 ?_) | fail)
    refine hC.mono ?_
    rintro e w3 ⟨a1, a2, rfl, h1, h2, hb3⟩
    have hB3 := hB2.trans (hb3.mono hB2.size)
    clear hC hr2 hR2 hb3 hB2 hsl
    by_cases hn0 : n = 0
    · have hz : ((n : Int) == 0) = true := by simp; omega
      have HP : Hid (ptL M W n = dg (M - n) (W / 10 ^ n)) := by
        show _ = _
        unfold ptL
        rw [if_pos hn0, hn0]
        simp
      have hcv := conv8 h1
      generalize dg (M - n) (W / 10 ^ n) = LL at hcv HP
      clear h2 h1 hn0
      go_wp2
      go_ret
      exact ⟨by rw [HP.out]; rfl, hB3⟩
    · have hz : ((n : Int) == 0) = false := by simp; omega
      have HP : Hid (ptL M W n = dg (M - n) (W / 10 ^ n) ++ [46] ++ dg n W) := by
        show _ = _
        unfold ptL
        rw [if_neg hn0, List.append_assoc]
        rfl
      obtain ⟨g1, o1, rfl, _, _⟩ := h1.cells (by omega)
      obtain ⟨g2, o2, rfl, _, _⟩ := h2.cells (by omega)
      have hba := alloc_below (w := w3) (.cells #[.int .u8 46] 5)
      have hO := own_one (w := w3) (base := w3.heap.size) 46 (Nat.le_refl _)
      obtain ⟨ad, cd, hd, hlit⟩ := rb_own (l := [46]) hO
      simp only [Value.slice.injEq] at hd
      obtain ⟨rfl, h46, rfl⟩ := hd
      clear h46
      have hlit1 : Rb (w3.alloc (.cells #[.int .u8 46] 5)) (some ⟨w3.heap.size, 0, none⟩) 1 1 [46] := hlit
      obtain ⟨v4, w4, hr4, hO4, hb4⟩ := append8 (h1.later hba) hlit1 (by omega) (by omega) 45
      have h2b := (h2.later hba).later hb4
      have hB4 : Below w.heap.size w w4 := (hB3.trans (hba.mono hB3.size)).trans (hb4.mono (by have := hB3.size; simp; omega))
      have hl4 : (dg (M - n) (W / 10 ^ n) ++ [46]).length = M - n + 1 := by rw [List.length_append, dg_len]; rfl
      have hOw := (hO4.wider (base' := w.heap.size) (by have := hB3.size; simp; omega)).row
      have hsrc : ∀ (j : Nat) u, ((nz (dg n W)).map (Value.int .u8))[j]? = some u → w4.cell? ((⟨g2, o2, none⟩ : Addr).add j) = some u := fun jj u hj => by
        rw [List.getElem?_map] at hj
        obtain ⟨x, hx, rfl⟩ := Option.map_eq_some_iff.1 hj
        exact h2b.add jj x hx
      have hsl2 : ((nz (dg n W)).map (Value.int .u8)).length = n * 1 := by rw [List.length_map, h2b.1.1, Nat.mul_one]
      have hone : ∀ u ∈ (nz (dg n W)).map (Value.int .u8), u.oneCell' = true := fun u hu => by obtain ⟨x, _, rfl⟩ := List.mem_map.1 hu; rfl
      have hl5 : (nz (dg (M - n) (W / 10 ^ n) ++ [46])).length + n ≤ 5000 := by rw [nz_len, hl4]; omega
      obtain ⟨v5, w5, hr5, hO5, hg5, _⟩ := run_append_own (P := Tryz.prog) w4 w.heap.size 45 45 5 i_u8 (.int .u8 0) 1 1 Tryz.underlying45 hi_u8 hz0_u8 hz1_u8 hz2_u8 rfl (by decide) _ _ _ hOw ⟨g2, o2, none⟩ n n _ hsl2 hsrc hone (by unfold maxLen; omega) (by omega) hB4.size
      have hB5 : Below w.heap.size w w5 := hB4.grown hg5 hB4.size (fun k hk => (hOw.lt k hk).1)
      have hO5' : Own .u8 w5 w.heap.size 5 v5 (nz (dg (M - n) (W / 10 ^ n) ++ [46] ++ dg n W)) := by
        unfold Own
        rw [nz_app (dg (M - n) (W / 10 ^ n) ++ [46]), List.length_append, List.map_append, h2b.1.1]
        exact hO5
      obtain ⟨a5, c5, rfl, hR5⟩ := rb_own hO5'
      have hcv := conv8 hR5
      obtain ⟨N5, hN5⟩ : ∃ N5, N5 = (dg (M - n) (W / 10 ^ n) ++ [46] ++ dg n W).length := ⟨_, rfl⟩
      rw [← hN5] at hcv hr5
      clear hN5 hR5 hl4 h2b hn0
      generalize dg (M - n) (W / 10 ^ n) ++ [46] ++ dg n W = LL at hcv HP
      clear h1 h2 hba hO hlit hlit1 hb4 hB3 hOw hsrc hsl2 hone hl5 hO5 hO5' hg5 hO4
      go_wp2_with (at_builtin; first | refine wpList_append8 rfl _ _ 45 rfl _ _ rfl rfl hr4 ?_ | refine wpList_append8 rfl _ _ 45 rfl _ _ rfl rfl hr5 ?_)
      go_ret
      exact ⟨by rw [HP.out]; rfl, hB5⟩
end Go.Proofs.YtceecgklgkiffabGreatDoor


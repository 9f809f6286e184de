/- Layer 13: bytes.Repeat, zeros. -/
import Derived.Test.YtceecgklgkiffaaGreatDoorExpA
import Derived.Deep.RegionHeldLaw
import Derived.Deep.LoopGhost
namespace Go.Proofs.YtceecgklgkiffaaGreatDoor
open Go.ChangeShapes Go.WideShapes Go.ChangeAt Go.RowKit
open Na Ar Ep
set_option linter.unusedVariables false
/-- memory that is filled from the front -/
structure Pw (w : World) (base g n : Nat) (l : List UInt8) : Prop where
  lo : base ≤ g
  hi : g < w.heap.size
  len : l.length ≤ n
  there : ∀ i, i < n → (w.cell? ⟨g, i, none⟩).isSome = true
  cell : ∀ i, i < l.length → w.cell? ⟨g, i, none⟩ = some (.int .u8 ((l.getD i 0).toNat : Int))
  free : ∀ i, i < n → w.frozen? ⟨g, i, none⟩ = false
theorem Pw.later {w w' : World} {base g n : Nat} {l : List UInt8} (h : Pw w base g n l) (hb : Below w.heap.size w w') : Pw w' base g n l :=
  ⟨h.lo, Nat.lt_of_lt_of_le h.hi hb.size, h.len, fun i hi => by rw [hb.cell (p := ⟨g, i, none⟩) h.hi]; exact h.there i hi, fun i hi => (hb.cell (p := ⟨g, i, none⟩) h.hi).trans (h.cell i hi), fun i hi => (World.frozen?_of_block (a := ⟨g, i, none⟩) (hb.block g h.hi)).trans (h.free i hi)⟩
theorem Pw.full {w : World} {base g n : Nat} {l : List UInt8} (h : Pw w base g n l) (hn : l.length = n) : Wr w base g n l :=
  ⟨h.lo, h.hi, hn, fun i hi => h.cell i (by omega), h.free⟩
theorem Pw.row {w : World} {base g n : Nat} {l : List UInt8} (h : Pw w base g n l) {k c : Nat} (hk : k ≤ l.length) (hc : k ≤ c) (hc' : c ≤ 9223372036854775807) : Rb w (some ⟨g, 0, none⟩) k c (l.take k) :=
  ⟨⟨by rw [nz_len, List.length_take]; omega, Or.inr ⟨g, 0, rfl, h.hi, fun i hi => by rw [nz_at, Nat.zero_add, h.cell i (by omega), List.getD_eq_getElem?_getD, List.getD_eq_getElem?_getD, List.getElem?_take_of_lt hi]⟩⟩, hc, hc'⟩
theorem Pw.copy {w : World} {base g n : Nat} {l : List UInt8} (h : Pw w base g n l) {dLen dCap m c k : Nat} {sa : Option Addr} {s : List UInt8} (hs : Rb w sa m c s) (hd : l.length + dLen = n) (hk : k = Nat.min m dLen) (h0 : 0 < m) (ty : TypeId) :
    ∃ w', (Builtin.copy_ #[60, 60] ty #[.slice (some ⟨g, l.length, none⟩) dLen dCap, .slice sa m c]).run Tryz.prog w = .ok (goInt k) w' ∧ Pw w' base g n (l ++ s.take k) ∧ Below base w w' := by
  have hsl := hs.len
  have hkl : (s.take k).length = k := by rw [List.length_take, hk, hsl]; exact Nat.min_eq_left (Nat.min_le_left _ _)
  have hkd : k ≤ dLen := by rw [hk]; exact Nat.min_le_right _ _
  have hkm : k ≤ m := by rw [hk]; exact Nat.min_le_left _ _
  obtain ⟨sg, so, rfl, hsg, hsc⟩ := hs.cells h0
  have hlen : ((nz (s.take k)).map (Value.int .u8)).length = k := by rw [List.length_map, nz_len, hkl]
  have hr := run_copy_cells (P := Tryz.prog) w 60 60 ty 5 g l.length dLen dCap ⟨sg, so, none⟩ m c ((nz (s.take k)).map (Value.int .u8)) Tryz.underlying60 size8 (by rw [hlen]; exact hk)
    (fun j u hj => by
      rw [List.getElem?_map] at hj
      obtain ⟨x, hx, rfl⟩ := Option.map_eq_some_iff.1 hj
      refine hs.add j x ?_
      rw [nz_take] at hx
      by_cases q : j < k
      · rwa [List.getElem?_take_of_lt q] at hx
      · rw [List.getElem?_eq_none (by rw [List.length_take]; omega)] at hx; cases hx)
    (fun j hj => h.there _ (by rw [hlen] at hj; omega)) (fun j hj => h.free _ (by rw [hlen] at hj; omega))
    (fun u hu => by obtain ⟨x, _, rfl⟩ := List.mem_map.1 hu; rfl)
  rw [hlen] at hr
  refine ⟨_, hr, ?_, ?_⟩
  · have hin := World.cell?_setCells_in g ((nz (s.take k)).map (Value.int .u8)) l.length w (fun j hj => h.there _ (by rw [hlen] at hj; omega))
    have hout := World.cell?_setCells_out g ((nz (s.take k)).map (Value.int .u8)) l.length w
    have hat : ∀ i, i < k → (w.setCells g l.length ((nz (s.take k)).map (Value.int .u8))).cell? ⟨g, l.length + i, none⟩ = some (.int .u8 (((s.take k).getD i 0).toNat : Int)) := fun i hi => by
      have e2 : (nz (s.take k))[i]'(by rw [nz_len]; omega) = (nz (s.take k)).getD i 0 := by
        rw [List.getD_eq_getElem?_getD, List.getElem?_eq_getElem (by rw [nz_len]; omega)]
        rfl
      rw [hin i (by omega), List.getElem_map, e2, nz_at]
    refine ⟨h.lo, ?_, by rw [List.length_append, hkl]; omega, fun i hi => ?_, fun i hi => ?_, fun i hi => by rw [World.frozen?_setCells]; exact h.free i hi⟩
    · have : ∀ (vs : List Value) (o : Nat) (w : World), (w.setCells g o vs).heap.size = w.heap.size := fun vs => by
        induction vs with
        | nil => intro o w; rfl
        | cons v r ih => intro o w; rw [World.setCells, ih]; simp [World.setCell]
      rw [this]
      exact h.hi
    · by_cases q : l.length ≤ i ∧ i < l.length + k
      · obtain ⟨d, rfl⟩ : ∃ d, i = l.length + d := ⟨i - l.length, by omega⟩
        rw [hat d (by omega)]
        rfl
      · rw [hout ⟨g, i, none⟩ (fun _ _ => by rw [hlen]; show i < _ ∨ _ ≤ i; omega)]
        exact h.there i hi
    · rw [List.length_append, hkl] at hi
      by_cases q : l.length ≤ i
      · obtain ⟨d, rfl⟩ : ∃ d, i = l.length + d := ⟨i - l.length, by omega⟩
        rw [hat d (by omega), List.getD_eq_getElem?_getD, List.getD_eq_getElem?_getD, List.getElem?_append_right (by omega), Nat.add_sub_cancel_left]
      · rw [hout ⟨g, i, none⟩ (fun _ _ => by rw [hlen]; show i < _ ∨ _ ≤ i; omega), h.cell i (by omega), List.getD_eq_getElem?_getD, List.getD_eq_getElem?_getD, List.getElem?_append_left (by omega)]
  · have : ∀ (vs : List Value) (o : Nat) (w' : World), Below base w w' → Below base w (w'.setCells g o vs) := fun vs => by
      induction vs with
      | nil => intro o w' hb; exact hb
      | cons v r ih => intro o w' hb; exact ih (o + 1) _ (hb.setCell (p := ⟨g, o, none⟩) h.lo v)
    exact this _ _ _ (Below.refl _ _)
namespace Ep
theorem and32 {n : Int} (h0 : 0 ≤ n) (h1 : n < 4294967296) : bits BinOp.and IntKind.u64 n 4294967295 = n := by
  rw [and_half ⟨h0, by omega⟩]
  omega
end Ep
set_option maxHeartbeats 1600000 in
set_option maxRecDepth 100000 in
theorem mul64_one {n : Int} (h0 : 0 ≤ n) (h1 : n ≤ 8000) (w : World) :
    Calls Tryz.prog 192 #[.int .u64 1, .int .u64 n] w fun e w' => e = .returned (.tuple #[.int .u64 0, .int .u64 n]) ∧ w' = w := by
  have a1 := and32 (n := n) h0 (by omega)
  have a2 := and32 (n := 1) (by omega) (by omega)
  have a3 := and32 (n := 0) (by omega) (by omega)
  have a4 : n / 4294967296 = 0 := by omega
  go_enter Tryz.func192, Tryz.ntmps192
  go_wp2
  go_ret2
  exact ⟨rfl, rfl⟩
set_option maxHeartbeats 1600000 in
set_option maxRecDepth 100000 in
theorem bMul_one {n : Int} (h0 : 0 ≤ n) (h1 : n ≤ 8000) (w : World) :
    Calls Tryz.prog 159 #[.int .u64 1, .int .u64 n] w fun e w' => e = .returned (.tuple #[.int .u64 0, .int .u64 n]) ∧ w' = w := by
  have hM := mul64_one h0 h1
  go_enter Tryz.func159, Tryz.ntmps159
  go_wp2_with (refine (hM _).mono ?_; rintro e w' ⟨rfl, rfl⟩)
  go_ret2
  exact ⟨rfl, rfl⟩
theorem makeNoZero8 {w : World} {n : Nat} (h : n ≤ 8000) : ∃ c, n ≤ c ∧ c ≤ 9223372036854775807 ∧ ∃ w', (callFunc 160 #[.int .i64 (n : Int)]).run Tryz.prog w = .ok (.value (.slice (some ⟨w.heap.size, 0, none⟩) n c)) w' ∧ Pw w' w.heap.size w.heap.size n [] ∧ Below w.heap.size w w' := by
  obtain ⟨cs, hr, hle, hm⟩ := Lib.run_makeNoZero (P := Tryz.prog) w #[3] 60 5 Tryz.underlying60 n (by omega)
  have hm' := hm (by unfold maxLen; omega)
  refine ⟨cs.size, hle, by unfold maxLen at hm'; omega, w.drew.drew.alloc (.cells cs 5), ?_, ?_, ?_⟩
  · rw [run_callFunc_extern Tryz.func160 (by kernel_rfl) (by kernel_rfl) (by kernel_rfl) (e := Extern.BytealgMakeNoZero.makeNoZero #[3] #[60]) (by kernel_rfl), hr]
    rfl
  · refine ⟨Nat.le_refl _, by simp, Nat.zero_le _, fun i hi => ?_, fun i hi => by simp at hi, fun i hi => ?_⟩
    · have := World.cell?_alloc_mark w.drew.drew cs 5 (0, 0) i
      have e : w.drew.drew.heap.size = w.heap.size := rfl
      rw [e] at this
      rw [this, Array.getElem?_eq_getElem (by omega)]
      rfl
    · have := World.frozen?_alloc_mark w.drew.drew cs 5 0 0 i
      have e : w.drew.drew.heap.size = w.heap.size := rfl
      rw [e] at this
      rw [this]
      simp
  · exact ⟨rfl, rfl, rfl, by simp, fun k hk => heap_alloc_old w.drew.drew _ hk⟩
theorem step_copyPw {w : World} {ops : Array Oper} {o : Oper} {a : Act} {K : Act → World → Prop} {Q : Exit → Act → World → Prop} {E : Prop} (hgd : o.guard = none) (d s : Operand)
    (ho : o.op = .call { callee := .builtin .copy, args := #[d, s], argTypes := #[60, 60] }) {base g n : Nat} {l : List UInt8} (h : Pw w base g n l) {b dLen dCap m c k : Nat} {sa : Option Addr} {t : List UInt8} (hs : Rb w sa m c t) (hd : l.length + dLen = n) (hk : k = Nat.min m dLen) (h0 : 0 < m) (hb : b = l.length) {ds : Option Nat} (hds : o.dst = ds)
    (e1 : a.eval d = .slice (some ⟨g, b, none⟩) dLen dCap) (e2 : a.eval s = .slice sa m c) (hh : ∀ w', Pw w' base g n (l ++ t.take k) → Below base w w' → K (a.put ds (goInt k)) w') : if Region.wanted o (yielded ops a.tmps) = true then Oper.wp Tryz.prog o a w K Q else E := by
  subst hb
  subst hds
  obtain ⟨w', hr, hp, hb⟩ := h.copy hs hd hk h0 o.type (dCap := dCap)
  exact step_copy8 hgd d s 60 60 ho _ _ e1 e2 hr (hh w' hp hb)
set_option maxHeartbeats 3200000 in
set_option maxRecDepth 100000 in
theorem repeat_any {w : World} {a : Option Addr} {c0 n : Nat} {x : UInt8} (h : Rb w a 1 c0 [x]) (h1 : 1 ≤ n) (h2 : n ≤ 8000) :
    Calls Tryz.prog 119 #[.slice a 1 c0, .int .i64 (n : Int)] w fun e w' => ∃ g, e = .returned (.slice (some ⟨g, 0, none⟩) n n) ∧ Wr w' w.heap.size g n (List.replicate n x) ∧ Below w.heap.size w w' := by
  have hM := fun w => bMul_one (n := (n : Int)) (by omega) (by omega) w
  obtain ⟨c, hc, hc9, w1, hrun, hP, hb1⟩ := makeNoZero8 (w := w) h2
  have z1 : ((n : Int) == 0) = false := by simp; omega
  have z2 : (n : Int) ≤ 8000 := by omega
  have z3 : (1 : Int) ≤ n := by omega
  have z4 : (n : Int) ≤ (c : Int) := by omega
  obtain ⟨g, hg⟩ : ∃ g, g = w.heap.size := ⟨_, rfl⟩
  have HG : Hid (w.heap.size = g) := hg.symm
  rw [← hg] at hrun hP
  obtain ⟨w2, hr2, hP2, hb2⟩ := hP.copy (dLen := n) (dCap := n) (k := 1) (h.later hb1) (by simp) (by show 1 = min 1 n; omega) (by omega) 3
  rw [List.length_nil] at hr2
  rw [List.nil_append] at hP2
  have hB2 : Below w.heap.size w w2 := hb1.trans (by rw [← hg]; exact hb2)
  have HL : Hid (([x] : List UInt8).take 1 = List.replicate 1 x) := by show _ = _; rfl
  rw [HL.out] at hP2
  clear hP hb1 hb2 hg
  go_enter Tryz.func119, Tryz.ntmps119
  go_wp2_with fail
  refine (hM _).mono ?_
  rintro e w9 ⟨rfl, rfl⟩
  clear hM h
  go_wp2_with (first | (at_builtin; refine wpList_copy8 rfl _ _ 60 60 rfl _ _ rfl rfl hr2 ?_))
  clear hr2 hrun
  go_loopg [10] n (fun k s10 wr => ∃ b : Nat, s10 = .int .i64 (b : Int) ∧ 1 ≤ b ∧ b ≤ n ∧ n - b ≤ k ∧ Pw wr g g n (List.replicate b x) ∧ Below w9.heap.size w9 wr)
  case atStart => exact ⟨1, rfl, Nat.le_refl _, h1, by omega, hP2, hB2⟩
  case round =>
    obtain ⟨b, rfl, hb1, hbn, hk, hP, hB⟩ := hrel
    clear hP2 hB2
    by_cases hlt : b < n
    · have hm : min (b : Int) (n : Int) = (b : Int) := by omega
      have q1 : (b : Int) < (n : Int) := by omega
      have q2 : (0 : Int) ≤ (b : Int) := by omega
      have q3 : ¬ n = b := by omega
      have hR : Rb wr (some ⟨g, 0, none⟩) b n (List.replicate b x) := by
        have := hP.row (k := b) (c := n) (by rw [List.length_replicate]; exact Nat.le_refl _) (by omega) (by omega)
        rwa [List.take_of_length_le (by rw [List.length_replicate]; exact Nat.le_refl _)] at this
      obtain ⟨k, hkk⟩ : ∃ k, k = Nat.min b (n - b) := ⟨_, rfl⟩
      have hk1 : 1 ≤ k ∧ k ≤ b ∧ k ≤ n - b := by rw [hkk]; show 1 ≤ min b (n - b) ∧ min b (n - b) ≤ b ∧ min b (n - b) ≤ n - b; omega
      have HK : Hid (k = Nat.min b (n - b)) := hkk
      have HLb : Hid ((List.replicate b x).length = b) := List.length_replicate
      have HLb2 : Hid ((List.replicate b x).length + (n - b) = n) := by show _ = _; rw [HLb.out]; omega
      have HT : Hid (List.replicate b x ++ (List.replicate b x).take k = List.replicate (b + k) x) := by
        show _ = _
        rw [List.take_replicate, Nat.min_eq_left hk1.2.1, List.replicate_append_replicate]
      clear hkk
      generalize List.replicate b x = L at *
      go_wp2
      have hPd : Pw wr.drew g g n L := hP.later ⟨rfl, rfl, rfl, Nat.le_refl _, fun _ _ => rfl⟩
      have hRd : Rb wr.drew (some ⟨g, 0, none⟩) b n L := hR.later ⟨rfl, rfl, rfl, Nat.le_refl _, fun _ _ => rfl⟩
      have hBd : Below w9.heap.size w9 wr.drew := hB.trans ⟨rfl, rfl, rfl, Nat.le_refl _, fun _ _ => rfl⟩
      go_region_held_law (fun w' => True) (trivial) ((refine step_copyPw rfl (.tmp 70) (.tmp 73) rfl hPd (k := k) (b := b) (dLen := n - b) (dCap := n - b) hRd HLb2.out HK.out (by omega) HLb.out.symm (ds := some 74) rfl rfl rfl ?_; intro w3 hP3 hB3))
      have hB4 : Below w9.heap.size w9 w3 := hBd.trans (by rw [HG.out]; exact hB3)
      have HBK : Hid ((b : Int) + (k : Int) = ((b + k : Nat) : Int)) := by show _ = _; omega
      rw [HT.out] at hP3
      clear hPd hRd hBd hB3 hP hR hB HT
      have q8 : (k : Int) ≤ 8000 := by omega
      go_wp2
      go_roundg (n - (b + k))
      case measure => omega
      case rel => exact ⟨b + k, by first | rfl | (rw [HBK.out]; rw [IntWalk.i64_in _ (by omega)]), by omega, by omega, by omega, hP3, hB4⟩
    · obtain rfl : n = b := by omega
      have hW := hP.full List.length_replicate
      have HGl : Hid (w9.heap.size = g) := HG
      clear hP
      go_wp2
      go_ret
      exact ⟨g, rfl, hW.rebase (by rw [HGl.out]; exact Nat.le_refl _), hB⟩
set_option maxHeartbeats 1600000 in
set_option maxRecDepth 100000 in
theorem zeros13_any {n : Nat} (h1 : 1 ≤ n) (h2 : n ≤ 8000) (w : World) :
    Calls Tryz.prog 71 #[.int .i64 (n : Int)] w fun e w' => ∃ g, e = .returned (.slice (some ⟨g, 0, none⟩) n n) ∧ Wr w' w.heap.size g n (List.replicate n 48) ∧ Below w.heap.size w w' := by
  obtain ⟨w1, hw1⟩ : ∃ w1, w1 = w.alloc (.cells #[.int .u8 48] 5) := ⟨_, rfl⟩
  have hb1 : Below w.heap.size w w1 := by rw [hw1]; exact alloc_below _
  have h5 : Rb w1 (some ⟨w.heap.size, 0, none⟩) 1 1 [48] := ⟨⟨rfl, Or.inr ⟨w.heap.size, 0, rfl, by rw [hw1]; simp, fun i hi => by
    have : i = 0 := by omega
    subst this
    rw [hw1]
    simp [nz]⟩⟩, Nat.le_refl _, by omega⟩
  have hR := repeat_any h5 h1 h2
  go_enter Tryz.func71, Tryz.ntmps71
  go_wp2_with fail
  rw [← hw1]
  refine hR.mono ?_
  rintro e w2 ⟨g, rfl, hW, hb2⟩
  clear hw1 hR
  have hW2 := hW.rebase hb1.size
  have hb3 := hb1.trans (hb2.mono hb1.size)
  go_wp2
  go_ret
  exact ⟨g, rfl, hW2, hb3⟩
end Go.Proofs.YtceecgklgkiffaaGreatDoor

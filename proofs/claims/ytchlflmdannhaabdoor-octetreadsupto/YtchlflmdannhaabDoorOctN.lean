/- Layer 16: the document's reader; two readers in turns; OctetReads. -/
import Derived.Test.YtchlflmdannhaabDoorOctJ
import Derived.Test.YtchlflmdannhaabDoorItArg
import Derived.Deep.RegionWith
import Derived.Deep.DeepCutAuto
namespace Go.Proofs.YtchlflmdannhaabDoor
open Go.ChangeShapes Go.WideShapes Go.ChangeAt Go.RowKit
open Ep Oc
set_option linter.unusedVariables false
/-- a block with no bytes in it, and no number at its beginning -/
def NB (w : World) (g : Nat) : Prop := (∀ k v, w.cell? ⟨g, k, none⟩ ≠ some (.int .u8 v)) ∧ ∀ v, w.cell? ⟨g, 0, none⟩ ≠ some (.int .i64 v)
theorem Rb.offN {w : World} {a : Option Addr} {n c : Nat} {l : List UInt8} (h : Rb w a n c l) {g : Nat} (hs : NB w g) (hn : 0 < n) : Off a g := by
  obtain ⟨bb, o, rfl, hlt, hc⟩ := h.cells hn
  refine off_of fun e => ?_
  subst e
  exact hs.1 _ _ (hc 0 hn)
theorem FaultAt.offN {w : World} {f : Nat} {p e : Int} (h : FaultAt w f p e) {g : Nat} (hs : NB w g) : f ≠ g := by
  rintro rfl
  exact hs.2 _ h.1
theorem S3.nb {w : World} {g : Nat} {t : TypeId} {a : Option Addr} {n c : Nat} {k : Int} {p : Option Addr} (h : S3 w g t (.slice a n c) (.int .i64 k) (.pointer p)) : NB w g := by
  obtain ⟨e0, e1, e2⟩ := h.cells
  refine ⟨fun j v hj => ?_, fun v hj => ?_⟩
  · rcases (by omega : j = 0 ∨ j = 1 ∨ j = 2 ∨ 3 ≤ j) with rfl | rfl | rfl | q
    · rw [e0] at hj; cases hj
    · rw [e1] at hj; cases hj
    · rw [e2] at hj; cases hj
    · rw [h.far q] at hj; cases hj
  · rw [e0] at hj; cases hj
theorem Rd.nb {w : World} {g : Nat} {l : List UInt8} {k : Nat} {F : Bool} (h : Rd w g l k F) : NB w g := by
  obtain ⟨a, n, c, p, h1, _⟩ := h
  exact h1.nb
theorem Rd.keep {w w' : World} {g g' : Nat} {l : List UInt8} {k : Nat} {F : Bool} (h : Rd w g l k F) (hs : NB w g') (hne : g ≠ g') (hi : In g' (g' + 1) w w') : Rd w' g l k F := by
  obtain ⟨a, n, c, p, h1, h2, h3, h4, h5⟩ := h
  refine ⟨a, n, c, p, h1.inn hi (by omega), h2.inn hi (fun hn => h2.offN hs hn), h3, h4, ?_⟩
  rcases h5 with h5 | ⟨h5, f, e, hF⟩
  · exact Or.inl h5
  · exact Or.inr ⟨h5, f, e, hF.inn hi (hF.offN hs)⟩
/-- a block of four cells -/
def S4 (w : World) (g : Nat) (t : TypeId) (x y z u : Value) : Prop := w.heap[g]? = some (.cells #[x, y, z, u] t (0, 0))
theorem S4.lt {w : World} {g : Nat} {t : TypeId} {x y z u : Value} (h : S4 w g t x y z u) : g < w.heap.size := by
  by_cases hlt : g < w.heap.size
  · exact hlt
  · unfold S4 at h; simp [Array.getElem?_eq_none (Nat.le_of_not_lt hlt)] at h
theorem S4.cells {w : World} {g : Nat} {t : TypeId} {x y z u : Value} (h : S4 w g t x y z u) : w.cell? ⟨g, 0, none⟩ = some x ∧ w.cell? ⟨g, 1, none⟩ = some y ∧ w.cell? ⟨g, 2, none⟩ = some z ∧ w.cell? ⟨g, 3, none⟩ = some u := by
  unfold S4 at h
  simp [World.cell?, h]
theorem S4.far {w : World} {g : Nat} {t : TypeId} {x y z u : Value} (h : S4 w g t x y z u) {k : Nat} (hk : 4 ≤ k) : w.cell? ⟨g, k, none⟩ = none := by
  unfold S4 at h
  have : ¬ k < 4 := by omega
  simp [World.cell?, h, this]
theorem S4.frozen {w : World} {g : Nat} {t : TypeId} {x y z u : Value} (h : S4 w g t x y z u) (k : Nat) : w.frozen? ⟨g, k, none⟩ = false := by
  unfold S4 at h
  simp [World.frozen?, h]
theorem S4.later {w w' : World} {g : Nat} {t : TypeId} {x y z u : Value} (h : S4 w g t x y z u) (hb : Below w.heap.size w w') : S4 w' g t x y z u := by unfold S4; rw [hb.block g h.lt]; exact h
theorem S4.inn {w w' : World} {g a b : Nat} {t : TypeId} {x y z u : Value} (h : S4 w g t x y z u) (hi : In a b w w') (hd : g < a ∨ b ≤ g) : S4 w' g t x y z u := by unfold S4; rw [hi.block g h.lt hd]; exact h
theorem S4.new (w : World) (t : TypeId) (x y z u : Value) : S4 (w.alloc (.cells #[x, y, z, u] t)) w.heap.size t x y z u := heap_alloc_new _ _
theorem S4.set1 {w : World} {g : Nat} {t : TypeId} {x y z u : Value} (h : S4 w g t x y z u) (v : Value) : S4 (w.setCell ⟨g, 1, none⟩ v) g t x v z u := by
  unfold S4 at h ⊢
  simp [World.setCell, Array.getElem?_modify, h]
theorem S4.set2 {w : World} {g : Nat} {t : TypeId} {x y z u : Value} (h : S4 w g t x y z u) (v : Value) : S4 (w.setCell ⟨g, 2, none⟩ v) g t x y v u := by
  unfold S4 at h ⊢
  simp [World.setCell, Array.getElem?_modify, h]
theorem S4.set3 {w : World} {g : Nat} {t : TypeId} {x y z u : Value} (h : S4 w g t x y z u) (v : Value) : S4 (w.setCell ⟨g, 3, none⟩ v) g t x y z v := by
  unfold S4 at h ⊢
  simp [World.setCell, Array.getElem?_modify, h]
theorem S4.nb {w : World} {g : Nat} {t : TypeId} {a : Option Addr} {n c : Nat} {k p q : Int} (h : S4 w g t (.slice a n c) (.int .i64 k) (.int .i64 p) (.int .i64 q)) : NB w g := by
  obtain ⟨e0, e1, e2, e3⟩ := h.cells
  refine ⟨fun j v hj => ?_, fun v hj => ?_⟩
  · rcases (by omega : j = 0 ∨ j = 1 ∨ j = 2 ∨ j = 3 ∨ 4 ≤ j) with rfl | rfl | rfl | rfl | q
    · rw [e0] at hj; cases hj
    · rw [e1] at hj; cases hj
    · rw [e2] at hj; cases hj
    · rw [e3] at hj; cases hj
    · rw [h.far q] at hj; cases hj
  · rw [e0] at hj; cases hj
/-- the document's error number and its place -/
def Oc.eN (F : Bool) : Int := if F then 160 else 0
def Oc.eP (F : Bool) (k : Nat) : Int := if F then (k : Int) else 0
/-- block g is the document's reader -/
def Rr (w : World) (g : Nat) (l : List UInt8) (k : Nat) (F : Bool) : Prop :=
  ∃ a n c, S4 w g 35 (.slice a n c) (.int .i64 (k : Int)) (.int .i64 (eN F)) (.int .i64 (eP F k)) ∧ Rb w a n c l ∧ k ≤ n ∧ n ≤ 100000000
theorem Rr.nb {w : World} {g : Nat} {l : List UInt8} {k : Nat} {F : Bool} (h : Rr w g l k F) : NB w g := by
  obtain ⟨a, n, c, h1, _⟩ := h
  exact h1.nb
theorem Rr.later {w w' : World} {g : Nat} {l : List UInt8} {k : Nat} {F : Bool} (h : Rr w g l k F) (hb : Below w.heap.size w w') : Rr w' g l k F := by
  obtain ⟨a, n, c, h1, h2, h3, h4⟩ := h
  exact ⟨a, n, c, h1.later hb, h2.later hb, h3, h4⟩
theorem Rr.keep {w w' : World} {g g' : Nat} {l : List UInt8} {k : Nat} {F : Bool} (h : Rr w g l k F) (hs : NB w g') (hne : g ≠ g') (hi : In g' (g' + 1) w w') : Rr w' g l k F := by
  obtain ⟨a, n, c, h1, h2, h3, h4⟩ := h
  exact ⟨a, n, c, h1.inn hi (by omega), h2.inn hi (fun hn => h2.offN hs hn), h3, h4⟩
set_option maxHeartbeats 3200000 in
set_option maxRecDepth 100000 in
theorem rnumber16_any {w : World} {a : Option Addr} {n c : Nat} {l : List UInt8} {little : Bool} (h : Rb w a n c l) (hn : n ≤ 8) :
    Calls Tryd.prog 24 #[.slice a n c, .bool little] w fun e w' => e = .returned (.int .u64 ((numO l little : Nat) : Int)) ∧ w' = w := by
  have HL : Hid (l.length = n) := h.len
  have hc9 := h.2
  have HE : Hid (∀ k, n ≤ k → num ((if little then l.reverse else l).take k) = numO l little) := fun k hk => by
    unfold numO
    rw [List.take_of_length_le (by cases little <;> simp [HL.out, hk])]
  have HS : Hid (∀ k, k < n → num ((if little then l.reverse else l).take (k + 1)) = num ((if little then l.reverse else l).take k) * 256 + (l.getD (if little then n - 1 - k else k) 0).toNat) := fun k hk => by
    cases little
    · simp only [Bool.false_eq_true, if_false]
      exact num_take (by rw [HL.out]; exact hk)
    · simp only [if_true]
      rw [num_take (by rw [List.length_reverse, HL.out]; exact hk), List.getD_eq_getElem?_getD, List.getElem?_reverse (by rw [HL.out]; exact hk), HL.out, List.getD_eq_getElem?_getD]
  have HB : Hid (∀ k, k < 8 → num ((if little then l.reverse else l).take k) < 72057594037927936) := fun k hk => num_small hk
  generalize (if little then l.reverse else l) = q at *
  go_enter Tryd.func24, Tryd.ntmps24
  go_wp2
  go_loop [5, 6] (fun v i => ∃ k : Nat, k ≤ n ∧ i = .int .i64 (k : Int) ∧ v = .int .u64 ((num (q.take k) : Nat) : Int)) (fun _ i => n - (intOf i).toNat)
  case atStart => exact ⟨0, Nat.zero_le _, rfl, rfl⟩
  case round =>
    obtain ⟨k, hk, rfl, rfl⟩ := hrel
    by_cases hlt : k < n
    · obtain ⟨b, off, rfl, hbB, hc⟩ := h.cells (by omega)
      have hsm := HB.out k (by omega)
      have HN := HS.out k hlt
      cases little
      · simp only [Bool.false_eq_true, if_false] at HN
        have c1 := hc k hlt
        have hx8 := (l.getD k 0).toNat_lt
        generalize (l.getD k 0).toNat = x at *
        have HN2 : Hid (((num (q.take (k + 1)) : Nat) : Int) = ((num (q.take k) : Nat) : Int) * 256 + (x : Int)) := by show _ = _; omega
        generalize num (q.take k) = X at *
        clear hc HN
        go_wp2
        go_round
        case rel => exact ⟨k + 1, by omega, by go_num, by rw [HN2.out]⟩
        case measure => simp [intOf]; omega
      · simp only [if_true] at HN
        obtain ⟨r, hr⟩ : ∃ r, r = n - 1 - k := ⟨_, rfl⟩
        rw [← hr] at HN
        have er : (n : Int) - 1 - (k : Int) = (r : Int) := by omega
        have hrn : (r : Int) < (n : Int) := by omega
        have hr0 : (0 : Int) ≤ (r : Int) := by omega
        have c1 := hc r (by omega)
        have hx8 := (l.getD r 0).toNat_lt
        generalize (l.getD r 0).toNat = x at *
        have HN2 : Hid (((num (q.take (k + 1)) : Nat) : Int) = ((num (q.take k) : Nat) : Int) * 256 + (x : Int)) := by show _ = _; omega
        generalize num (q.take k) = X at *
        clear hc HN hr
        go_wp2
        go_round
        case rel => exact ⟨k + 1, by omega, by go_num, by rw [HN2.out]⟩
        case measure => simp [intOf]; omega
    · have HE2 := HE.out k (by omega)
      have HE3 : Hid (num (q.take k) = numO l little) := HE2
      clear HE2
      go_wp2
      go_ret
      exact ⟨ret_int (by rw [HE3.out]), rfl⟩
/-- what lies in blocks that were made since: kept wherever those are -/
def New (lo : Nat) (w : World) (P : World → Prop) : Prop := ∀ w' : World, w.heap.size ≤ w'.heap.size → (∀ k, lo ≤ k → k < w.heap.size → w'.heap[k]? = w.heap[k]?) → P w'
theorem New.this {lo : Nat} {w : World} {P : World → Prop} (h : New lo w P) : P w := h w (Nat.le_refl _) (fun _ _ _ => rfl)
theorem Ob.new {w : World} {lo : Nat} {v : Value} {l : List UInt8} (h : Ob w lo v l) : New lo w (fun w' => Ob w' lo v l) := by
  intro w' hs hk
  obtain ⟨h1, h2⟩ := h
  refine ⟨h1, ?_⟩
  rcases h2 with h2 | ⟨g, c, cur, hv, hg, hc, r⟩
  · exact Or.inl h2
  · refine Or.inr ⟨g, c, cur, hv, hg, ?_, r⟩
    have hlt : g < w.heap.size := by
      by_cases hlt : g < w.heap.size
      · exact hlt
      · simp [Array.getElem?_eq_none (Nat.le_of_not_lt hlt)] at hc
    rw [hk g hg hlt]; exact hc
set_option maxHeartbeats 1600000 in
set_option maxRecDepth 100000 in
theorem newReader_new {w : World} {a : Option Addr} {n c : Nat} {l : List UInt8} (h : Rb w a n c l) (hn : n ≤ 100000000) :
    Calls Tryd.prog 5 #[.slice a n c] w fun e w' => ∃ g, e = .returned (.pointer (some ⟨g, 0, none⟩)) ∧ New w.heap.size w' (fun v => Rd v g l 0 false) ∧ w.heap.size ≤ g ∧ g < w'.heap.size ∧ Below w.heap.size w w' := by
  have HL : Hid (l.length = n) := h.len
  go_enter Tryd.func5, Tryd.ntmps5
  go_wp2_with fail
  refine (clone8_any h hn).mono ?_
  rintro e w1 ⟨v, rfl, hO, hb⟩
  have hN := hO.new
  obtain ⟨ra, rc, rfl, hr⟩ := hO.row
  rw [HL.out] at hr hN ⊢
  have hsz := hb.size
  have HNW : Hid (New w.heap.size w1 fun w' => Ob w' w.heap.size (.slice ra n rc) l) := hN
  clear hN hO hr h
  go_wp2
  go_ret
  refine ⟨_, rfl, ?_, hsz, by simp, hb.alloc hb.size _⟩
  intro w' hs hk
  have hs' : w1.heap.size + 1 ≤ w'.heap.size := by simpa using hs
  have hO' : Ob w' w.heap.size (.slice ra n rc) l := HNW.out w' (by omega) (fun k h1 h2 => by rw [hk k h1 (by simp; omega)]; exact heap_alloc_old _ _ h2)
  refine ⟨ra, n, rc, none, ?_, hO'.rb, Nat.zero_le _, hn, Or.inl ⟨rfl, rfl⟩⟩
  unfold S3
  rw [hk w1.heap.size hsz (by simp)]
  exact heap_alloc_new _ _
set_option maxHeartbeats 1600000 in
set_option maxRecDepth 100000 in
theorem rnew_new {w : World} {a : Option Addr} {n c : Nat} {l : List UInt8} (h : Rb w a n c l) (hn : n ≤ 100000000) :
    Calls Tryd.prog 6 #[.slice a n c] w fun e w' => ∃ g, e = .returned (.pointer (some ⟨g, 0, none⟩)) ∧ New w.heap.size w' (fun v => Rr v g l 0 false) ∧ w.heap.size ≤ g ∧ g < w'.heap.size ∧ Below w.heap.size w w' := by
  have HL : Hid (l.length = n) := h.len
  have hO0 : Ob (w.alloc (.cells #[] 5)) w.heap.size (.slice (some ⟨w.heap.size, 0, none⟩) 0 0) [] := World.ownsRow_made w #[] 0 (Nat.le_refl _) (Nat.zero_le _) rfl
  have hba : Below w.heap.size w (w.alloc (.cells #[] 5)) := alloc_below _
  go_enter Tryd.func6, Tryd.ntmps6
  go_wp2_with (at_builtin; refine wpList_app8 rfl _ _ rfl rfl hO0 rfl (h.later hba) (by simp; omega) hba.size ?_)
  intro v1 w1 hO1 hg1 hkp
  have hb := hO0.below hba (Nat.le_refl _) hg1
  have hN := hO1.new
  obtain ⟨ra, rc, rfl, hr⟩ := hO1.row
  have HNW : Hid (New w.heap.size w1 fun w' => Ob w' w.heap.size (.slice ra n rc) l) := by
    show New _ _ _
    rw [HL.out] at hN
    exact hN
  have hlen : l.length = n := HL.out
  first | rw [hlen] | skip
  have hsz := hb.size
  clear hkp hg1 hO0 hba h hN hO1 hr hlen
  go_wp2
  go_ret
  refine ⟨_, rfl, ?_, hsz, by simp, hb.alloc hb.size _⟩
  intro w' hs hk
  have hs' : w1.heap.size + 1 ≤ w'.heap.size := by simpa using hs
  have hO' : Ob w' w.heap.size (.slice ra n rc) l := HNW.out w' (by omega) (fun k h1 h2 => by rw [hk k h1 (by simp; omega)]; exact heap_alloc_old _ _ h2)
  refine ⟨ra, n, rc, ?_, hO'.rb, Nat.zero_le _, hn⟩
  unfold S4
  rw [hk w1.heap.size hsz (by simp)]
  exact heap_alloc_new _ _
set_option maxHeartbeats 1600000 in
set_option maxRecDepth 100000 in
theorem rread16_any {w : World} {g : Nat} {l : List UInt8} {k m : Nat} {F little : Bool} (h : Rr w g l k F) (hm : m ≤ 8) (h1m : 1 ≤ m) :
    Calls Tryd.prog 16 #[.pointer (some ⟨g, 0, none⟩), .int .i64 (m : Int), .bool little] w fun e w' => e = .returned (.int .u64 ((rV l k F m little : Nat) : Int)) ∧ Rr w' g l (rK l k F m) (rF l k F m) ∧ In g (g + 1) w w' := by
  have hR0 := h
  obtain ⟨a, n, c, h1, h2, h3, h4⟩ := h
  obtain ⟨c0, c1, c2, c3⟩ := h1.cells
  have hln := h2.len
  cases F
  · have e0 : eN false = 0 := rfl
    have e1 : eP false k = 0 := rfl
    rw [e0] at c2 h1
    rw [e1] at c3 h1
    by_cases hs : l.length - k < m
    · rw [show rV l k false m little = 0 by unfold rV; rw [if_pos (Or.inr hs)], show rK l k false m = k by unfold rK; rw [if_pos (Or.inr hs)], show rF l k false m = true by unfold rF; rw [decide_eq_true hs]; rfl]
      have hq : (n : Int) - (k : Int) < (m : Int) := by omega
      have f2 := h1.frozen 2
      have f3 := h1.frozen 3
      go_enter Tryd.func16, Tryd.ntmps16
      go_wp2
      go_quiet (fail)
      have hb1 := below_drewN (Below.refl w.heap.size w) nq
      have h1' := h1.later hb1
      have h2' := h2.later hb1
      obtain ⟨w1, hw1⟩ : ∃ w1, w1 = w.drewN nq := ⟨_, rfl⟩
      rw [← hw1] at hb1 h1' h2' ⊢
      clear hw1 c0 c1 c2 c3 f2 f3 h1 h2 hR0
      obtain ⟨c0, c1, c2, c3⟩ := h1'.cells
      have f2 := h1'.frozen 2
      have f3 := h1'.frozen 3
      have hi2 : In g (g + 1) w1 (w1.setCell ⟨g, 2, none⟩ (.int .i64 160)) := (In.refl _ _ _).set1 _ _
      have hS2 := h1'.set2 (.int .i64 160)
      have hi3 : In g (g + 1) w1 ((w1.setCell ⟨g, 2, none⟩ (.int .i64 160)).setCell ⟨g, 3, none⟩ (.int .i64 (k : Int))) := hi2.set1 _ _
      have hS3 := hS2.set3 (.int .i64 (k : Int))
      have hR : Rr ((w1.setCell ⟨g, 2, none⟩ (.int .i64 160)).setCell ⟨g, 3, none⟩ (.int .i64 (k : Int))) g l k true := ⟨a, n, c, hS3, h2'.inn hi3 (fun hn => h2'.offN h1'.nb hn), h3, h4⟩
      have hI : In g (g + 1) w ((w1.setCell ⟨g, 2, none⟩ (.int .i64 160)).setCell ⟨g, 3, none⟩ (.int .i64 (k : Int))) := (In.of_below hb1).trans hi3
      obtain ⟨d0, d1, d2, d3⟩ := hS2.cells
      have ff3 := hS2.frozen 3
      clear hi2 hi3 hS2 hS3 hb1 h1' h2'
      go_wp2
      go_ret
      exact ⟨rfl, hR, hI⟩
    · have hk2 : k + m ≤ n := by omega
      rw [show rV l k false m little = numO ((l.drop k).take m) little by unfold rV; rw [if_neg (by simp; omega)], show rK l k false m = k + m by unfold rK; rw [if_neg (by simp; omega)], show rF l k false m = false by unfold rF; rw [decide_eq_false hs]; rfl]
      have hq : ¬ (n : Int) - (k : Int) < (m : Int) := by omega
      go_enter Tryd.func16, Tryd.ntmps16
      go_wp2
      go_quiet (fail)
      have hb1 := below_drewN (Below.refl w.heap.size w) nq
      have h1' := h1.later hb1
      have h2' := h2.later hb1
      obtain ⟨w1, hw1⟩ : ∃ w1, w1 = w.drewN nq := ⟨_, rfl⟩
      rw [← hw1] at hb1 h1' h2' ⊢
      clear hw1 c0 c1 c2 c3 h1 h2 hR0
      obtain ⟨c0, c1, c2, c3⟩ := h1'.cells
      have hcc := h2'.2
      obtain ⟨K, hK⟩ : ∃ K, K = k + m := ⟨_, rfl⟩
      have HK : Hid (K = k + m) := hK
      have e2 : (k : Int) + (m : Int) = (K : Int) := by omega
      have hkc : (K : Int) ≤ (c : Int) := by omega
      have hkk : (k : Int) ≤ (K : Int) := by omega
      have hk9 : (K : Int) ≤ 100000000 := by omega
      have hk0 : (0 : Int) ≤ (K : Int) := by omega
      have e3 : ((K : Int) - (k : Int)).toNat = m := by omega
      have e4 : K - k = m := by omega
      have e5 : IntKind.i64.wrap (K : Int) = (K : Int) := IntWalk.i64_in _ (by omega)
      clear hK
      have hrA : ∀ (w' : World), Below w1.heap.size w1 w' → Rb w' (Option.map (fun x => x.add k) a) m (c - k) ((l.drop k).take m) := fun w' hb => by
        have hkm : K = k + m := HK.out
        refine Rb.take (k := m) (c' := c - k) ((h2'.later hb).drop (k := k) (m := n - k) (c' := c - k) (a' := Option.map (fun x => x.add k) a) h3 rfl (by omega) (by omega) (fun hp g o e => ?_)) (by omega) (by omega) (by omega)
        rw [e]
        show some ((⟨g, o, none⟩ : Addr).add k) = _
        rw [add_none]
      have hNm := fun (w' : World) (hb : Below w1.heap.size w1 w') => rnumber16_any (little := little) (hrA w' hb) hm
      obtain ⟨X, hX⟩ : ∃ X, X = numO ((l.drop k).take m) little := ⟨_, rfl⟩
      have HX : Hid (X = numO ((l.drop k).take m) little) := hX
      rw [← hX] at hNm
      clear hX hrA
      go_upto_region 7 with fail
      go_quiet ((go_at_call 24; exact (hNm _ (below_drewN (Below.refl _ _) _)).mono (fun _ _ h => ⟨h.1, _, h.2⟩)))
      have hb2 := below_drewN (Below.refl w1.heap.size w1) nq
      have g1 := h1'.later hb2
      have g2 := h2'.later hb2
      obtain ⟨w2, hw2⟩ : ∃ w2, w2 = w1.drewN nq := ⟨_, rfl⟩
      rw [← hw2] at hb2 g1 g2 ⊢
      clear hw2 c0 c1 c2 c3 h1' h2' hNm
      obtain ⟨c0, c1, c2, c3⟩ := g1.cells
      have f1 := g1.frozen 1
      have hS := g1.set1 (.int .i64 (K : Int))
      have hi : In g (g + 1) w2 (w2.setCell ⟨g, 1, none⟩ (.int .i64 (K : Int))) := (In.refl _ _ _).set1 _ _
      have hR : Rr (w2.setCell ⟨g, 1, none⟩ (.int .i64 (K : Int))) g l (k + m) false := by
        rw [← HK.out]
        exact ⟨a, n, c, hS, g2.inn hi (fun hn => g2.offN g1.nb hn), by have := HK.out; omega, h4⟩
      have hI : In g (g + 1) w (w2.setCell ⟨g, 1, none⟩ (.int .i64 (K : Int))) := ((In.of_below hb1).trans (In.of_below hb2)).trans hi
      clear hi hS g1 g2 hb1 hb2
      go_wp2
      go_ret
      exact ⟨ret_int (by rw [HX.out]), hR, hI⟩
  · have e0 : eN true = 160 := rfl
    rw [e0] at c2
    rw [show rV l k true m little = 0 by unfold rV; rw [if_pos (Or.inl rfl)], show rK l k true m = k by unfold rK; rw [if_pos (Or.inl rfl)], show rF l k true m = true from rfl]
    clear h1 h2
    go_enter Tryd.func16, Tryd.ntmps16
    go_wp2
    go_ret
    exact ⟨rfl, hR0, In.refl _ _ _⟩
/-- how many bytes a call of that kind reads -/
def Oc.opM (x : Int) : Nat := if x = 0 then 1 else if x = 1 then 4 else if x = 2 then 8 else 0
def Oc.sK (l : List UInt8) (k : Nat) (F : Bool) (x : Int) : Nat := if opM x = 0 then k else rK l k F (opM x)
def Oc.sF (l : List UInt8) (k : Nat) (F : Bool) (x : Int) : Bool := if opM x = 0 then F else rF l k F (opM x)
/-- both turned, one behind the other -/
def Turned (g g' : Nat) (l : List UInt8) (k : Nat) (F : Bool) (w w' : World) : Prop := ∃ wm, In g (g + 1) w wm ∧ In g' (g' + 1) wm w' ∧ Rr wm g' l k F
set_option maxHeartbeats 3200000 in
set_option maxRecDepth 100000 in
theorem step16_any {w : World} {g g' : Nat} {l : List UInt8} {k : Nat} {F b : Bool} {x : Int} (hr : Rd w g l k F) (hq : Rr w g' l k F) (hne : g ≠ g') :
    Calls Tryd.prog 8 #[.pointer (some ⟨g, 0, none⟩), .pointer (some ⟨g', 0, none⟩), .agg #[.int .i64 x, .bool b]] w fun e w' => e = .returned (.bool true) ∧ Rd w' g l (sK l k F x) (sF l k F x) ∧ Rr w' g' l (sK l k F x) (sF l k F x) ∧ Turned g g' l k F w w' := by
  obtain ⟨w0, hw0⟩ : ∃ w0, w0 = w.alloc (.cells #[.int .i64 x, .bool b] 31) := ⟨_, rfl⟩
  have hb0 : Below w.heap.size w w0 := by rw [hw0]; exact alloc_below _
  have hr0 := hr.later hb0
  have hq0 := hq.later hb0
  obtain ⟨G, hG⟩ : ∃ G, G = w.heap.size := ⟨_, rfl⟩
  have HG : Hid (G = w.heap.size) := hG
  have HC : Hid (∀ w' : World, w0.heap.size ≤ w'.heap.size → (w'.heap[G]? = w0.heap[G]?) → w'.cell? ⟨G, 0, none⟩ = some (.int .i64 x) ∧ w'.cell? ⟨G, 1, none⟩ = some (.bool b)) := fun w' _ he => by
    have h0 : w0.cell? ⟨G, 0, none⟩ = some (.int .i64 x) ∧ w0.cell? ⟨G, 1, none⟩ = some (.bool b) := by rw [hw0, hG]; simp
    unfold World.cell? at h0 ⊢
    simp only [he]
    exact h0
  obtain ⟨c0, c1⟩ := HC.out w0 (Nat.le_refl _) rfl
  have HGg : Hid (G < w0.heap.size ∧ G ≠ g ∧ G ≠ g') := by
    obtain ⟨a, n, c, p, h1, _⟩ := hr
    obtain ⟨a', n', c', h1', _⟩ := hq
    have q1 := h1.lt
    have q2 := h1'.lt
    refine ⟨by rw [hw0, hG]; simp, by omega, by omega⟩
  have tail : ∀ (m : Nat) (lt : Bool) (w2 : World), 1 ≤ m → m ≤ 8 → opM x = m → Rd w2 g l (rK l k F m) (rF l k F m) → In g (g + 1) w0 w2 →
      (Rr w2 g' l k F ∧ w2.cell? ⟨G, 0, none⟩ = some (.int .i64 x) ∧ w2.cell? ⟨G, 1, none⟩ = some (.bool b)) ∧
      (∀ w3, Rr w3 g' l (rK l k F m) (rF l k F m) → In g' (g' + 1) w2 w3 → Rd w3 g l (sK l k F x) (sF l k F x) ∧ Rr w3 g' l (sK l k F x) (sF l k F x) ∧ Turned g g' l k F w w3) := by
    intro m lt w2 h1 h8 hm hR2 hI2
    have hq2 : Rr w2 g' l k F := hq0.keep hr0.nb (Ne.symm hne) hI2
    refine ⟨⟨hq2, HC.out w2 hI2.size (hI2.block G HGg.out.1 (by have := HGg.out.2.1; omega))⟩, fun w3 hR3 hI3 => ?_⟩
    have hk : sK l k F x = rK l k F m := by unfold sK; rw [hm, if_neg (by omega)]
    have hf : sF l k F x = rF l k F m := by unfold sF; rw [hm, if_neg (by omega)]
    rw [hk, hf]
    exact ⟨hR2.keep hq2.nb hne hI3, hR3, w2, (In.of_below hb0).trans hI2, hI3, hq2⟩
  by_cases x0 : x = 0
  · subst x0
    have hC := byte16_any hr0
    have hv := rV_lt l k F 1 false
    rw [show (256 : Nat) ^ 1 = 256 by decide] at hv
    have tl := tail 1 false
    obtain ⟨V, hV⟩ : ∃ V, V = rV l k F 1 false := ⟨_, rfl⟩
    have HV : Hid (V = rV l k F 1 false) := hV
    rw [← hV] at hC hv
    have tv : ((V : Int) == (V : Int)) = true := by simp
    clear tail hr hq hV
    go_enter Tryd.func8, Tryd.ntmps8
    go_wp2_with fail
    rw [← hw0, ← hG]
    refine hC.mono ?_
    rintro e w2 ⟨rfl, hR2, hI2⟩
    obtain ⟨⟨hq2, d0, d1⟩, fin⟩ := tl w2 (by omega) (by omega) (by decide) hR2 hI2
    have hRd := rread16_any (m := 1) (little := false) hq2 (by omega) (by omega)
    rw [← HV.out] at hRd
    clear hC tl hR2 hI2 hw0 hG c0 c1 hr0 hq0 hq2
    go_wp2_with fail
    refine hRd.mono ?_
    rintro e w3 ⟨rfl, hR3, hI3⟩
    obtain ⟨r1, r2, r3⟩ := fin w3 hR3 hI3
    clear hRd fin hR3 hI3 d0 d1
    go_wp2
    go_ret
    exact ⟨rfl, r1, r2, r3⟩
  by_cases x1 : x = 1
  · subst x1
    clear x0
    have hC := word32_any (little := b) hr0
    have hv := rV_lt l k F 4 b
    rw [show (256 : Nat) ^ 4 = 4294967296 by decide] at hv
    have tl := tail 4 false
    obtain ⟨V, hV⟩ : ∃ V, V = rV l k F 4 b := ⟨_, rfl⟩
    have HV : Hid (V = rV l k F 4 b) := hV
    rw [← hV] at hC hv
    have tv : ((V : Int) == (V : Int)) = true := by simp
    clear tail hr hq hV
    go_enter Tryd.func8, Tryd.ntmps8
    go_wp2_with fail
    rw [← hw0, ← hG]
    refine hC.mono ?_
    rintro e w2 ⟨rfl, hR2, hI2⟩
    obtain ⟨⟨hq2, d0, d1⟩, fin⟩ := tl w2 (by omega) (by omega) (by decide) hR2 hI2
    have hRd := rread16_any (m := 4) (little := b) hq2 (by omega) (by omega)
    rw [← HV.out] at hRd
    clear hC tl hR2 hI2 hw0 hG c0 c1 hr0 hq0 hq2
    go_wp2_with fail
    refine hRd.mono ?_
    rintro e w3 ⟨rfl, hR3, hI3⟩
    obtain ⟨r1, r2, r3⟩ := fin w3 hR3 hI3
    clear hRd fin hR3 hI3 d0 d1
    go_wp2
    go_ret
    exact ⟨rfl, r1, r2, r3⟩
  by_cases x2 : x = 2
  · subst x2
    clear x0 x1
    have hC := word64_any (little := b) hr0
    have hv := rV_lt l k F 8 b
    rw [show (256 : Nat) ^ 8 = 18446744073709551616 by decide] at hv
    have tl := tail 8 false
    obtain ⟨V, hV⟩ : ∃ V, V = rV l k F 8 b := ⟨_, rfl⟩
    have HV : Hid (V = rV l k F 8 b) := hV
    rw [← hV] at hC hv
    have tv : ((V : Int) == (V : Int)) = true := by simp
    clear tail hr hq hV
    go_enter Tryd.func8, Tryd.ntmps8
    go_wp2_with fail
    rw [← hw0, ← hG]
    refine hC.mono ?_
    rintro e w2 ⟨rfl, hR2, hI2⟩
    obtain ⟨⟨hq2, d0, d1⟩, fin⟩ := tl w2 (by omega) (by omega) (by decide) hR2 hI2
    have hRd := rread16_any (m := 8) (little := b) hq2 (by omega) (by omega)
    rw [← HV.out] at hRd
    clear hC tl hR2 hI2 hw0 hG c0 c1 hr0 hq0 hq2
    go_wp2_with fail
    refine hRd.mono ?_
    rintro e w3 ⟨rfl, hR3, hI3⟩
    obtain ⟨r1, r2, r3⟩ := fin w3 hR3 hI3
    clear hRd fin hR3 hI3 d0 d1
    go_wp2
    go_ret
    exact ⟨rfl, r1, r2, r3⟩
  have t0 : (x == 0) = false := by simpa using x0
  have t1 : (x == 1) = false := by simpa using x1
  have t2 : (x == 2) = false := by simpa using x2
  have hm : opM x = 0 := by unfold opM; rw [if_neg x0, if_neg x1, if_neg x2]
  have hk : sK l k F x = k := by unfold sK; rw [hm, if_pos rfl]
  have hf : sF l k F x = F := by unfold sF; rw [hm, if_pos rfl]
  rw [hk, hf]
  clear tail hr hq x0 x1 x2 hm hk hf
  go_enter Tryd.func8, Tryd.ntmps8
  go_wp2
  go_ret
  rw [← hw0]
  exact ⟨rfl, hr0, hq0, w0, In.of_below hb0, In.refl _ _ _, hq0⟩
end Go.Proofs.YtchlflmdannhaabDoor

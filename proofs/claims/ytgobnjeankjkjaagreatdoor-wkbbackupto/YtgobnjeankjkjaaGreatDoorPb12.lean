import Derived.Laws.StructEq
import Derived.Laws.BitsAllLaws
import Derived.Below
import Derived.BigQuiet
import Derived.ChangeOld
import Derived.Deep.DeepCutAuto
import Derived.Deep.QuietTactic
import Derived.Deep.RegionHeld3
import Derived.Deep.RegionLaw
import Derived.Deep.RegionWith
import Derived.LaidEql
import Derived.Laws.CopyRow
import Derived.Laws.IdiomCopy
import Derived.Laws.IdiomRangeMap
import Derived.OpenShut
import Derived.OwnWalk
import Derived.ProofKit
import Derived.RowKitTokens
import Derived.ShutString
import Derived.Stop.Asserts
import Derived.WalkKit
import Derived.WalkLawsBesides
import Derived.WalkSpells
import Derived.Test.YtgobnjeankjkjaaGreatDoorPb1
import Derived.Test.YtgobnjeankjkjaaGreatDoorPb6
import Derived.Test.YtgobnjeankjkjaaGreatDoorPb8
import Derived.Test.YtgobnjeankjkjaaGreatDoorPb11
/- Layer 16: the reader: what it is in memory; its calls. -/
namespace Go.Proofs.YtgobnjeankjkjaaGreatDoor
open Go.ChangeShapes Go.WideShapes Go.ChangeAt Go.RowKit
open Ep Oc
set_option linter.unusedVariables false
/-- a block of three cells -/
def S3 (w : World) (g : Nat) (t : TypeId) (x y z : Value) : Prop := w.heap[g]? = some (.cells #[x, y, z] t (0, 0))
theorem S3.lt {w : World} {g : Nat} {t : TypeId} {x y z : Value} (h : S3 w g t x y z) : g < w.heap.size := by
  by_cases hlt : g < w.heap.size
  · exact hlt
  · unfold S3 at h; simp [Array.getElem?_eq_none (Nat.le_of_not_lt hlt)] at h
theorem S3.cells {w : World} {g : Nat} {t : TypeId} {x y z : Value} (h : S3 w g t x y z) : w.cell? ⟨g, 0, none⟩ = some x ∧ w.cell? ⟨g, 1, none⟩ = some y ∧ w.cell? ⟨g, 2, none⟩ = some z := by
  unfold S3 at h
  simp [World.cell?, h]
theorem S3.far {w : World} {g : Nat} {t : TypeId} {x y z : Value} (h : S3 w g t x y z) {k : Nat} (hk : 3 ≤ k) : w.cell? ⟨g, k, none⟩ = none := by
  unfold S3 at h
  have : ¬ k < 3 := by omega
  simp [World.cell?, h, this]
theorem S3.frozen {w : World} {g : Nat} {t : TypeId} {x y z : Value} (h : S3 w g t x y z) (k : Nat) : w.frozen? ⟨g, k, none⟩ = false := by
  unfold S3 at h
  simp [World.frozen?, h]
theorem S3.later {w w' : World} {g : Nat} {t : TypeId} {x y z : Value} (h : S3 w g t x y z) (hb : Below w.heap.size w w') : S3 w' g t x y z := by unfold S3; rw [hb.block g h.lt]; exact h
theorem S3.inn {w w' : World} {g a b : Nat} {t : TypeId} {x y z : Value} (h : S3 w g t x y z) (hi : In a b w w') (hd : g < a ∨ b ≤ g) : S3 w' g t x y z := by unfold S3; rw [hi.block g h.lt hd]; exact h
theorem S3.new (w : World) (t : TypeId) (x y z : Value) : S3 (w.alloc (.cells #[x, y, z] t)) w.heap.size t x y z := heap_alloc_new _ _
theorem S3.set1 {w : World} {g : Nat} {t : TypeId} {x y z : Value} (h : S3 w g t x y z) (u : Value) : S3 (w.setCell ⟨g, 1, none⟩ u) g t x u z := by
  unfold S3 at h ⊢
  have hlt : g < w.heap.size := S3.lt h
  have hg : w.heap[g] = .cells #[x, y, z] t (0, 0) := by rw [Array.getElem?_eq_getElem hlt] at h; exact Option.some.inj h
  simp [World.setCell, Array.getElem?_modify, h]
theorem S3.set2 {w : World} {g : Nat} {t : TypeId} {x y z : Value} (h : S3 w g t x y z) (u : Value) : S3 (w.setCell ⟨g, 2, none⟩ u) g t x y u := by
  unfold S3 at h ⊢
  simp [World.setCell, Array.getElem?_modify, h]
/-- a row of bytes does not lie in such a block -/
theorem Rb.off3 {w : World} {a : Option Addr} {n c : Nat} {l : List UInt8} (h : Rb w a n c l) {g k : Nat} {t : TypeId} {b : Option Addr} {m d : Nat} {q : Option Addr} (hs : S3 w g t (.slice b m d) (.int .i64 k) (.pointer q)) (hn : 0 < n) : Off a g := by
  obtain ⟨bb, o, rfl, hlt, hc⟩ := h.cells hn
  refine off_of fun e => ?_
  subst e
  have h0 := hc 0 hn
  obtain ⟨e0, e1, e2⟩ := hs.cells
  simp only [Nat.add_zero] at h0
  rcases (by omega : o = 0 ∨ o = 1 ∨ o = 2 ∨ 3 ≤ o) with rfl | rfl | rfl | q
  · rw [e0] at h0; cases h0
  · rw [e1] at h0; cases h0
  · rw [e2] at h0; cases h0
  · rw [hs.far q] at h0; cases h0
theorem Rb.inn {w w' : World} {a : Option Addr} {n c : Nat} {l : List UInt8} (h : Rb w a n c l) {g : Nat} (hi : In g (g + 1) w w') (ho : 0 < n → Off a g) : Rb w' a n c l := ⟨h.1.inn hi ho, h.2⟩
theorem FaultAt.inn {w w' : World} {f : Nat} {p e : Int} (h : FaultAt w f p e) {g : Nat} (hi : In g (g + 1) w w') (hne : f ≠ g) : FaultAt w' f p e := by
  have hlt : f < w.heap.size := cell_lt h.1
  have hb := hi.block f hlt (by omega)
  unfold FaultAt World.cell? at *
  simp only [hb]
  exact h
theorem FaultAt.off3 {w : World} {f : Nat} {p e : Int} (h : FaultAt w f p e) {g k : Nat} {t : TypeId} {b : Option Addr} {m d : Nat} {q : Option Addr} (hs : S3 w g t (.slice b m d) (.int .i64 k) (.pointer q)) : f ≠ g := by
  rintro rfl
  have := h.1
  rw [hs.cells.1] at this
  cases this
/-- what the reader's third field leads to -/
def Rp (w : World) (k : Nat) (F : Bool) (p : Option Addr) : Prop := (F = false ∧ p = none) ∨ (F = true ∧ ∃ f, p = some ⟨f, 0, none⟩ ∧ FaultAt w f (k : Int) 160)
/-- block g is a reader of l at k; F: it has an error -/
def Rd (w : World) (g : Nat) (l : List UInt8) (k : Nat) (F : Bool) : Prop :=
  ∃ a n c p, S3 w g 163 (.slice a n c) (.int .i64 (k : Int)) (.pointer p) ∧ Rb w a n c l ∧ k ≤ n ∧ n ≤ 100000000 ∧ Rp w k F p
theorem Rp.later {w w' : World} {k : Nat} {F : Bool} {p : Option Addr} (h : Rp w k F p) (hb : Below w.heap.size w w') : Rp w' k F p := by
  rcases h with h | ⟨h, f, e, hF⟩
  · exact Or.inl h
  · exact Or.inr ⟨h, f, e, hF.later hb⟩
theorem Rd.later {w w' : World} {g : Nat} {l : List UInt8} {k : Nat} {F : Bool} (h : Rd w g l k F) (hb : Below w.heap.size w w') : Rd w' g l k F := by
  obtain ⟨a, n, c, p, h1, h2, h3, h4, h5⟩ := h
  exact ⟨a, n, c, p, h1.later hb, h2.later hb, h3, h4, h5.later hb⟩
/-- what is done to another reader leaves it -/
theorem Rd.other {w w' : World} {g g' : Nat} {l l' : List UInt8} {k k' : Nat} {F F' : Bool} (h : Rd w g l k F) (h' : Rd w g' l' k' F') (hne : g ≠ g') (hi : In g' (g' + 1) w w') : Rd w' g l k F := by
  obtain ⟨a, n, c, p, h1, h2, h3, h4, h5⟩ := h
  obtain ⟨a', n', c', p', h1', h2', _, _, _⟩ := h'
  refine ⟨a, n, c, p, h1.inn hi (by omega), h2.inn hi (fun hn => h2.off3 h1' hn), h3, h4, ?_⟩
  rcases h5 with h5 | ⟨h5, f, e, hF⟩
  · exact Or.inl h5
  · exact Or.inr ⟨h5, f, e, hF.inn hi (hF.off3 h1')⟩
theorem Rd.off {w w' : World} {g : Nat} {l : List UInt8} {k : Nat} {F : Bool} (h : Rd w g l k F) {a : Option Addr} {n c : Nat} {s : List UInt8} (hs : Rb w a n c s) (hi : In g (g + 1) w w') : Rb w' a n c s := by
  obtain ⟨a', n', c', p', h1', _⟩ := h
  exact hs.inn hi (fun hn => hs.off3 h1' hn)
namespace Oc
theorem num_step {X x : Nat} (hX : X < 72057594037927936) (hx : x < 256) : bits BinOp.or IntKind.u64 ((X * 256 : Nat) : Int) (x : Int) = ((X * 256 + x : Nat) : Int) := by
  rw [u64_or_nat _ _ (by omega) (by omega), or_byte hx]
theorem num_take {l : List UInt8} {k : Nat} (h : k < l.length) : num (l.take (k + 1)) = num (l.take k) * 256 + (l.getD k 0).toNat := by rw [takeU h, num_snoc]
theorem num_small {l : List UInt8} {k : Nat} (hk : k < 8) : num (l.take k) < 72057594037927936 := by
  have h := num_lt (l.take k)
  have h2 : 256 ^ (l.take k).length ≤ 256 ^ 7 := Nat.pow_le_pow_right (by decide) (by rw [List.length_take]; omega)
  have h3 : (256 : Nat) ^ 7 = 72057594037927936 := by decide
  omega
end Oc
set_option maxHeartbeats 3200000 in
set_option maxRecDepth 100000 in
theorem number16_any {w : World} {a : Option Addr} {n c : Nat} {l : List UInt8} {little : Bool} (h : Rb w a n c l) (hn : n ≤ 8) :
    Calls Tryz.prog 114 #[.slice a n c, .bool little] w fun e w' => e = .returned (.int .u64 ((numO l little : Nat) : Int)) ∧ w' = w := by
  have HL : Hid (l.length = n) := h.len
  have hc9 := h.2
  cases little
  · go_enter Tryz.func114, Tryz.ntmps114
    go_wp2
    go_loop [5, 9] (fun v i => ∃ k : Nat, k ≤ n ∧ i = .int .i64 (k : Int) ∧ v = .int .u64 ((num (l.take k) : Nat) : Int)) (fun _ i => n - (intOf i).toNat)
    case atStart => exact ⟨0, Nat.zero_le _, rfl, rfl⟩
    case round =>
      obtain ⟨k, hk, rfl, rfl⟩ := hrel
      by_cases hlt : k < n
      · obtain ⟨b, off, rfl, hbB, hc⟩ := h.cells (by omega)
        have c1 := hc k hlt
        have HN : Hid (num (l.take (k + 1)) = num (l.take k) * 256 + (l.getD k 0).toNat) := num_take (by rw [HL.out]; exact hlt)
        have hsm := num_small (l := l) (k := k) (by omega)
        have hx8 := (l.getD k 0).toNat_lt
        generalize (l.getD k 0).toNat = x at *
        generalize num (l.take k) = X at *
        have s1 : IntKind.u64.wrap ((X : Int) * 256) = ((X * 256 : Nat) : Int) := by rw [IntKind.wrap_u64]; omega
        have s2 := num_step hsm hx8
        obtain ⟨Y, hY⟩ : ∃ Y, Y = X * 256 := ⟨_, rfl⟩
        rw [← hY] at s1 s2 HN
        have hY9 : Y < 18446744073709551616 := by omega
        have s3 : (X : Int) * 256 = (Y : Int) := by omega
        clear hc hY
        go_wp2
        go_round
        case rel => exact ⟨k + 1, by omega, by go_num, by rw [HN.out]; simp⟩
        case measure => simp [intOf]; omega
      · have HE : Hid (num (l.take k) = numO l false) := by show _ = num l; rw [List.take_of_length_le (by rw [HL.out]; omega)]
        go_wp2
        go_ret
        exact ⟨ret_int (by rw [HE.out]), rfl⟩
  · go_enter Tryz.func114, Tryz.ntmps114
    go_wp2
    go_loop [5, 9] (fun v i => ∃ k : Nat, k ≤ n ∧ i = .int .i64 (k : Int) ∧ v = .int .u64 ((num (l.reverse.take k) : Nat) : Int)) (fun _ i => n - (intOf i).toNat)
    case atStart => exact ⟨0, Nat.zero_le _, rfl, rfl⟩
    case round =>
      obtain ⟨k, hk, rfl, rfl⟩ := hrel
      by_cases hlt : k < n
      · obtain ⟨b, off, rfl, hbB, hc⟩ := h.cells (by omega)
        obtain ⟨r, hr⟩ : ∃ r, r = n - 1 - k := ⟨_, rfl⟩
        have er : (n : Int) - 1 - (k : Int) = (r : Int) := by omega
        have hrn : (r : Int) < (n : Int) := by omega
        have hr0 : (0 : Int) ≤ (r : Int) := by omega
        have c1 := hc r (by omega)
        have HN : Hid (num (l.reverse.take (k + 1)) = num (l.reverse.take k) * 256 + (l.getD r 0).toNat) := by
          show _ = _
          rw [num_take (by rw [List.length_reverse, HL.out]; exact hlt), List.getD_eq_getElem?_getD, List.getElem?_reverse (by rw [HL.out]; exact hlt), HL.out, ← hr, List.getD_eq_getElem?_getD]
        have hsm := num_small (l := l.reverse) (k := k) (by omega)
        have hx8 := (l.getD r 0).toNat_lt
        generalize (l.getD r 0).toNat = x at *
        generalize num (l.reverse.take k) = X at *
        have s1 : IntKind.u64.wrap ((X : Int) * 256) = ((X * 256 : Nat) : Int) := by rw [IntKind.wrap_u64]; omega
        have s2 := num_step hsm hx8
        obtain ⟨Y, hY⟩ : ∃ Y, Y = X * 256 := ⟨_, rfl⟩
        rw [← hY] at s1 s2 HN
        have hY9 : Y < 18446744073709551616 := by omega
        have s3 : (X : Int) * 256 = (Y : Int) := by omega
        clear hc hY hr
        go_wp2
        go_round
        case rel => exact ⟨k + 1, by omega, by go_num, by rw [HN.out]; simp⟩
        case measure => simp [intOf]; omega
      · have HE : Hid (num (l.reverse.take k) = numO l true) := by show _ = num l.reverse; rw [List.take_of_length_le (by rw [List.length_reverse, HL.out]; omega)]
        go_wp2
        go_ret
        exact ⟨ret_int (by rw [HE.out]), rfl⟩
theorem eqlNil8 (w : World) (a : Option Addr) (n c : Nat) : (binOp .eql 23 (.slice a n c) (.slice none 0 0)).run Tryz.prog w = .ok (.bool a.isNone) w := by
  simp only [binOp]
  simp [Op.equal, Op.maxDepth, Lib.run_equalIn_slice_nil (P := Tryz.prog) w 9999 23 5 a n c 0 0 Tryz.underlying23]
set_option maxHeartbeats 1600000 in
set_option maxRecDepth 100000 in
theorem clone8_any {w : World} {a : Option Addr} {n c : Nat} {l : List UInt8} (h : Rb w a n c l) (hn : n ≤ 100000000) :
    Calls Tryz.prog 80 #[.slice a n c] w fun e w' => ∃ v, e = .returned v ∧ Ob w' w.heap.size v l ∧ Below w.heap.size w w' := by
  cases a with
  | none =>
    have hl := h.len
    have h0 : n = 0 := by
      by_cases q : 0 < n
      · obtain ⟨b, o, e, _⟩ := h.cells q; cases e
      · omega
    have hl0 : l = [] := List.eq_nil_of_length_eq_zero (by omega)
    subst hl0
    subst h0
    have hq : (binOp .eql 23 (.slice none 0 c) (.slice none 0 0)).run Tryz.prog w = .ok (.bool true) w := eqlNil8 w none 0 c
    go_enter Tryz.func80, Tryz.ntmps80
    go_wp2
    go_ret
    exact ⟨_, rfl, Ob.nil _ _, Below.refl _ _⟩
  | some ad =>
    have HL : Hid (l.length = n) := h.len
    have hO0 : Ob (w.alloc (.cells #[] 5)) w.heap.size (.slice (some ⟨w.heap.size, 0, none⟩) 0 0) [] := World.ownsRow_made w #[] 0 (Nat.le_refl _) (Nat.zero_le _) rfl
    have hba : Below w.heap.size w (w.alloc (.cells #[] 5)) := alloc_below _
    have hq : (binOp .eql 23 (.slice (some ad) n c) (.slice none 0 0)).run Tryz.prog w = .ok (.bool false) w := eqlNil8 w (some ad) n c
    go_enter Tryz.func80, Tryz.ntmps80
    go_wp2_with (at_builtin; refine wpList_app8 rfl _ _ rfl rfl hO0 rfl (h.later hba) (by simp; omega) hba.size ?_)
    intro v1 w1 hO1 hg1 hkp
    have hb1 := hO0.below hba (Nat.le_refl _) hg1
    clear hkp hg1 hO0 hba h
    go_wp2
    go_ret
    exact ⟨_, rfl, hO1, hb1⟩
set_option maxHeartbeats 1600000 in
set_option maxRecDepth 100000 in
theorem newReader_any {w : World} {a : Option Addr} {n c : Nat} {l : List UInt8} (h : Rb w a n c l) (hn : n ≤ 100000000) :
    Calls Tryz.prog 53 #[.slice a n c] w fun e w' => ∃ g, e = .returned (.pointer (some ⟨g, 0, none⟩)) ∧ Rd w' g l 0 false ∧ w.heap.size ≤ g ∧ Below w.heap.size w w' := by
  have HL : Hid (l.length = n) := h.len
  go_enter Tryz.func53, Tryz.ntmps53
  go_wp2_with fail
  refine (clone8_any h hn).mono ?_
  rintro e w1 ⟨v, rfl, hO, hb⟩
  obtain ⟨ra, rc, rfl, hr⟩ := hO.row
  rw [HL.out] at hr ⊢
  have hsz := hb.size
  go_wp2
  go_ret
  refine ⟨_, rfl, ⟨ra, n, rc, none, S3.new _ _ _ _ _, hr.later (alloc_below _), Nat.zero_le _, hn, Or.inl ⟨rfl, rfl⟩⟩, hsz, hb.alloc hb.size _⟩
set_option maxHeartbeats 1600000 in
set_option maxRecDepth 100000 in
theorem left16_any {w : World} {g : Nat} {l : List UInt8} {k : Nat} {F : Bool} (h : Rd w g l k F) :
    Calls Tryz.prog 55 #[.pointer (some ⟨g, 0, none⟩)] w fun e w' => e = .returned (.int .i64 ((l.length - k : Nat) : Int)) ∧ ∃ d, w' = w.drewN d := by
  obtain ⟨a, n, c, p, h1, h2, h3, h4, h5⟩ := h
  obtain ⟨c0, c1, c2⟩ := h1.cells
  have e1 : ((l.length - k : Nat) : Int) = (n : Int) - (k : Int) := by have := h2.len; omega
  rw [e1]
  have hk : (k : Int) ≤ (n : Int) := by omega
  clear h1 h2 h5 e1
  go_enter Tryz.func55, Tryz.ntmps55
  go_wp2
  go_quiet (fail)
  go_wp2
  go_ret
  exact ⟨rfl, _, rfl⟩
set_option maxHeartbeats 1600000 in
theorem at16_any {w : World} {g : Nat} {l : List UInt8} {k : Nat} {F : Bool} (h : Rd w g l k F) :
    Calls Tryz.prog 57 #[.pointer (some ⟨g, 0, none⟩)] w fun e w' => e = .returned (.int .i64 (k : Int)) ∧ w' = w := by
  obtain ⟨a, n, c, p, h1, h2, h3, h4, h5⟩ := h
  obtain ⟨c0, c1, c2⟩ := h1.cells
  go_enter Tryz.func57, Tryz.ntmps57
  go_wp2
  go_ret
  exact ⟨rfl, rfl⟩
set_option maxHeartbeats 1600000 in
theorem ended16_any {w : World} {g : Nat} {k : Int} (h : w.cell? ⟨g, 1, none⟩ = some (.int .i64 k)) :
    Calls Tryz.prog 122 #[.pointer (some ⟨g, 0, none⟩)] w fun e w' => e = .returned (.pointer (some ⟨w.heap.size, 0, none⟩)) ∧ w' = w.alloc (.cells #[.int .i64 k, .iface 73 (.int .i64 160)] 117) := by
  go_enter Tryz.func122, Tryz.ntmps122
  go_wp2
  go_ret
  exact ⟨rfl, rfl⟩
set_option maxHeartbeats 1600000 in
set_option maxRecDepth 100000 in
theorem take16_err {w : World} {g : Nat} {l : List UInt8} {k : Nat} (h : Rd w g l k true) (m : Int) :
    Calls Tryz.prog 115 #[.pointer (some ⟨g, 0, none⟩), .int .i64 m] w fun e w' => e = .returned (.slice none 0 0) ∧ w' = w := by
  obtain ⟨a, n, c, p, h1, h2, h3, h4, h5⟩ := h
  obtain ⟨c0, c1, c2⟩ := h1.cells
  rcases h5 with ⟨h5, _⟩ | ⟨_, f, rfl, hF⟩
  · cases h5
  clear h1 h2
  go_enter Tryz.func115, Tryz.ntmps115
  go_wp2
  go_ret
  exact ⟨rfl, rfl⟩
set_option maxHeartbeats 1600000 in
set_option maxRecDepth 100000 in
theorem take16_short {w : World} {g : Nat} {l : List UInt8} {k m : Nat} (h : Rd w g l k false) (hs : l.length - k < m) (hm : m ≤ 8) :
    Calls Tryz.prog 115 #[.pointer (some ⟨g, 0, none⟩), .int .i64 (m : Int)] w fun e w' => e = .returned (.slice none 0 0) ∧ Rd w' g l k true ∧ In g (g + 1) w w' := by
  have hL := left16_any h
  obtain ⟨a, n, c, p, h1, h2, h3, h4, h5⟩ := h
  obtain rfl : p = none := by
    rcases h5 with ⟨_, h⟩ | ⟨h, _⟩
    · exact h
    · cases h
  clear h5
  obtain ⟨c0, c1, c2⟩ := h1.cells
  have hgl := h1.lt
  generalize l.length - k = q at *
  have hq : (q : Int) < (m : Int) := by omega
  go_enter Tryz.func115, Tryz.ntmps115
  go_wp2_with fail
  refine hL.mono ?_
  rintro e w1 ⟨rfl, d, rfl⟩
  clear hL
  have hb1 := below_drewN (Below.refl w.heap.size w) d
  have hE := ended16_any (w := w.drewN d) (g := g) c1
  have h1' := h1.later hb1
  have h2' := h2.later hb1
  obtain ⟨w1, hw1⟩ : ∃ w1, w1 = w.drewN d := ⟨_, rfl⟩
  rw [← hw1] at hb1 hE h1' h2' ⊢
  clear hw1 c0 c1 c2 h1 h2
  obtain ⟨c0, c1, c2⟩ := h1'.cells
  have f2 := h1'.frozen 2
  have hgl1 := h1'.lt
  go_wp2_with fail
  refine hE.mono ?_
  rintro e w2 ⟨rfl, rfl⟩
  clear hE
  obtain ⟨w2, hw2⟩ : ∃ w2, w2 = w1.alloc (.cells #[.int .i64 (k : Int), .iface 73 (.int .i64 160)] 117) := ⟨_, rfl⟩
  have hb2 : Below w1.heap.size w1 w2 := by rw [hw2]; exact alloc_below _
  have hF : FaultAt w2 w1.heap.size (k : Int) 160 := by rw [hw2]; exact ⟨by simp, by simp⟩
  rw [← hw2]
  clear hw2 c0 c1 c2 f2
  have h1'' := h1'.later hb2
  have h2'' := h2'.later hb2
  obtain ⟨c0, c1, c2⟩ := h1''.cells
  have f2 := h1''.frozen 2
  have hS := h1''.set2 (.pointer (some ⟨w1.heap.size, 0, none⟩))
  have hi : In g (g + 1) w2 (w2.setCell ⟨g, 2, none⟩ (.pointer (some ⟨w1.heap.size, 0, none⟩))) := (In.refl _ _ _).set1 _ _
  have hR : Rd (w2.setCell ⟨g, 2, none⟩ (.pointer (some ⟨w1.heap.size, 0, none⟩))) g l k true :=
    ⟨a, n, c, _, hS, h2''.inn hi (fun hn => h2''.off3 h1'' hn), h3, h4, Or.inr ⟨rfl, _, rfl, hF.inn hi (hF.off3 h1'')⟩⟩
  have hI : In g (g + 1) w (w2.setCell ⟨g, 2, none⟩ (.pointer (some ⟨w1.heap.size, 0, none⟩))) := ((In.of_below hb1).trans (In.of_below hb2)).trans hi
  generalize w1.heap.size = G at *
  clear hi hS hF hb1 hb2 h1' h2' h1'' h2''
  go_wp2
  go_ret
  exact ⟨rfl, hR, hI⟩
set_option maxHeartbeats 1600000 in
set_option maxRecDepth 100000 in
theorem take16_ok {w : World} {g : Nat} {l : List UInt8} {k m : Nat} (h : Rd w g l k false) (hs : k + m ≤ l.length) (hm : m ≤ 8) :
    Calls Tryz.prog 115 #[.pointer (some ⟨g, 0, none⟩), .int .i64 (m : Int)] w fun e w' => ∃ a' c', e = .returned (.slice a' m c') ∧ Rb w' a' m c' ((l.drop k).take m) ∧ Rd w' g l (k + m) false ∧ In g (g + 1) w w' := by
  have hL := left16_any h
  obtain ⟨a, n, c, p, h1, h2, h3, h4, h5⟩ := h
  obtain rfl : p = none := by
    rcases h5 with ⟨_, h⟩ | ⟨h, _⟩
    · exact h
    · cases h
  clear h5
  obtain ⟨c0, c1, c2⟩ := h1.cells
  have hgl := h1.lt
  have hln := h2.len
  obtain ⟨q, hq⟩ : ∃ q, q = l.length - k := ⟨_, rfl⟩
  rw [← hq] at hL
  have hq2 : ¬ (q : Int) < (m : Int) := by omega
  rw [hln] at hs hq
  clear hq
  go_enter Tryz.func115, Tryz.ntmps115
  go_wp2_with fail
  refine hL.mono ?_
  rintro e w1 ⟨rfl, d, rfl⟩
  clear hL
  have hb1 := below_drewN (Below.refl w.heap.size w) d
  have h1' := h1.later hb1
  have h2' := h2.later hb1
  obtain ⟨w1, hw1⟩ : ∃ w1, w1 = w.drewN d := ⟨_, rfl⟩
  rw [← hw1] at hb1 h1' h2' ⊢
  clear hw1 c0 c1 c2 h1 h2
  obtain ⟨c0, c1, c2⟩ := h1'.cells
  have f1 := h1'.frozen 1
  have hS := h1'.set1 (.int .i64 ((k + m : Nat) : Int))
  have hi : In g (g + 1) w1 (w1.setCell ⟨g, 1, none⟩ (.int .i64 ((k + m : Nat) : Int))) := (In.refl _ _ _).set1 _ _
  have hr := h2'.inn hi (fun hn => h2'.off3 h1' hn)
  have e1 : (k : Int) + (m : Int) = ((k + m : Nat) : Int) := by omega
  have hcc := h2'.2
  have hkc : ((k + m : Nat) : Int) ≤ (c : Int) := by omega
  have hkk : (k : Int) ≤ ((k + m : Nat) : Int) := by omega
  have hk9 : ((k + m : Nat) : Int) ≤ 100000000 := by omega
  have hk0 : (0 : Int) ≤ ((k + m : Nat) : Int) := by omega
  obtain ⟨K, hK⟩ : ∃ K, K = k + m := ⟨_, rfl⟩
  have HK : Hid (K = k + m) := hK
  rw [← hK] at hS hi hr e1 hkc hkk hk9 hk0
  clear hK
  go_upto_region 7 with fail
  generalize w1.setCell ⟨g, 1, none⟩ (.int .i64 (K : Int)) = W at *
  clear c0 c1 c2 f1 h1' h2'
  obtain ⟨c0, c1, c2⟩ := hS.cells
  have e2 : ((K : Int) - (k : Int)).toNat = m := by have := HK.out; omega
  have e3 : K - k = m := by have := HK.out; omega
  have hkn : (k : Int) ≤ (c : Int) := by omega
  go_quiet (fail)
  generalize hA : (if c = k then a else Option.map (fun x => x.add k) a) = A
  have hbq := below_drewN (Below.refl W.heap.size W) nq
  have hrA : Rb W A m (c - k) ((l.drop k).take m) := (hr.drop (k := k) (m := n - k) (c' := c - k) (a' := A) h3 rfl (by omega) (by omega) (fun hp g o e => by
    rw [← hA, if_neg (by omega), e]
    show some ((⟨g, o, none⟩ : Addr).add k) = _
    unfold Addr.add
    split <;> simp_all)).take (by omega) (by omega) (by omega)
  have hRd : Rd (W.drewN nq) g l (k + m) false := by
    rw [← HK.out]
    exact ⟨a, n, c, none, hS.later hbq, hr.later hbq, by have := HK.out; omega, h4, Or.inl ⟨rfl, rfl⟩⟩
  have hI : In g (g + 1) w (W.drewN nq) := ((In.of_below hb1).trans hi).later hbq
  have hrB := hrA.later hbq
  clear hA hr hS hi hb1 hbq hrA c0 c1 c2 e1 e2 e3
  go_wp2
  go_ret
  exact ⟨_, _, rfl, hrB, hRd, hI⟩
/-- where a reader stands behind a call of m bytes, whether it has an error, what it tells -/
def Oc.rK (l : List UInt8) (k : Nat) (F : Bool) (m : Nat) : Nat := if F = true ∨ l.length - k < m then k else k + m
def Oc.rF (l : List UInt8) (k : Nat) (F : Bool) (m : Nat) : Bool := F || decide (l.length - k < m)
def Oc.rV (l : List UInt8) (k : Nat) (F : Bool) (m : Nat) (little : Bool) : Nat := if F = true ∨ l.length - k < m then 0 else numO ((l.drop k).take m) little
theorem Oc.rV_lt (l : List UInt8) (k : Nat) (F : Bool) (m : Nat) (little : Bool) : rV l k F m little < 256 ^ m := by
  unfold rV
  split
  · exact Nat.pow_pos (by decide)
  · have h := numO_lt ((l.drop k).take m) little
    exact Nat.lt_of_lt_of_le h (Nat.pow_le_pow_right (by decide) (by rw [List.length_take]; omega))
theorem Rd.le {w : World} {g : Nat} {l : List UInt8} {k : Nat} {F : Bool} (h : Rd w g l k F) : k ≤ l.length ∧ l.length ≤ 100000000 := by
  obtain ⟨a, n, c, p, h1, h2, h3, h4, h5⟩ := h
  rw [h2.len]
  exact ⟨h3, h4⟩
/-- the three ways together: what take and number come to -/
theorem take16_any {w : World} {g : Nat} {l : List UInt8} {k m : Nat} {F : Bool} (h : Rd w g l k F) (hm : m ≤ 8) (h1 : 1 ≤ m) :
    Calls Tryz.prog 115 #[.pointer (some ⟨g, 0, none⟩), .int .i64 (m : Int)] w fun e w' => ∃ a' n' c' s, e = .returned (.slice a' n' c') ∧ Rb w' a' n' c' s ∧ n' ≤ 8 ∧ (∀ little, numO s little = rV l k F m little) ∧ Rd w' g l (rK l k F m) (rF l k F m) ∧ In g (g + 1) w w' := by
  cases F
  · by_cases hs : l.length - k < m
    · refine (take16_short h hs hm).mono ?_
      rintro e w' ⟨rfl, hR, hI⟩
      refine ⟨none, 0, 0, [], rfl, Rb.nil _ _ _ (by omega), by omega, fun little => ?_, ?_, hI⟩
      · unfold rV; rw [if_pos (Or.inr hs)]; cases little <;> rfl
      · unfold rK rF; rw [if_pos (Or.inr hs), decide_eq_true hs]; exact hR
    · have := h.le
      refine (take16_ok h (m := m) (by omega) hm).mono ?_
      rintro e w' ⟨a', c', rfl, hr, hR, hI⟩
      have hn : ¬ (false = true ∨ l.length - k < m) := by simp; omega
      refine ⟨a', m, c', _, rfl, hr, hm, fun little => ?_, ?_, hI⟩
      · unfold rV; rw [if_neg hn]
      · unfold rK rF; rw [if_neg hn, decide_eq_false hs]; exact hR
  · refine (take16_err h _).mono ?_
    rintro e w' ⟨rfl, rfl⟩
    refine ⟨none, 0, 0, [], rfl, Rb.nil _ _ _ (by omega), by omega, fun little => ?_, ?_, In.refl _ _ _⟩
    · unfold rV; rw [if_pos (Or.inl rfl)]; cases little <;> rfl
    · unfold rK rF; rw [if_pos (Or.inl rfl)]; exact h
set_option maxHeartbeats 1600000 in
set_option maxRecDepth 100000 in
theorem byte16_any {w : World} {g : Nat} {l : List UInt8} {k : Nat} {F : Bool} (h : Rd w g l k F) :
    Calls Tryz.prog 100 #[.pointer (some ⟨g, 0, none⟩)] w fun e w' => e = .returned (.int .u8 ((rV l k F 1 false : Nat) : Int)) ∧ Rd w' g l (rK l k F 1) (rF l k F 1) ∧ In g (g + 1) w w' := by
  have hT := take16_any h (m := 1) (by omega) (by omega)
  have hv := rV_lt l k F 1 false
  rw [Nat.pow_one] at hv
  go_enter Tryz.func100, Tryz.ntmps100
  go_wp2_with fail
  refine hT.mono ?_
  rintro e w1 ⟨a', n', c', s, rfl, hr, hn, hV, hR, hI⟩
  have hN := number16_any (little := false) hr hn
  rw [hV false] at hN
  obtain ⟨V, hV0⟩ : ∃ V, V = rV l k F 1 false := ⟨_, rfl⟩
  have HV : Hid (V = rV l k F 1 false) := hV0
  rw [← hV0] at hN hv
  clear hV0
  have hV8 : (V : Int) % 256 = (V : Int) := by omega
  clear hT hr hV
  go_wp2_with fail
  refine hN.mono ?_
  rintro e w2 ⟨rfl, rfl⟩
  clear hN
  go_wp2
  go_ret
  exact ⟨ret_int (by rw [HV.out]), hR, hI⟩
set_option maxHeartbeats 1600000 in
set_option maxRecDepth 100000 in
theorem word32_any {w : World} {g : Nat} {l : List UInt8} {k : Nat} {F little : Bool} (h : Rd w g l k F) :
    Calls Tryz.prog 102 #[.pointer (some ⟨g, 0, none⟩), .bool little] w fun e w' => e = .returned (.int .u32 ((rV l k F 4 little : Nat) : Int)) ∧ Rd w' g l (rK l k F 4) (rF l k F 4) ∧ In g (g + 1) w w' := by
  have hT := take16_any h (m := 4) (by omega) (by omega)
  have hv := rV_lt l k F 4 little
  have h4 : (256 : Nat) ^ 4 = 4294967296 := by decide
  rw [h4] at hv
  clear h4
  go_enter Tryz.func102, Tryz.ntmps102
  go_wp2_with fail
  refine hT.mono ?_
  rintro e w1 ⟨a', n', c', s, rfl, hr, hn, hV, hR, hI⟩
  have hN := number16_any (little := little) hr hn
  rw [hV little] at hN
  obtain ⟨V, hV0⟩ : ∃ V, V = rV l k F 4 little := ⟨_, rfl⟩
  have HV : Hid (V = rV l k F 4 little) := hV0
  rw [← hV0] at hN hv
  clear hV0
  have hV8 : (V : Int) % 4294967296 = (V : Int) := by omega
  clear hT hr hV
  go_wp2_with fail
  refine hN.mono ?_
  rintro e w2 ⟨rfl, rfl⟩
  clear hN
  go_wp2
  go_ret
  exact ⟨ret_int (by rw [HV.out]), hR, hI⟩
set_option maxHeartbeats 1600000 in
set_option maxRecDepth 100000 in
theorem word64_any {w : World} {g : Nat} {l : List UInt8} {k : Nat} {F little : Bool} (h : Rd w g l k F) :
    Calls Tryz.prog 117 #[.pointer (some ⟨g, 0, none⟩), .bool little] w fun e w' => e = .returned (.int .u64 ((rV l k F 8 little : Nat) : Int)) ∧ Rd w' g l (rK l k F 8) (rF l k F 8) ∧ In g (g + 1) w w' := by
  have hT := take16_any h (m := 8) (by omega) (by omega)
  go_enter Tryz.func117, Tryz.ntmps117
  go_wp2_with fail
  refine hT.mono ?_
  rintro e w1 ⟨a', n', c', s, rfl, hr, hn, hV, hR, hI⟩
  have hN := number16_any (little := little) hr hn
  rw [hV little] at hN
  obtain ⟨V, hV0⟩ : ∃ V, V = rV l k F 8 little := ⟨_, rfl⟩
  have HV : Hid (V = rV l k F 8 little) := hV0
  rw [← hV0] at hN
  clear hV0
  clear hT hr hV
  go_wp2_with fail
  refine hN.mono ?_
  rintro e w2 ⟨rfl, rfl⟩
  clear hN
  go_wp2
  go_ret
  exact ⟨ret_int (by rw [HV.out]), hR, hI⟩
theorem iface_same (w : World) (d : Nat) (x : Int) : (Op.equalIn (d + 2) 33 (.iface 73 (.int .i64 x)) (.iface 73 (.int .i64 x))).run Tryz.prog w = .ok true w := by
  have hi : ∃ ms, Tryz.prog.underlying 33 = some (.interface ms) := ⟨_, Tryz.underlying33⟩
  obtain ⟨ms, hi⟩ := hi
  have hn : Tryz.prog.underlying 73 = some (.int .i64) := Tryz.underlying73
  have hc : (Tryz.prog.info? 73).map (·.comparable) = some true := by kernel_rfl
  obtain ⟨i, hinfo, hcomp⟩ := Option.map_eq_some_iff.1 hc
  simp [Op.equalIn, run_underlying hi, run_underlying hn, typeInfo, hinfo, hcomp]
theorem fault_same (w : World) (k : Int) : (Op.equalIn 10000 117 (.agg #[.int .i64 k, .iface 73 (.int .i64 160)]) (.agg #[.int .i64 k, .iface 73 (.int .i64 160)])).run Tryz.prog w = .ok true w := by
  rw [show (10000 : Nat) = 9999 + 1 from rfl, run_equalIn_struct w 9999 117 _ _ (by kernel_rfl) (by kernel_rfl)]
  have e2 := iface_same w 9997 160
  rw [show (9997 : Nat) + 2 = 9999 from rfl] at e2
  simp [Program.fieldsOf, Tryz.underlying117, Op.eqFields, part, e2, go_sem]
theorem guard_int (w : World) (d : Nat) (x y : Int) : (Op.eqGuardIn (d + 1) 3 (.int .i64 x) (.int .i64 y)).run Tryz.prog w = .ok false w := by
  rw [Op.eqGuardIn]
  simp only [Sem.run_bind, run_underlying Tryz.underlying3, Result.andThen_ok]
  rfl
theorem guard_iface (w : World) (d : Nat) (u v : TypeId) (x y : Value) : (Op.eqGuardIn (d + 1) 33 (.iface u x) (.iface v y)).run Tryz.prog w = .ok false w := by
  rw [Op.eqGuardIn]
  simp only [Sem.run_bind, run_underlying Tryz.underlying33, Result.andThen_ok]
  rfl
theorem guard_fault (w : World) (d : Nat) (k : Int) (u : TypeId) (x : Value) : (Op.eqGuardIn (d + 2) 117 (.agg #[.int .i64 k, .iface u x]) (.agg #[.int .i64 k, .iface u x])).run Tryz.prog w = .ok false w := by
  have e1 := fun w => guard_int w d k k
  have e2 := fun w => guard_iface w d u u x x
  rw [show d + 2 = (d + 1) + 1 from rfl, Op.eqGuardIn]
  simp only [Sem.run_bind, run_underlying Tryz.underlying117, Result.andThen_ok]
  rw [← Array.forIn_toList]
  simp [part, e1, e2, go_sem]
theorem fault_guard (w : World) (x y : Operand) (k : Int) : (eqGuard .neq 117 x y (.agg #[.int .i64 k, .iface 73 (.int .i64 160)]) (.agg #[.int .i64 k, .iface 73 (.int .i64 160)])).run Tryz.prog w = .ok () w := by
  have hm : Tryz.prog.eqGuardType Tryz.prog.depth 117 = true := by kernel_rfl
  have hg : (Op.eqGuardIn Op.maxDepth 117 (.agg #[.int .i64 k, .iface 73 (.int .i64 160)]) (.agg #[.int .i64 k, .iface 73 (.int .i64 160)])).run Tryz.prog w = .ok false w := guard_fault w 9998 k 73 (.int .i64 160)
  simp [eqGuard, run_program, hm, hg]
set_option maxHeartbeats 1600000 in
set_option maxRecDepth 100000 in
theorem err16_none {w : World} {g : Nat} {l : List UInt8} {k : Nat} (h : Rd w g l k false) :
    Calls Tryz.prog 113 #[.pointer (some ⟨g, 0, none⟩)] w fun e w' => e = .returned .nilIface ∧ w' = w := by
  obtain ⟨a, n, c, p, h1, h2, h3, h4, h5⟩ := h
  obtain rfl : p = none := by
    rcases h5 with ⟨_, h⟩ | ⟨h, _⟩
    · exact h
    · cases h
  obtain ⟨c0, c1, c2⟩ := h1.cells
  clear h1 h2 h5
  go_enter Tryz.func113, Tryz.ntmps113
  go_wp2
  go_ret
  exact ⟨rfl, rfl⟩
set_option maxHeartbeats 1600000 in
set_option maxRecDepth 100000 in
theorem err16_some {w : World} {g : Nat} {l : List UInt8} {k : Nat} (h : Rd w g l k true) :
    Calls Tryz.prog 113 #[.pointer (some ⟨g, 0, none⟩)] w fun e w' => ∃ f, e = .returned (.iface 114 (.pointer (some ⟨f, 0, none⟩))) ∧ FaultAt w' f (k : Int) 160 ∧ Below w.heap.size w w' := by
  obtain ⟨a, n, c, p, h1, h2, h3, h4, h5⟩ := h
  obtain ⟨f, rfl, hF⟩ : ∃ f, p = some ⟨f, 0, none⟩ ∧ FaultAt w f (k : Int) 160 := by
    rcases h5 with ⟨h, _⟩ | ⟨_, h⟩
    · cases h
    · exact h
  obtain ⟨c0, c1, c2⟩ := h1.cells
  have hE := ended16_any c1
  go_enter Tryz.func113, Tryz.ntmps113
  go_wp2_with fail
  refine hE.mono ?_
  rintro e w1 ⟨rfl, rfl⟩
  clear hE c0 c1 c2
  obtain ⟨w1, hw1⟩ : ∃ w1, w1 = w.alloc (.cells #[.int .i64 (k : Int), .iface 73 (.int .i64 160)] 117) := ⟨_, rfl⟩
  have hb1 : Below w.heap.size w w1 := by rw [hw1]; exact alloc_below _
  have hF1 : FaultAt w1 w.heap.size (k : Int) 160 := by rw [hw1]; exact ⟨by simp, by simp⟩
  rw [← hw1]
  clear hw1
  have hF2 := hF.later hb1
  obtain ⟨c0, c1, c2⟩ := (h1.later hb1).cells
  obtain ⟨d0, d1⟩ := hF1
  obtain ⟨f0, f1⟩ := hF2
  have hq : ∀ w, (binOp .neq 117 (.agg #[.int .i64 (k : Int), .iface 73 (.int .i64 160)]) (.agg #[.int .i64 (k : Int), .iface 73 (.int .i64 160)])).run Tryz.prog w = .ok (.bool false) w := fun w => by
    rw [run_neq_struct, fault_same]
    rfl
  have hgd := fun w x y => fault_guard w x y (k : Int)
  have hF3 : FaultAt w1 f (k : Int) 160 := ⟨f0, f1⟩
  clear h1 h2 h5 hF
  obtain ⟨G, hG⟩ : ∃ G, G = w.heap.size := ⟨_, rfl⟩
  have HG : Hid (G = w.heap.size) := hG
  rw [← hG] at d0 d1 ⊢
  clear hG
  go_wp2
  go_quiet (fail)
  have hF4 := hF3.later (below_drewN (Below.refl _ _) nq)
  have hb4 := below_drewN hb1 nq
  clear hF3 hb1
  go_wp2
  go_ret
  exact ⟨f, rfl, hF4, hb4⟩
end Go.Proofs.YtgobnjeankjkjaaGreatDoor


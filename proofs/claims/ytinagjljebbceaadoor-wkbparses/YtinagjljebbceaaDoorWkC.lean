/- Layer 17: lists of points: lines, rings. -/
import Derived.Test.YtinagjljebbceaaDoorWkB
namespace Go.Proofs.YtinagjljebbceaaDoor
open Go.ChangeShapes Go.WideShapes Go.ChangeAt Go.RowKit
open Ep Oc Tr Wk
set_option linter.unusedVariables false
/-- a list of points that a walk lays -/
def Pln (w0 w : World) (gw gr : Nat) (D : Int) (l : List UInt8) (v : Value) (os : List Bool) (r : Rs (List Pt)) (e : Ending) (w' : World) : Prop :=
  match r with
  | .ok ps k' => ∃ u, e = .returned u ∧ WkS w0 w' gw gr D l k' v os ∧ Ch (Ex gw gr v) w w' ∧ (ps.length ≤ 1048576 → Pts (fun i => w.heap.size ≤ i ∧ i < w'.heap.size) w' u ps) ∧ ∃ a c, u = .slice a ps.length c ∧ ps.length ≤ c
  | .bad p c => Flw e p c ∧ Below w0.heap.size w0 w'
theorem info_pt7 : (Tryd.prog.info? 93).map (fun i => (i.zero, i.size, i.bytes)) = some (some (.agg #[.int .u64 0, .int .u64 0]), 2, 16) := by kernel_rfl
theorem zero_pt7 : ∀ x ∈ (Value.agg #[.int .u64 0, .int .u64 0]).cells.toList, NB8 x := by
  intro x hx z
  simp [Value.cells] at hx
  rcases hx with rfl | rfl <;> simp
theorem place_u6 {l : List UInt8} {k k' : Nat} {little : Bool} {q : Pt} (h : placeS l k little = .ok q k') : U6 q.1 ∧ U6 q.2 := by
  obtain ⟨x, j, h1, h2⟩ := bind_inv (r := patsS l k little) h
  obtain ⟨y, j2, h3, h4⟩ := bind_inv h2
  have a := pats_lt h1
  injection h4 with h5 h6
  subst h5
  exact ⟨⟨by simp [pt], by simp only [pt]; omega⟩, ⟨by simp [pt], by simp only [pt]; omega⟩⟩
set_option maxHeartbeats 3200000 in
set_option maxRecDepth 100000 in
theorem members_pt {w0 w : World} {gw gr : Nat} {D : Int} {l : List UInt8} {k : Nat} {v : Value} {os : List Bool} (h : WkS w0 w gw gr D l k v os) (hE : ErrVar w0) {b1 b2 n : Nat} {little : Bool} (h1 : Bx w b1 164 (.pointer (some ⟨gw, 0, none⟩))) (h2 : Bx w b2 4 (.bool little)) (x1 : ¬ Ex gw gr v b1) (x2 : ¬ Ex gw gr v b2) (hn : n ≤ 100000) :
    Calls Tryd.prog 109 #[.int .i64 (n : Int), .func (.func 110) #[] #[.pointer (some ⟨b1, 0, none⟩), .pointer (some ⟨b2, 0, none⟩)]] w (Pln w0 w gw gr D l v os (many (fun j => placeS l j little) n k)) := by
  have HB1 : Hid (Bx w b1 164 (.pointer (some ⟨gw, 0, none⟩))) := h1
  have HB2 : Hid (Bx w b2 4 (.bool little)) := h2
  have HX : Hid (¬ Ex gw gr v b1 ∧ ¬ Ex gw gr v b2) := ⟨x1, x2⟩
  have HO : Hid (∀ b, w.heap.size ≤ b → b ≠ gr ∧ b ≠ gw ∧ v.ownBlock ≠ some b ∧ w0.heap.size ≤ b) := fun b hb => h.old hb
  clear h1 h2 x1 x2
  go_enter Tryd.func109, Tryd.ntmps109
  go_wp2
  go_loopw [5, 7] (fun ov i wr => ∃ (j kj : Nat) (ps : List Pt), i = .int .i64 (j : Int) ∧ j ≤ n ∧ Hid (ps.length = j) ∧ Hid (∀ q ∈ ps, U6 q.1 ∧ U6 q.2) ∧ Hid (Rs.pre ps (many (fun j => placeS l j little) (n - j) kj) = many (fun j => placeS l j little) n k) ∧ Hid (WkS w0 wr gw gr D l kj v os) ∧ Hid (Ch (Ex gw gr v) w wr) ∧ Hid (Nw wr w.heap.size 93 2 ov ps.length (ptcs ps))) (fun _ i _ => n - (intOf i).toNat)
  case atStart => exact ⟨0, k, [], rfl, Nat.zero_le _, rfl, (fun q hq => by cases hq), pre_nil _, h, Ch.refl _ _, Nw.nil _ _ _ _⟩
  case round =>
    obtain ⟨j, kj, ps, rfl, hj, HL, HU, HM, HS, HC, HN⟩ := hrel
    by_cases hlt : j < n
    · have hB1 := HB1.out.ch HC.out HX.out.1
      have hB2 := HB2.out.ch HC.out HX.out.2
      have hP := line1_any HS.out hE hB1 hB2
      obtain ⟨m, hm⟩ : ∃ m, n - j = m + 1 := ⟨n - j - 1, by omega⟩
      have hm2 : n - (j + 1) = m := by omega
      clear hB1 hB2 h
      cases hp : placeS l kj little with
      | bad p c =>
        rw [hp] at hP
        have HR : Hid (many (fun j => placeS l j little) n k = .bad p c) := by show _ = _; rw [← HM.out, hm, many_bad ps hp]
        clear hp hm hm2 HM HN HC HS hE
        go_wp2_with fail
        refine hP.mono ?_
        rintro e w3 ⟨hf, hb⟩
        rw [flw_of hf]
        clear hP
        go_wp2
        refine ⟨rfl, ?_⟩
        unfold Pln
        rw [HR.out]
        exact ⟨rfl, hb⟩
      | ok q k1 =>
        rw [hp] at hP
        have hq6 := place_u6 hp
        have HM2 : Hid (Rs.pre (ps ++ [q]) (many (fun j => placeS l j little) (n - (j + 1)) k1) = many (fun j => placeS l j little) n k) := by show _ = _; rw [← HM.out, hm, hm2, many_ok ps hp]
        have HU2 : Hid (∀ u ∈ ps ++ [q], U6 u.1 ∧ U6 u.2) := fun u hu => by
          rcases List.mem_append.1 hu with hu | hu
          · exact HU.out u hu
          · rw [List.mem_singleton.1 hu]; exact hq6
        obtain ⟨x, y⟩ := q
        clear hp hm hm2 HM HU hq6
        go_wp2_with fail
        refine hP.mono ?_
        rintro e w3 ⟨rfl, hS3, hC3⟩
        clear hP
        simp only [ptV]
        have hN3 : Nw w3 w.heap.size 93 2 u5 ps.length (ptcs ps) := HN.out.keep (fun g hg => hC3.block g (HN.out.blk hg).2.1 (fun q => by
          have := HO.out g (HN.out.blk hg).1
          rcases q with q | q | q
          · exact this.1 q
          · exact this.2.1 q
          · exact this.2.2.1 q))
        have hC : Ch (Ex gw gr v) w w3 := HC.out.trans hC3 (fun _ _ x => x)
        have hs3 : w.heap.size ≤ w3.heap.size := hC.size
        obtain ⟨W4, hW4⟩ : ∃ W4, W4 = w3.alloc (.cells #[.int .u64 x, .int .u64 y] 93) := ⟨_, rfl⟩
        have hb4 : Below w3.heap.size w3 W4 := by rw [hW4]; exact alloc_below _
        have hB4 : W4.heap[w3.heap.size]? = some (.cells #[.int .u64 x, .int .u64 y] 93 (0, 0)) := by rw [hW4]; exact heap_alloc_new _ _
        have hN4 : Nw W4 w.heap.size 93 2 u5 ps.length (ptcs ps) := hN3.keep (fun g hg => hb4.block g (hN3.blk hg).2.1)
        have HS4 : Hid (WkS w0 W4 gw gr D l k1 v os) := hS3.later hb4
        have HC4 : Hid (Ch (Ex gw gr v) w W4) := hC.trans (Ch.of_below (X := Ex gw gr v) hb4) (fun _ _ x => x)
        have hq4 : ∀ j u, [Value.int .u64 x, Value.int .u64 y][j]? = some u → W4.cell? ⟨w3.heap.size, j, none⟩ = some u := fun j u hu => by
          rw [cell_of hB4 j]
          simpa using hu
        have hs4 : w.heap.size ≤ W4.heap.size := Nat.le_trans hs3 hb4.size
        have hl9 : ps.length ≤ 1000000 := by rw [HL.out]; omega
        have HW4 : Hid (w3.alloc (.cells #[.int .u64 x, .int .u64 y] 93) = W4) := hW4.symm
        clear hN3 hC hS3 hC3 HS HC HN hb4 hB4 hW4
        go_wp2_with (at_builtin; rw [HW4.out]; refine wpList_appN rfl _ _ 22 93 rfl Tryd.underlying22 info_pt7 rfl (by decide) zero_pt7 rfl hN4 rfl rfl hq4 (by simp [Value.oneCell']) (by simp [NB8]) hl9 (by decide) hs4 ?_)
        intro v' w5 hN5 hg5 ho5
        have HN5 : Hid (Nw w5 w.heap.size 93 2 v' (ps ++ [(x, y)]).length (ptcs (ps ++ [(x, y)]))) := by
          show Nw _ _ _ _ _ _ _
          rw [ptcs_snoc, List.length_append]
          exact hN5
        have HS5 : Hid (WkS w0 w5 gw gr D l k1 v os) := HS4.out.grown hg5 (fun b hb => by
          have q := hN4.blk hb
          have := HO.out b q.1
          exact ⟨this.2.2.2, this.1, this.2.1, this.2.2.1, q.2.2⟩)
        have HC5 : Hid (Ch (Ex gw gr v) w w5) := HC4.out.trans (Ch.of_grown (X := fun i => w.heap.size ≤ i) hg5 (fun b hb => (hN4.blk hb).1)) (fun i hi q => by omega)
        clear hN5 hg5 ho5 hN4 hq4 HS4 HC4
        go_wp2
        go_roundw
        case rel => exact ⟨j + 1, k1, ps ++ [(x, y)], by go_num, by omega, by show _ = _; rw [List.length_append, HL.out]; rfl, HU2, HM2, HS5, HC5, HN5⟩
        case measure => simp [intOf]; omega
    · have hjn : j = n := by omega
      subst hjn
      have HR : Hid (many (fun j => placeS l j little) j k = .ok ps kj) := by
        show _ = _
        rw [← HM.out, Nat.sub_self]
        show Rs.ok (ps ++ []) kj = _
        rw [List.append_nil]
      obtain ⟨a, c, rfl, hc⟩ := own_slice HN.out.own
      go_wp2
      go_ret
      unfold Pln
      rw [HR.out]
      refine ⟨_, rfl, HS.out, HC.out, fun hle => ?_, a, c, rfl, hc⟩
      exact (pts_of HN.out.own HU.out hle).mono (fun i hi => ⟨(HN.out.blk hi).1, (HN.out.blk hi).2.1⟩)
end Go.Proofs.YtinagjljebbceaaDoor

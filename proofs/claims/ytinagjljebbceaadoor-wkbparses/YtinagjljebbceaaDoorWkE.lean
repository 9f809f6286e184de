/- Layer 17: the rings of a polygon. -/
import Derived.Test.YtinagjljebbceaaDoorWkD
namespace Go.Proofs.YtinagjljebbceaaDoor
open Go.ChangeShapes Go.WideShapes Go.ChangeAt Go.RowKit
open Ep Oc Tr Wk
set_option linter.unusedVariables false
def Prs (w0 w : World) (gw gr : Nat) (D : Int) (l : List UInt8) (v : Value) (os : List Bool) (r : Rs (List (List Pt))) (e : Ending) (w' : World) : Prop :=
  match r with
  | .ok rs k' => ∃ u, e = .returned u ∧ WkS w0 w' gw gr D l k' v os ∧ Ch (Ex gw gr v) w w' ∧ (rs.length ≤ 1048576 → Rgs (fun i => w.heap.size ≤ i ∧ i < w'.heap.size) w' u rs)
  | .bad p c => Flw e p c ∧ Below w0.heap.size w0 w'
theorem ring_len {l : List UInt8} {k k' : Nat} {little : Bool} {ps : List Pt} (hl : l.length ≤ 65536) (h : ringS l k little = .ok ps k') : ps.length ≤ 1048576 := by
  obtain ⟨n, j, h1, h2⟩ := bind_inv (r := lineS l k little) h
  have := line_len hl h1
  split at h2
  · cases h2
  · injection h2 with h3 h4
    subst h3
    exact this
set_option maxHeartbeats 3200000 in
set_option maxRecDepth 100000 in
theorem ring1_any {w0 w : World} {gw gr : Nat} {D : Int} {l : List UInt8} {k : Nat} {v : Value} {os : List Bool} (h : WkS w0 w gw gr D l k v os) (hE : ErrVar w0) (hl : l.length ≤ 65536) {b1 b2 : Nat} {little : Bool} (h1 : Bx w b1 164 (.pointer (some ⟨gw, 0, none⟩))) (h2 : Bx w b2 4 (.bool little)) :
    Calls Tryd.prog 82 #[.pointer (some ⟨b1, 0, none⟩), .pointer (some ⟨b2, 0, none⟩)] w (Pln w0 w gw gr D l v os (ringS l k little)) := by
  have hP := ring17_any h hE hl little
  have c1 := h1.cell
  have c2 := h2.cell
  clear h h1 h2 hE
  cases hr : ringS l k little with
  | bad p c =>
    rw [hr] at hP
    go_enter Tryd.func82, Tryd.ntmps82
    go_wp2_with fail
    refine hP.mono ?_
    rintro e w3 ⟨hf, hb⟩
    rw [flw_of hf]
    clear hP
    go_wp2
    exact ⟨rfl, rfl, hb⟩
  | ok ps k1 =>
    rw [hr] at hP
    go_enter Tryd.func82, Tryd.ntmps82
    go_wp2_with fail
    refine hP.mono ?_
    rintro e w3 ⟨u, rfl, q2, q3, q4, a, c, rfl, hac⟩
    clear hP
    go_wp2
    go_ret
    exact ⟨_, rfl, q2, q3, q4, a, c, rfl, hac⟩
theorem info_spt7 : (Tryd.prog.info? 22).map (fun i => (i.zero, i.size, i.bytes)) = some (some (.slice none 0 0), 1, 24) := by kernel_rfl
theorem zero_spt7 : ∀ x ∈ (Value.slice none 0 0).cells.toList, NB8 x := by
  intro x hx z
  simp [Value.cells] at hx
  subst hx
  simp
set_option maxHeartbeats 3200000 in
set_option maxRecDepth 100000 in
theorem members_rg {w0 w : World} {gw gr : Nat} {D : Int} {l : List UInt8} {k : Nat} {v : Value} {os : List Bool} (h : WkS w0 w gw gr D l k v os) (hE : ErrVar w0) (hl : l.length ≤ 65536) {b1 b2 n : Nat} {little : Bool} (h1 : Bx w b1 164 (.pointer (some ⟨gw, 0, none⟩))) (h2 : Bx w b2 4 (.bool little)) (x1 : ¬ Ex gw gr v b1) (x2 : ¬ Ex gw gr v b2) (hn : n ≤ 100000) :
    Calls Tryd.prog 81 #[.int .i64 (n : Int), .func (.func 82) #[] #[.pointer (some ⟨b1, 0, none⟩), .pointer (some ⟨b2, 0, none⟩)]] w (Prs w0 w gw gr D l v os (many (fun j => ringS l j little) n k)) := by
  have HB1 : Hid (Bx w b1 164 (.pointer (some ⟨gw, 0, none⟩))) := h1
  have HB2 : Hid (Bx w b2 4 (.bool little)) := h2
  have HX : Hid (¬ Ex gw gr v b1 ∧ ¬ Ex gw gr v b2) := ⟨x1, x2⟩
  have HO : Hid (∀ b, w.heap.size ≤ b → b ≠ gr ∧ b ≠ gw ∧ v.ownBlock ≠ some b ∧ w0.heap.size ≤ b) := fun b hb => h.old hb
  clear h1 h2 x1 x2
  go_enter Tryd.func81, Tryd.ntmps81
  go_wp2
  go_loopw [5, 7] (fun ov i wr => ∃ (j kj : Nat) (ps : List (List Pt)) (xs : List Value), i = .int .i64 (j : Int) ∧ j ≤ n ∧ Hid (ps.length = j) ∧ Hid (Rs.pre ps (many (fun j => ringS l j little) (n - j) kj) = many (fun j => ringS l j little) n k) ∧ Hid (WkS w0 wr gw gr D l kj v os) ∧ Hid (Ch (Ex gw gr v) w wr) ∧ Hid (Nw wr w.heap.size 22 1 ov ps.length xs) ∧ Hid (Lrow (fun i => w.heap.size ≤ i ∧ i < wr.heap.size ∧ ov.ownBlock ≠ some i) wr xs ps)) (fun _ i _ => n - (intOf i).toNat)
  case atStart => exact ⟨0, k, [], [], rfl, Nat.zero_le _, rfl, pre_nil _, h, Ch.refl _ _, Nw.nil _ _ _ _, trivial⟩
  case round =>
    obtain ⟨j, kj, ps, xs, rfl, hj, HL, HM, HS, HC, HN, HR⟩ := hrel
    by_cases hlt : j < n
    · have hB1 := HB1.out.ch HC.out HX.out.1
      have hB2 := HB2.out.ch HC.out HX.out.2
      have hP := ring1_any HS.out hE hl hB1 hB2
      obtain ⟨m, hm⟩ : ∃ m, n - j = m + 1 := ⟨n - j - 1, by omega⟩
      have hm2 : n - (j + 1) = m := by omega
      clear hB1 hB2 h
      cases hp : ringS l kj little with
      | bad p c =>
        rw [hp] at hP
        have HA : Hid (many (fun j => ringS l j little) n k = .bad p c) := by show _ = _; rw [← HM.out, hm, many_bad ps hp]
        clear hp hm hm2 HM HN HC HS hE HR
        go_wp2_with fail
        refine hP.mono ?_
        rintro e w3 ⟨hf, hb⟩
        rw [flw_of hf]
        clear hP
        go_wp2
        refine ⟨rfl, ?_⟩
        unfold Prs
        rw [HA.out]
        exact ⟨rfl, hb⟩
      | ok q k1 =>
        rw [hp] at hP
        have HQ9 : Hid (q.length ≤ 1048576) := ring_len hl hp
        have HM2 : Hid (Rs.pre (ps ++ [q]) (many (fun j => ringS l j little) (n - (j + 1)) k1) = many (fun j => ringS l j little) n k) := by show _ = _; rw [← HM.out, hm, hm2, many_ok ps hp]
        clear hp hm hm2 HM
        go_wp2_with fail
        refine hP.mono ?_
        rintro e w3 ⟨u, rfl, hS3, hC3, hPt, ua, uc, hu, huc⟩
        clear hP
        have hnx : ∀ i, w.heap.size ≤ i → ¬ Ex gw gr v i := fun i hi q => by
          have := HO.out i hi
          rcases q with q | q | q
          · exact this.1 q
          · exact this.2.1 q
          · exact this.2.2.1 q
        have hN3 : Nw w3 w.heap.size 22 1 u5 ps.length xs := HN.out.keep (fun g hg => hC3.block g (HN.out.blk hg).2.1 (hnx g (HN.out.blk hg).1))
        have hL3 : Lrow (fun i => w.heap.size ≤ i ∧ i < wr.heap.size ∧ u5.ownBlock ≠ some i) w3 xs ps := HR.out.below (hC3.kp (fun i hi => ⟨hi.2.1, hnx i hi.1⟩))
        have hC : Ch (Ex gw gr v) w w3 := HC.out.trans hC3 (fun _ _ x => x)
        have hs3 : w.heap.size ≤ w3.heap.size := hC.size
        have hsr : wr.heap.size ≤ w3.heap.size := hC3.size
        have hswr : w.heap.size ≤ wr.heap.size := HC.out.size
        have hL3' : Lrow (fun i => w.heap.size ≤ i ∧ i < w3.heap.size ∧ u5.ownBlock ≠ some i) w3 (xs ++ [u]) (ps ++ [q]) := (hL3.mono (fun i hi => ⟨hi.1, by omega, hi.2.2⟩)).snoc ((hPt HQ9.out).mono (fun i hi => ⟨by omega, hi.2, fun e => by have := (HN.out.blk e).2.1; omega⟩))
        obtain ⟨W4, hW4⟩ : ∃ W4, W4 = w3.alloc (.cells #[u] 22) := ⟨_, rfl⟩
        have hb4 : Below w3.heap.size w3 W4 := by rw [hW4]; exact alloc_below _
        have hB4 : Bx W4 w3.heap.size 22 u := by rw [hW4]; exact Bx.new _ _ _
        have hN4 : Nw W4 w.heap.size 22 1 u5 ps.length xs := hN3.keep (fun g hg => hb4.block g (hN3.blk hg).2.1)
        have HL4 : Hid (Lrow (fun i => w.heap.size ≤ i ∧ i < w3.heap.size ∧ u5.ownBlock ≠ some i) W4 (xs ++ [u]) (ps ++ [q])) := hL3'.below (Kp.of_below hb4 (fun i hi => hi.2.1))
        have HS4 : Hid (WkS w0 W4 gw gr D l k1 v os) := hS3.later hb4
        have HC4 : Hid (Ch (Ex gw gr v) w W4) := hC.trans (Ch.of_below (X := Ex gw gr v) hb4) (fun _ _ x => x)
        have hq4 : ∀ j x, [u][j]? = some x → W4.cell? ⟨w3.heap.size, j, none⟩ = some x := fun j x hx => by
          rw [cell_of hB4 j]
          simpa using hx
        have hs4 : w.heap.size ≤ W4.heap.size := Nat.le_trans hs3 hb4.size
        have hs34 : w3.heap.size ≤ W4.heap.size := hb4.size
        have hl9 : ps.length ≤ 1000000 := by rw [HL.out]; omega
        have ho9 : ∀ x ∈ [u], x.oneCell' = true := fun x hx => by rw [List.mem_singleton.1 hx, hu]; rfl
        have hn9 : ∀ x ∈ [u], NB8 x := fun x hx z => by rw [List.mem_singleton.1 hx, hu]; simp
        have HW4 : Hid (w3.alloc (.cells #[u] 22) = W4) := hW4.symm
        have HU : Hid (u = .slice ua q.length uc) := hu
        obtain ⟨Q, hQ⟩ : ∃ Q, Q = q.length := ⟨_, rfl⟩
        rw [← hQ] at hu
        subst hu
        clear hN3 hC hS3 hC3 HS HC HN hb4 hB4 hW4 hL3 hL3' hPt HR hQ
        go_wp2_with (at_builtin; rw [HW4.out]; refine wpList_appN rfl _ _ 23 22 rfl Tryd.underlying23 info_spt7 rfl (by decide) zero_spt7 rfl hN4 rfl rfl hq4 ho9 hn9 hl9 (by decide) hs4 ?_)
        intro v' w5 hN5 hg5 ho5
        have HN5 : Hid (Nw w5 w.heap.size 22 1 v' (ps ++ [q]).length (xs ++ [.slice ua Q uc])) := by
          show Nw _ _ _ _ _ _ _
          rw [List.length_append]
          exact hN5
        have HS5 : Hid (WkS w0 w5 gw gr D l k1 v os) := HS4.out.grown hg5 (fun b hb => by
          have q := hN4.blk hb
          have := HO.out b q.1
          exact ⟨this.2.2.2, this.1, this.2.1, this.2.2.1, q.2.2⟩)
        have HC5 : Hid (Ch (Ex gw gr v) w w5) := HC4.out.trans (Ch.of_grown (X := fun i => w.heap.size ≤ i) hg5 (fun b hb => (hN4.blk hb).1)) (fun i hi q => by omega)
        have hs5 := hg5.size
        have HL5 : Hid (Lrow (fun i => w.heap.size ≤ i ∧ i < w5.heap.size ∧ v'.ownBlock ≠ some i) w5 (xs ++ [.slice ua Q uc]) (ps ++ [q])) := by
          have hkp : Kp (fun i => w.heap.size ≤ i ∧ i < w3.heap.size ∧ u5.ownBlock ≠ some i) W4 w5 := ⟨hs5, fun i hi => hg5.block i (by have := hi.2.1; omega) (fun e => hi.2.2 e.symm)⟩
          refine (HL4.out.below hkp).mono (fun i hi => ⟨hi.1, by have := hi.2.1; omega, fun e => ?_⟩)
          rcases ho5 with q | q
          · exact hi.2.2 (q ▸ e)
          · rw [q] at e
            cases e
            have := hi.2.1
            omega
        clear hN5 hg5 ho5 hN4 hq4 HS4 HC4 HL4
        go_wp2
        go_roundw
        case rel => exact ⟨j + 1, k1, ps ++ [q], xs ++ [.slice ua Q uc], by go_num, by omega, by show _ = _; rw [List.length_append, HL.out]; rfl, HM2, HS5, HC5, HN5, HL5⟩
        case measure => simp [intOf]; omega
    · have hjn : j = n := by omega
      subst hjn
      have HA : Hid (many (fun j => ringS l j little) j k = .ok ps kj) := by
        show _ = _
        rw [← HM.out, Nat.sub_self]
        show Rs.ok (ps ++ []) kj = _
        rw [List.append_nil]
      obtain ⟨a, c, rfl, hc⟩ := own_slice HN.out.own
      go_wp2
      go_ret
      unfold Prs
      rw [HA.out]
      refine ⟨_, rfl, HS.out, HC.out, fun hle => ?_⟩
      exact (rgs_of HN.out.own HR.out hle).mono (fun i hi => by
        rcases hi with hi | hi
        · exact ⟨hi.1, hi.2.1⟩
        · exact ⟨(HN.out.blk hi).1, (HN.out.blk hi).2.1⟩)
end Go.Proofs.YtinagjljebbceaaDoor

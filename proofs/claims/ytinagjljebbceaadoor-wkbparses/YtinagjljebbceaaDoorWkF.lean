/- Layer 17: the parts of a geometry. -/
import Derived.Test.YtinagjljebbceaaDoorWkE
namespace Go.Proofs.YtinagjljebbceaaDoor
open Go.ChangeShapes Go.WideShapes Go.ChangeAt Go.RowKit
open Ep Oc Tr Wk
set_option linter.unusedVariables false
namespace Wk
/-- each geometry has more bytes than it has orders -/
theorem many_lenB {l : List UInt8} {f : Nat → Rs (Tree × List Bool)} (hf : ∀ k r k', f k = .ok r k' → k + r.2.length ≤ k') : ∀ {n k k' : Nat} {ts : List (Tree × List Bool)}, many f n k = .ok ts k' → k + ((ts.map (·.2)).flatten).length ≤ k'
  | 0, k, k', ts, h => by injection h with h1 h2; subst h1 h2; simp
  | n + 1, k, k', ts, h => by
    obtain ⟨u, j, h1, h2⟩ := bind_inv (r := f k) h
    obtain ⟨u2, j2, h3, h4⟩ := bind_inv h2
    injection h4 with h5 h6
    subst h5 h6
    have a := hf k u j h1
    have b := many_lenB (l := l) hf h3
    simp only [List.map_cons, List.flatten_cons, List.length_append]
    omega
theorem head_pos {l : List UInt8} {home k k' : Nat} {r : Bool × Nat} (h : headS l home k = .ok r k') : k' = k + 5 := by
  obtain ⟨u, j, h1, h2⟩ := bind_inv (r := ordS l k) h
  obtain ⟨u2, j2, h3, h4⟩ := bind_inv h2
  injection h4 with h5 h6
  obtain ⟨x, jx, q1, q2⟩ := bind_inv (r := word l k 1 false) h1
  obtain ⟨y, jy, q3, q4⟩ := bind_inv (r := word l j 4 u) h3
  have a := (word_ok q1).1
  have b := (word_ok q3).1
  split at q2
  · cases q2
  · injection q2 with q5 q6
    split at q4
    · cases q4
    · split at q4
      · cases q4
      · injection q4 with q7 q8
        omega
theorem body_pos {l : List UInt8} {sub : Nat → Nat → Rs (Tree × List Bool)} (hs : ∀ kind k r k', sub kind k = .ok r k' → k + r.2.length ≤ k') {little : Bool} {kind k k' : Nat} {r : Tree × List Bool} (h : bodyS l sub little kind k = .ok r k') : k + r.2.length ≤ k' := by
  have hF : ∀ {α : Type} {f : Nat → Rs α}, (∀ k v k', f k = .ok v k' → k ≤ k') → ∀ {n k k' : Nat} {ts : List α}, many f n k = .ok ts k' → k ≤ k' := by
    intro α f hf n
    induction n with
    | zero => intro k k' ts h; injection h with h1 h2; omega
    | succ n ih =>
      intro k k' ts h
      obtain ⟨u, j, h1, h2⟩ := bind_inv (r := f k) h
      obtain ⟨u2, j2, h3, h4⟩ := bind_inv h2
      injection h4 with h5 h6
      have := hf _ _ _ h1
      have := ih h3
      omega
  have hpl : ∀ k v k', placeS l k little = .ok v k' → k ≤ k' := by
    intro k v k' h
    obtain ⟨u, j, h1, h2⟩ := bind_inv (r := patsS l k little) h
    obtain ⟨u2, j2, h3, h4⟩ := bind_inv h2
    injection h4 with h5 h6
    obtain ⟨x, jx, q1, q2⟩ := bind_inv (r := word l k 8 little) h1
    obtain ⟨y, jy, q3, q4⟩ := bind_inv q2
    injection q4 with q5 q6
    have a := (word_ok q1).1
    have b := (word_ok q3).1
    omega
  have hln : ∀ k v k', lineS l k little = .ok v k' → k ≤ k' := by
    intro k v k' h
    obtain ⟨u, j, h1, h2⟩ := bind_inv (r := countS l 16 k little) h
    have a := (count_ok h1).1
    have b := hF hpl h2
    omega
  have hrg : ∀ k v k', ringS l k little = .ok v k' → k ≤ k' := by
    intro k v k' h
    obtain ⟨u, j, h1, h2⟩ := bind_inv (r := lineS l k little) h
    have a := hln _ _ _ h1
    split at h2
    · cases h2
    · injection h2 with h3 h4
      omega
  simp only [bodyS] at h
  split at h
  · obtain ⟨u, j, h1, h2⟩ := bind_inv h
    injection h2 with h3 h4
    subst h3
    obtain ⟨x, jx, q1, q2⟩ := bind_inv (r := patsS l k little) h1
    obtain ⟨y, jy, q3, q4⟩ := bind_inv (r := word l k 8 little) q1
    obtain ⟨z, jz, q5, q6⟩ := bind_inv q4
    injection q6 with q7 q8
    have a := (word_ok q3).1
    have b := (word_ok q5).1
    have c : jx = j := by
      split at q2
      · injection q2
      · obtain ⟨y2, jy2, q9, q10⟩ := bind_inv q2
        injection q10
    simp
    omega
  · split at h
    · obtain ⟨u, j, h1, h2⟩ := bind_inv h
      injection h2 with h3 h4
      subst h3
      have := hln _ _ _ h1
      simp
      omega
    · split at h
      · obtain ⟨u, j, h1, h2⟩ := bind_inv h
        obtain ⟨u2, j2, h3, h4⟩ := bind_inv h2
        injection h4 with h5 h6
        subst h5
        have a := (count_ok h1).1
        have b := hF hrg h3
        simp
        omega
      · obtain ⟨u, j, h1, h2⟩ := bind_inv h
        obtain ⟨u2, j2, h3, h4⟩ := bind_inv h2
        injection h4 with h5 h6
        subst h5
        have a := (count_ok h1).1
        have b := many_lenB (l := l) (hs kind) h3
        simp only
        omega
theorem geom_len (l : List UInt8) : ∀ n home k r k', geomS l n home k = .ok r k' → k + r.2.length ≤ k'
  | 0, home, k, r, k', h => by
    obtain ⟨u, j, h1, h2⟩ := bind_inv (r := headS l home k) h
    cases h2
  | n + 1, home, k, r, k', h => by
    obtain ⟨u, j, h1, h2⟩ := bind_inv (r := headS l home k) h
    obtain ⟨u2, j2, h3, h4⟩ := bind_inv h2
    injection h4 with h5 h6
    subst h5 h6
    have a := head_pos h1
    have b := body_pos (fun kind k r k' => geom_len l n kind k r k') h3
    simp only [List.length_cons]
    omega
theorem Nw.ne_bo {w : World} {base b : Nat} {e : TypeId} {size n : Nat} {ov v : Value} {xs : List Value} {os : List Bool} (h : Nw w base e size ov n xs) (hb : Bo w b v os) (he : e ≠ 4) {g : Nat} (hg : ov.ownBlock = some g) : v.ownBlock ≠ some g := by
  intro q
  obtain ⟨_, _, cur, h2, _⟩ := hb.blk q
  rcases h.2 with ⟨rfl, _⟩ | ⟨g', cap, cur', rfl, _, h3, _⟩
  · simp [Value.ownBlock] at hg
  · simp only [Value.ownBlock, Option.some.injEq] at hg
    subst hg
    rw [h2] at h3
    injection h3 with h3
    injection h3 with _ h3
    exact he h3.symm
end Wk
/-- what the walk of a geometry comes to -/
def Pge (w0 w : World) (gw gr : Nat) (D : Int) (l : List UInt8) (v : Value) (os : List Bool) (r : Rs (Tree × List Bool)) (e : Ending) (w' : World) : Prop :=
  match r with
  | .ok tb k' => ∃ u v', e = .returned u ∧ WkS w0 w' gw gr D l k' v' (os ++ tb.2) ∧ Ch (Ex gw gr v) w w' ∧ (v'.ownBlock = v.ownBlock ∨ ∃ g, v'.ownBlock = some g ∧ w.heap.size ≤ g) ∧ TV (fun i => w.heap.size ≤ i ∧ i < w'.heap.size ∧ v'.ownBlock ≠ some i) w' u tb.1
  | .bad p c => Flw e p c ∧ Below w0.heap.size w0 w'
def Pgs (w0 w : World) (gw gr : Nat) (D : Int) (l : List UInt8) (v : Value) (os : List Bool) (r : Rs (List (Tree × List Bool))) (e : Ending) (w' : World) : Prop :=
  match r with
  | .ok ts k' => ∃ v' pa pc, e = .returned (.slice pa ts.length pc) ∧ ts.length ≤ pc ∧ WkS w0 w' gw gr D l k' v' (os ++ (ts.map (·.2)).flatten) ∧ Ch (Ex gw gr v) w w' ∧ (v'.ownBlock = v.ownBlock ∨ ∃ g, v'.ownBlock = some g ∧ w.heap.size ≤ g) ∧ FoAt (fun i => w.heap.size ≤ i ∧ i < w'.heap.size ∧ v'.ownBlock ≠ some i) w' (foOf (ts.map (·.1))) pa
  | .bad p c => Flw e p c ∧ Below w0.heap.size w0 w'
theorem set4_block {w : World} {b : Nat} {t : TypeId} {f : Nat × Nat} {x0 x1 x2 x3 : Value} (h : w.heap[b]? = some (.cells #[x0, x1, x2, x3] t f)) (y0 y1 y2 y3 : Value) : ((((w.setCell ⟨b, 0, none⟩ y0).setCell ⟨b, 1, none⟩ y1).setCell ⟨b, 2, none⟩ y2).setCell ⟨b, 3, none⟩ y3).heap[b]? = some (.cells #[y0, y1, y2, y3] t f) := by
  simp [World.setCell, Array.getElem?_modify, h]
theorem NoB.four {w : World} {b : Nat} {t : TypeId} {f : Nat × Nat} {x0 x1 x2 x3 : Value} (h : w.heap[b]? = some (.cells #[x0, x1, x2, x3] t f)) (h0 : NB8 x0) (h1 : NB8 x1) (h2 : NB8 x2) (h3 : NB8 x3) : NoB w b := by
  intro o z
  simp only [World.cell?, h]
  match o with
  | 0 => simpa using h0 z
  | 1 => simpa using h1 z
  | 2 => simpa using h2 z
  | 3 => simpa using h3 z
  | o + 4 => simp
theorem Tr.Rgs.slc {S : Nat → Prop} {W : World} {v : Value} {l : List (List Pt)} (h : Rgs S W v l) : ∃ a c, v = .slice a l.length c := by
  obtain ⟨_, a, c, h, _⟩ := h
  exact ⟨a, c, h⟩
theorem Tr.Pts.slc {S : Nat → Prop} {W : World} {v : Value} {l : List Pt} (h : Pts S W v l) : ∃ a c, v = .slice a l.length c := by
  obtain ⟨_, a, c, h, _⟩ := h
  exact ⟨a, c, h⟩
set_option maxHeartbeats 3200000 in
set_option maxRecDepth 100000 in
theorem geom2_any {w0 w : World} {gw gr : Nat} {D : Int} {l : List UInt8} {k : Nat} {v : Value} {os : List Bool} (h : WkS w0 w gw gr D l k v os) (hos : os.length ≤ k) {b1 b2 b3 : Nat} {kind lev n : Nat} (ih : ∀ {w : World} {k : Nat} {v : Value} {os : List Bool}, WkS w0 w gw gr D l k v os → os.length ≤ k → Calls Tryd.prog 54 #[.pointer (some ⟨gw, 0, none⟩), .int .i64 (kind : Int), .int .i64 ((lev : Int) + 1)] w (Pge w0 w gw gr D l v os (geomS l n kind k))) (hlev : lev ≤ 1000) (h1 : Bx w b1 164 (.pointer (some ⟨gw, 0, none⟩))) (h2 : Bx w b2 3 (.int .i64 (kind : Int))) (h3 : Bx w b3 3 (.int .i64 (lev : Int))) :
    Calls Tryd.prog 86 #[.pointer (some ⟨b1, 0, none⟩), .pointer (some ⟨b2, 0, none⟩), .pointer (some ⟨b3, 0, none⟩)] w (Pge w0 w gw gr D l v os (geomS l n kind k)) := by
  obtain ⟨B, hB⟩ : ∃ B, B = w.heap.size := ⟨_, rfl⟩
  obtain ⟨hne1, hne2, hob, h0B⟩ := h.old (b := B) (by omega)
  obtain ⟨W, hW0⟩ : ∃ W, W = w.alloc (.cells #[.int .i64 0, .slice none 0 0, .slice none 0 0, .slice none 0 0] 26) := ⟨_, rfl⟩
  have hbW : Below w.heap.size w W := by rw [hW0]; exact alloc_below _
  have hBW : W.heap[B]? = some (.cells #[.int .i64 0, .slice none 0 0, .slice none 0 0, .slice none 0 0] 26 (0, 0)) := by rw [hW0, hB]; exact heap_alloc_new _ _
  have hS := h.later hbW
  have HW : Hid (w.alloc (.cells #[.int .i64 0, .slice none 0 0, .slice none 0 0, .slice none 0 0] 26) = W) := hW0.symm
  have hP := ih hS hos
  have c1 := (h1.later hbW).cell
  have c2 := (h2.later hbW).cell
  have c3 := (h3.later hbW).cell
  have HB : Hid (B = w.heap.size) := hB
  cases hp : geomS l n kind k with
  | bad p c =>
    rw [hp] at hP
    clear h hW0 hB hS ih h1 h2 h3
    go_enter Tryd.func86, Tryd.ntmps86
    go_upto_region 1 with (fail)
    rw [HW.out]
    go_wp2_with fail
    refine hP.mono ?_
    rintro e w3 ⟨hf, hb⟩
    rw [flw_of hf]
    clear hP
    go_wp2
    exact ⟨rfl, rfl, hb⟩
  | ok q k1 =>
    rw [hp] at hP
    obtain ⟨t, bs⟩ := q
    clear h hW0 hB hS ih h1 h2 h3
    go_enter Tryd.func86, Tryd.ntmps86
    go_upto_region 1 with (fail)
    rw [HW.out]
    go_wp2_with fail
    refine hP.mono ?_
    rintro e w5 ⟨u, v', rfl, hS5, hCh, hov, hT⟩
    clear hP c1 c2 c3
    have hBW5 := (hCh.block B (lt_of_block hBW) (fun q => by
      rcases q with q | q | q
      · exact hne1 q
      · exact hne2 q
      · exact hob q)).trans hBW
    have hCh5 := (Ch.of_below (X := Ex gw gr v) hbW).trans hCh (fun _ _ x => x)
    have hlW : B < W.heap.size := lt_of_block hBW
    have hov' : v'.ownBlock ≠ some B := by
      rcases hov with q | ⟨g, q, hg⟩
      · rw [q]; exact hob
      · rw [q]; intro e; cases e; omega
    have hsW := hbW.size
    have HT : Hid (TV (fun i => W.heap.size ≤ i ∧ i < w5.heap.size ∧ v'.ownBlock ≠ some i) w5 u t) := hT
    obtain ⟨v1, v2, pa, pc, rfl, hk9, hP1, hR1, hl9, hf9⟩ := HT.out.parts
    obtain ⟨a1, d1, rfl⟩ := hP1.slc
    obtain ⟨a2, d2, rfl⟩ := hR1.slc
    clear hCh hBW hbW hT hP1 hR1 hl9 hf9
    have d0 := cell_of hBW5 0
    have d1' := cell_of hBW5 1
    have d2' := cell_of hBW5 2
    have d3 := cell_of hBW5 3
    have z0 : w5.frozen? ⟨B, 0, none⟩ = false := by simp [World.frozen?, hBW5]
    have z1 : w5.frozen? ⟨B, 1, none⟩ = false := by simp [World.frozen?, hBW5]
    have z2 : w5.frozen? ⟨B, 2, none⟩ = false := by simp [World.frozen?, hBW5]
    have z3 : w5.frozen? ⟨B, 3, none⟩ = false := by simp [World.frozen?, hBW5]
    simp only [List.getElem?_toArray, List.getElem?_cons_zero, List.getElem?_cons_succ] at d0 d1' d2' d3
    have HS : Hid (WkS w0 w5 gw gr D l k1 v' (os ++ bs)) := hS5
    have HBB : Hid (w5.heap[B]? = some (.cells #[.int .i64 0, .slice none 0 0, .slice none 0 0, .slice none 0 0] 26 (0, 0))) := hBW5
    have HC : Hid (Ch (Ex gw gr v) w w5) := hCh5
    clear hS5 hBW5 hCh5
    rw [← HB.out]
    generalize t.1.line.length = L1 at *
    generalize t.1.rings.length = L2 at *
    generalize t.2.len = L3 at *
    generalize t.1.kind = K0 at *
    go_wp2
    have hF := set4_block HBB.out (.int .i64 K0) (.slice a1 L1 d1) (.slice a2 L2 d2) (.slice pa L3 pc)
    have f0 := cell_of hF 0
    have f1 := cell_of hF 1
    have f2 := cell_of hF 2
    have f3 := cell_of hF 3
    simp only [List.getElem?_toArray, List.getElem?_cons_zero, List.getElem?_cons_succ] at f0 f1 f2 f3
    refine bodyPost_ret (v := .agg #[.int .i64 K0, .slice a1 L1 d1, .slice a2 L2 d2, .slice pa L3 pc]) (by simp [results, Tryd.results86, go_sem, f0, f1, f2, f3]) rfl ?_
    obtain ⟨w6, hw6⟩ : ∃ w6, w6 = (((w5.setCell ⟨B, 0, none⟩ (.int .i64 K0)).setCell ⟨B, 1, none⟩ (.slice a1 L1 d1)).setCell ⟨B, 2, none⟩ (.slice a2 L2 d2)).setCell ⟨B, 3, none⟩ (.slice pa L3 pc) := ⟨_, rfl⟩
    have hI : In B (B + 1) w5 w6 := by rw [hw6]; exact ((((In.refl _ _ _).set1 0 _).set1 1 _).set1 2 _).set1 3 _
    have hz6 : w6.heap.size = w5.heap.size := by rw [hw6]; simp [World.setCell]
    rw [← hw6]
    have hBw : w.heap.size ≤ B := by rw [← HB.out]; exact Nat.le_refl _
    refine ⟨_, v', rfl, HS.out.inb hI h0B hne1 hne2 hov' (NoB.four HBB.out (by simp [NB8]) (by simp [NB8]) (by simp [NB8]) (by simp [NB8])), ?_, ?_, ?_⟩
    · exact HC.out.trans (Ch.of_in (X := fun i => w.heap.size ≤ i) hI hBw) (fun i hi q => by omega)
    · rcases hov with q | ⟨g, q, hg⟩
      · exact Or.inl q
      · exact Or.inr ⟨g, q, by omega⟩
    · refine (TV.below (w' := w6) ⟨hI.size, fun i hi => hI.block i hi.2.1 (by have := hi.1; omega)⟩ HT.out).mono (fun i hi => ⟨by have := hi.1; omega, by have := hi.2.1; omega, hi.2.2⟩)
end Go.Proofs.YtinagjljebbceaaDoor

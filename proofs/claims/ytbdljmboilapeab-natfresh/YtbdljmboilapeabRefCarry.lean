/- plumbref02: carried, plus, compare. -/
import Derived.Test.YtbdljmboilapeabRefTold
namespace Go.Proofs.Ytbdljmboilapeab
open Go.ChangeShapes Go.WideShapes Go.ChangeAt Go.RowKit
open Na
set_option linter.unusedVariables false

namespace Na
/-- numbers from 0 on, none above L -/
def Bd (L : Int) (xs : List Int) : Prop := ∀ x ∈ xs, 0 ≤ x ∧ x ≤ L
theorem Bd.get {L : Int} {xs : List Int} (h : Bd L xs) {i : Nat} (hi : i < xs.length) : 0 ≤ xs.getD i 0 ∧ xs.getD i 0 ≤ L := by
  have e : xs.getD i 0 = xs[i] := by simp [List.getD_eq_getElem?_getD, List.getElem?_eq_getElem hi]
  rw [e]; exact h _ (List.getElem_mem hi)
theorem Bd.val_nonneg {L B : Int} (hB : 0 ≤ B) {xs : List Int} (h : Bd L xs) : 0 ≤ val B xs := by
  induction xs with
  | nil => exact Int.le_refl _
  | cons x xs ih =>
    rw [val_cons]
    have h1 := h x List.mem_cons_self
    have h2 := Int.mul_nonneg hB (ih (fun y hy => h y (List.mem_cons_of_mem _ hy)))
    omega
theorem Bd.one {L x : Int} (h : 0 ≤ x ∧ x ≤ L) : Bd L [x] := fun y hy => by simp at hy; subst hy; exact h
theorem Bd.append {L : Int} {xs ys : List Int} (h : Bd L xs) (k : Bd L ys) : Bd L (xs ++ ys) := fun z hz => by
  rcases List.mem_append.mp hz with hz | hz
  · exact h z hz
  · exact k z hz
theorem Bd.nil (L : Int) : Bd L [] := fun y hy => by simp at hy
def CarInv (ds : List Int) (i : Nat) (C : Int) (es : List Int) : Prop := Dg 65536 es ∧ es.length = i ∧ 0 ≤ C ∧ C ≤ 281474976710656 ∧
  val 65536 es + 65536 ^ i * (C + val 65536 (ds.drop i)) = val 65536 ds
theorem car_start (ds : List Int) : CarInv ds 0 0 [] := ⟨Dg.nil _, rfl, by omega, by omega, by simp [val]⟩
theorem car_step {ds es : List Int} {i : Nat} {C x : Int} (h : CarInv ds i C es) (hx : 0 ≤ x ∧ x ≤ 281474976710656) (hd : val 65536 (ds.drop i) = x + 65536 * val 65536 (ds.drop (i + 1))) :
    CarInv ds (i + 1) ((C + x) / 65536) (es ++ [(C + x) % 65536]) := by
  obtain ⟨h1, h2, h3, h4, h5⟩ := h
  refine ⟨h1.append (Dg.one (by omega)), by rw [List.length_append, h2]; rfl, by omega, by omega, ?_⟩
  rw [val_append, h2, ← h5, hd, Int.pow_succ]
  have e4 : val 65536 [(C + x) % 65536] = (C + x) % 65536 := by simp [val]
  have e3 : C + x = (C + x) % 65536 + 65536 * ((C + x) / 65536) := by omega
  rw [e4]
  generalize val 65536 (ds.drop (i + 1)) = V
  generalize (65536 : Int) ^ i = P
  generalize (C + x) % 65536 = r at *
  generalize (C + x) / 65536 = q at *
  have e5 : C = r + 65536 * q - x := by omega
  subst e5
  grind
theorem drop_step {ds : List Int} {i : Nat} : val 65536 (ds.drop i) = ds.getD i 0 + 65536 * val 65536 (ds.drop (i + 1)) := by
  by_cases h : i < ds.length
  · exact val_drop h
  · rw [List.drop_of_length_le (by omega), List.drop_of_length_le (by omega)]
    have : ds.getD i 0 = 0 := by simp [List.getD_eq_getElem?_getD, List.getElem?_eq_none (Nat.le_of_not_lt h)]
    rw [this]; rfl
theorem car_done {ds es : List Int} {i : Nat} (h : CarInv ds i 0 es) (hi : ds.length ≤ i) : strip es = digs (val 65536 ds) := by
  obtain ⟨h1, h2, h3, h4, h5⟩ := h
  rw [List.drop_of_length_le hi, val_nil] at h5
  have e : val 65536 es = val 65536 ds := by simpa using h5
  unfold digs
  rw [← e]
  exact strip_dig (B := 65536) (by omega) h1
/-- beyond the digits what is carried melts away -/
def Melts (n k : Nat) (C : Int) : Prop := n ≤ k → C * 65536 ^ (k - n) ≤ 281474976710656
theorem melts_small {n k : Nat} {C : Int} (h : Melts n k C) (hC : 0 < C) : k ≤ n + 3 := by
  by_cases hk : n + 4 ≤ k
  · have g := h (by omega)
    have e : (65536 : Int) ^ (k - n) = 65536 ^ (k - n - 4) * 18446744073709551616 := by
      have : k - n = (k - n - 4) + 4 := by omega
      rw [this, Int.pow_add]; simp
    have p : 0 < (65536 : Int) ^ (k - n - 4) := Int.pow_pos (by omega)
    rw [e] at g
    have q := Int.mul_pos hC p
    have r : C * (65536 ^ (k - n - 4) * 18446744073709551616) = C * 65536 ^ (k - n - 4) * 18446744073709551616 := by rw [Int.mul_assoc]
    rw [r] at g
    omega
  · omega
theorem melts_next {n k : Nat} {C : Int} (h : Melts n k C) (hk : n ≤ k) (h0 : 0 ≤ C) : Melts n (k + 1) (C / 65536) := by
  intro _
  have g := h hk
  have e : (65536 : Int) ^ (k + 1 - n) = 65536 ^ (k - n) * 65536 := by
    have : k + 1 - n = (k - n) + 1 := by omega
    rw [this, Int.pow_succ]
  rw [e]
  have p : 0 < (65536 : Int) ^ (k - n) := Int.pow_pos (by omega)
  have r : C / 65536 * (65536 ^ (k - n) * 65536) = C / 65536 * 65536 * 65536 ^ (k - n) := by grind
  have s : C / 65536 * 65536 * 65536 ^ (k - n) ≤ C * 65536 ^ (k - n) := Int.mul_le_mul_of_nonneg_right (by omega) (by omega)
  omega
theorem melts_below {n k : Nat} {C : Int} (hk : k < n) (hC : C ≤ 281474976710656) : Melts n (k + 1) C := by
  intro h
  have : k + 1 - n = 0 := by omega
  rw [this]; simp; exact hC
end Na

set_option maxHeartbeats 1600000 in
set_option maxRecDepth 100000 in
theorem carried_any {a : Option Addr} {n cap : Nat} {ds : List Int} {w : World} (hrow : RowAt .i64 w a n ds) (hx : Bd 281474976710656 ds) (hn : n ≤ 10000000) :
    Calls Try.prog 64 #[.slice a n cap] w fun e w' => ∃ v, e = .returned v ∧ Own .i64 w' w.heap.size 3 v (digs (val 65536 ds)) ∧ Below w.heap.size w w' := by
  obtain ⟨i_i64, hi_i64, hz0_i64, hz1_i64, hz2_i64⟩ := info_parts info_int
  have hlen := hrow.1
  go_enter Try.func64, Try.ntmps64
  go_wp2
  go_loopw [3, 4, 5] (fun o c i wr => ∃ (k : Nat) (C : Int) (es : List Int), i = .int .i64 k ∧ c = .int .i64 C ∧ k ≤ n + 4 ∧ Own .i64 wr w.heap.size 3 o es ∧ CarInv ds k C es ∧ Melts n k C ∧ Below w.heap.size w wr) (fun _ c i _ => (n - (intOf i).toNat) * 562949953421313 + (intOf c).toNat)
  case atStart => exact ⟨0, 0, [], rfl, rfl, by omega, own_nil _ _ _ _, car_start ds, fun _ => by simp, Below.refl _ _⟩
  case round =>
    obtain ⟨k, C, es, rfl, rfl, hk, hown, hinv, hb9, hnx⟩ := hrel
    have hsz := hnx.size
    have hC0 := hinv.2.2.1
    have hC1 := hinv.2.2.2.1
    have hel := hinv.2.1
    by_cases hlt : k < n
    · obtain ⟨b, off, rfl, hbB, hc⟩ := hrow.at (by omega)
      have hcx := (hnx.cell (p := ⟨b, off + k, none⟩) hbB).trans (hc k hlt)
      have hg := hx.get (i := k) (by omega)
      have hst := car_step hinv hg drop_step
      generalize ds.getD k 0 = x at *
      have hme := melts_below (C := (C + x) / 65536) hlt hst.2.2.2.1
      obtain ⟨hx0, hx1⟩ := hg
      clear hc hrow hinv hb9
      go_wp2_with (at_builtin; refine wpList_append_own _ rfl _ _ 71 rfl w.heap.size 3 i_i64 (.int .i64 0) 1 8 Try.underlying71 hi_i64 hz0_i64 hz1_i64 hz2_i64 rfl (by decide) _ _ _ rfl (hown.row.alloc _) ⟨wr.heap.size, 0, none⟩ 1 1 [.int .i64 ((C + x) % 65536)] rfl rfl one_new one_cell (by unfold maxLen; omega) (by omega) (by simp; omega) ?_)
      intro v' w1 hown' hgrow _
      have hb' := grow_below hsz hown.row hnx hgrow
      have ho' := own_next hown' (by omega)
      clear hown' hgrow hown hnx hcx
      go_wp2
      go_roundw
      case rel => exact ⟨k + 1, _, _, by go_num, rfl, by omega, ho', hst, hme, hb'⟩
      case measure => simp [intOf]; omega
    · by_cases hp : 0 < C
      · have hk3 := melts_small hb9 hp
        have hme := melts_next hb9 (by omega) hC0
        have hz : ds.getD k 0 = 0 := by simp [List.getD_eq_getElem?_getD, List.getElem?_eq_none (show ds.length ≤ k by omega)]
        have hst := car_step hinv (x := ds.getD k 0) (by rw [hz]; omega) drop_step
        rw [hz, Int.add_zero] at hst
        clear hinv hb9 hz hrow
        go_wp2_with (at_builtin; refine wpList_append_own _ rfl _ _ 71 rfl w.heap.size 3 i_i64 (.int .i64 0) 1 8 Try.underlying71 hi_i64 hz0_i64 hz1_i64 hz2_i64 rfl (by decide) _ _ _ rfl (hown.row.alloc _) ⟨wr.heap.size, 0, none⟩ 1 1 [.int .i64 (C % 65536)] rfl rfl one_new one_cell (by unfold maxLen; omega) (by omega) (by simp; omega) ?_)
        intro v' w1 hown' hgrow _
        have hb' := grow_below hsz hown.row hnx hgrow
        have ho' := own_next hown' (by omega)
        clear hown' hgrow hown hnx
        go_wp2
        go_roundw
        case rel => exact ⟨k + 1, _, _, by go_num, rfl, by omega, ho', hst, hme, hb'⟩
        case measure => simp [intOf]; omega
      · have hz : C = 0 := by omega
        subst hz
        have hd := car_done hinv (by omega)
        have HD : Hid (strip es = digs (val 65536 ds)) := hd
        obtain ⟨a2, cap2, rfl, hcap2, hcm, hrow2⟩ := hown.reads
        have he8 : es.length * 8 ≤ 140737488351232 := by omega
        have hlast := fun (m : Nat) (h : m ≤ es.length) => hown.cut h
        clear hd hinv hrow hel hb9
        go_wp2_with (go_at_call 90; refine (refCut_any hrow2 he8 hcap2 hcm).mono ?_; rintro e w' ⟨⟨m, rfl, hm, hst⟩, rfl⟩)
        go_ret
        exact ⟨_, rfl, by rw [← HD.out, hst]; exact hlast m hm, hnx⟩
end Go.Proofs.Ytbdljmboilapeab

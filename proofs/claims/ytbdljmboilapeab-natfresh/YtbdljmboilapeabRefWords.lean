/- plumbref02.words, carried, told. -/
import Derived.Test.YtbdljmboilapeabRefNat
namespace Go.Proofs.Ytbdljmboilapeab
open Go.ChangeShapes Go.WideShapes Go.ChangeAt Go.RowKit
open Na
set_option linter.unusedVariables false

namespace Na
/-- four digits, from the j-th on -/
def chunk (es : List Int) (i j : Nat) : Int := val 65536 ((es.drop (i + j)).take (4 - j))
theorem chunk_end (es : List Int) (i : Nat) : chunk es i 4 = 0 := by simp [chunk, val]
theorem chunk_in {es : List Int} {i j : Nat} (hj : j < 4) (h : i + j < es.length) : chunk es i j = es.getD (i + j) 0 + 65536 * chunk es i (j + 1) := by
  unfold chunk
  have e : 4 - j = (4 - (j + 1)) + 1 := by omega
  rw [List.drop_eq_getElem_cons h, e, List.take_succ_cons, val_cons]
  have : i + j + 1 = i + (j + 1) := by omega
  rw [this]
  simp [List.getD_eq_getElem?_getD, List.getElem?_eq_getElem h]
theorem chunk_out {es : List Int} {i j : Nat} (h : es.length ≤ i + j) : chunk es i j = 0 := by
  unfold chunk
  rw [List.drop_of_length_le h]; simp [val]
theorem chunk_bd {es : List Int} (he : Dg 65536 es) (i j : Nat) (hj : j ≤ 4) : 0 ≤ chunk es i j ∧ chunk es i j < 65536 ^ (4 - j) := by
  obtain ⟨m, hm⟩ : ∃ m, m = 4 - j := ⟨_, rfl⟩
  induction m generalizing j with
  | zero =>
    have : j = 4 := by omega
    subst this; rw [chunk_end]; simp
  | succ m ih =>
    have i1 := ih (j + 1) (by omega) (by omega)
    have e : (65536 : Int) ^ (4 - j) = 65536 ^ (4 - (j + 1)) * 65536 := by
      have : 4 - j = (4 - (j + 1)) + 1 := by omega
      rw [this, Int.pow_succ]
    by_cases h : i + j < es.length
    · rw [chunk_in (by omega) h, e]
      have g := he.get h
      omega
    · rw [chunk_out (by omega), e]
      generalize (65536 : Int) ^ (4 - (j + 1)) = P at *
      omega
theorem val_chunk (es : List Int) (i : Nat) : val 65536 (es.drop i) = chunk es i 0 + 18446744073709551616 * val 65536 (es.drop (i + 4)) := by
  unfold chunk
  have e : es.drop i = (es.drop (i + 0)).take 4 ++ es.drop (i + 4) := by
    have h := (List.take_append_drop 4 (es.drop i)).symm
    rw [List.drop_drop] at h
    exact h
  have e2 := congrArg (val 65536) e
  rw [val_append] at e2
  rw [e2]
  by_cases h : i + 4 ≤ es.length
  · have l : ((es.drop (i + 0)).take 4).length = 4 := by rw [List.length_take, List.length_drop]; omega
    rw [l]; rfl
  · rw [List.drop_of_length_le (by omega : es.length ≤ i + 4), val_nil]; simp
def WordInv (es : List Int) (p : Nat) (ws : List Int) : Prop := Dg 18446744073709551616 ws ∧ ws.length = p ∧
  val 18446744073709551616 ws + 18446744073709551616 ^ p * val 65536 (es.drop (4 * p)) = val 65536 es ∧ (p = 0 ∨ (4 * (p - 1) < es.length ∧ ∃ zs, ws = zs ++ [chunk es (4 * (p - 1)) 0]))
theorem word_start (es : List Int) : WordInv es 0 [] := ⟨Dg.nil _, rfl, by simp [val], Or.inl rfl⟩
theorem word_next {es ws : List Int} {p : Nat} (he : Dg 65536 es) (h : WordInv es p ws) (hp : 4 * p < es.length) : WordInv es (p + 1) (ws ++ [chunk es (4 * p) 0]) := by
  obtain ⟨h1, h2, h3, h4⟩ := h
  have bd := chunk_bd he (4 * p) 0 (by omega)
  refine ⟨h1.append (Dg.one bd), by rw [List.length_append, h2]; rfl, ?_, Or.inr ⟨hp, ws, rfl⟩⟩
  rw [val_append, h2, ← h3, val_chunk es (4 * p)]
  have e : 4 * (p + 1) = 4 * p + 4 := by omega
  rw [e, Int.pow_succ]
  have e1 : val 18446744073709551616 [chunk es (4 * p) 0] = chunk es (4 * p) 0 := by simp [val]
  rw [e1]
  generalize chunk es (4 * p) 0 = c
  generalize val 65536 (es.drop (4 * p + 4)) = v
  generalize (18446744073709551616 : Int) ^ p = P
  grind
theorem strip_last (xs : List Int) : strip xs = [] ∨ ∃ zs x, strip xs = zs ++ [x] ∧ x ≠ 0 := by
  induction xs with
  | nil => exact Or.inl rfl
  | cons x xs ih =>
    unfold strip
    split
    · exact Or.inl rfl
    · rename_i h
      right
      rcases ih with e | ⟨zs, y, e, hy⟩
      · rw [e]; exact ⟨[], x, rfl, fun hx => h ⟨e, hx⟩⟩
      · rw [e]; exact ⟨x :: zs, y, rfl, hy⟩
theorem val_end_pos {zs : List Int} {x : Int} (h : Dg 65536 (zs ++ [x])) (hx : x ≠ 0) : 0 < val 65536 (zs ++ [x]) := by
  rw [val_append]
  have h1 : Dg 65536 zs := fun y hy => h y (List.mem_append_left _ hy)
  have h2 := h x (List.mem_append_right _ (by simp))
  have v := val_nonneg (B := 65536) (by omega) h1
  have e : val 65536 [x] = x := by simp [val]
  rw [e]
  have p : 0 < (65536 : Int) ^ zs.length := Int.pow_pos (by omega)
  have := Int.mul_pos p (show 0 < x by omega)
  omega
theorem word_done {ds es ws : List Int} {p : Nat} (hs : es = strip ds) (he : Dg 65536 es) (h : WordInv es p ws) (hp : es.length ≤ 4 * p) :
    ws = dig 18446744073709551616 (val 65536 es).toNat := by
  obtain ⟨h1, h2, h3, h4⟩ := h
  rw [List.drop_of_length_le hp, val_nil] at h3
  have hv : val 18446744073709551616 ws = val 65536 es := by omega
  have sd := strip_dig (B := 18446744073709551616) (by omega) h1
  have hv' : val ((18446744073709551616 : Nat) : Int) ws = val 65536 es := hv
  rw [hv'] at sd
  rw [← sd]
  rcases h4 with h4 | ⟨hlt, zs, hz⟩
  · have : ws = [] := List.length_eq_zero_iff.mp (by omega)
    rw [this]; rfl
  · rw [hz]
    have hc : chunk es (4 * (p - 1)) 0 = val 65536 (es.drop (4 * (p - 1))) := by
      unfold chunk
      rw [List.take_of_length_le (by rw [List.length_drop]; omega)]; rfl
    have hne : chunk es (4 * (p - 1)) 0 ≠ 0 := by
      rw [hc]
      rcases strip_last ds with e | ⟨ys, y, e, hy⟩
      · rw [← hs] at e; rw [e] at hlt; simp at hlt
      · rw [← hs] at e
        have hl : 4 * (p - 1) ≤ ys.length := by rw [e, List.length_append] at hlt; simp at hlt; omega
        have hd : es.drop (4 * (p - 1)) = ys.drop (4 * (p - 1)) ++ [y] := by rw [e, List.drop_append_of_le_length hl]
        have := val_end_pos (zs := ys.drop (4 * (p - 1))) (x := y) (by rw [← hd]; exact he.drop _) hy
        rw [hd]; omega
    exact (strip_end _ _ hne).symm
end Na

set_option maxHeartbeats 1600000 in
set_option maxRecDepth 100000 in
theorem words_any {a : Option Addr} {n cap : Nat} {ds : List Int} {w : World} (hrow : RowAt .i64 w a n ds) (hx : Dg 65536 ds) (hn : n ≤ 10000000) (hcap : n ≤ cap) (hcap' : cap ≤ maxLen) :
    Calls Try.prog 69 #[.slice a n cap] w fun e w' => ∃ v, e = .returned v ∧ Own .u64 w' w.heap.size 47 v (dig 18446744073709551616 (val 65536 ds).toNat) ∧ Below w.heap.size w w' := by
  obtain ⟨i_u64, hi_u64, hz0_u64, hz1_u64, hz2_u64⟩ := info_parts info_u64
  go_enter Try.func69, Try.ntmps69
  go_wp2_with (go_at_call 90; refine (refCut_any hrow (by omega) hcap hcap').mono ?_; rintro e w' ⟨⟨m, rfl, hm, hst⟩, rfl⟩)
  have hl := hrow.1
  have hrow2 : RowAt .i64 w a m (strip ds) := by
    rw [hst]
    refine ⟨by rw [List.length_take]; omega, ?_⟩
    rcases hrow.2 with h0 | ⟨b, off, ha, hb, hc⟩
    · left; omega
    · right
      refine ⟨b, off, ha, hb, fun i hi => ?_⟩
      rw [hc i (by omega)]
      have : (ds.take m).getD i 0 = ds.getD i 0 := by simp [List.getD_eq_getElem?_getD, List.getElem?_take_of_lt hi]
      rw [this]
  have he : Dg 65536 (strip ds) := by rw [hst]; exact hx.take m
  have hv : val 65536 (strip ds) = val 65536 ds := strip_val _ _
  obtain ⟨es, hes⟩ : ∃ es, es = strip ds := ⟨_, rfl⟩
  rw [← hes] at hrow2 he hv
  have HES : Hid (es = strip ds) := hes
  have HV : Hid (val 65536 es = val 65536 ds) := hv
  have hel := hrow2.1
  clear hes hst hrow hx hl hv
  go_loopw [3, 4, 5, 6] (fun x i _ _ wr => ∃ (p : Nat) (ws : List Int), i = .int .i64 (4 * (p : Int)) ∧ 4 * p ≤ m + 3 ∧ Own .u64 wr w.heap.size 47 x ws ∧ WordInv es p ws ∧ Below w.heap.size w wr) (fun _ i _ _ _ => (m + 4) - (intOf i).toNat)
  case atStart => exact ⟨0, [], rfl, by omega, own_nil _ _ _ _, word_start es, Below.refl _ _⟩
  case round =>
    obtain ⟨p, ws, rfl, hp3, hown, hinv, hnx⟩ := hrel
    by_cases hlt : 4 * p < m
    · obtain ⟨b, off, rfl, hbB, hc⟩ := hrow2.at (by omega)
      have hwn := word_next he hinv (by omega)
      have hwl := hinv.2.1
      clear hinv
      go_wp2
      go_loop [5, 6] (fun v k => ∃ (j : Nat) (W K : Int), j ≤ 4 ∧ k = .int .i64 K ∧ K = (j : Int) - 1 ∧ v = .int .u64 W ∧ Hid (W = chunk es (4 * p) j)) (fun _ k => (intOf k + 1).toNat)
      case atStart => exact ⟨4, 0, 3, by omega, rfl, by omega, rfl, (chunk_end es _).symm⟩
      case round =>
        obtain ⟨j, W, K, hj, rfl, hK, rfl, hW⟩ := hrel
        have hbd := chunk_bd he (4 * p) j hj
        rw [← hW.out] at hbd
        cases j with
        | zero =>
          have hK' : K < 0 := by omega
          have hW0 : Hid (chunk es (4 * p) 0 = W) := hW.out.symm
          rw [hW0.out] at hwn
          have hsz := hnx.size
          clear hK hW hW0 hbd hc hrow2
          go_wp2_with (at_builtin; refine wpList_append_own _ rfl _ _ 22 rfl w.heap.size 47 i_u64 (.int .u64 0) 1 8 Try.underlying22 hi_u64 hz0_u64 hz1_u64 hz2_u64 rfl (by decide) _ _ _ rfl (hown.row.alloc _) ⟨wr.heap.size, 0, none⟩ 1 1 [.int .u64 W] rfl rfl one_new one_cell (by unfold maxLen; omega) (by omega) (by simp; omega) ?_)
          intro v' w1 hown' hgrow _
          have hb' := grow_below hsz hown.row hnx hgrow
          have ho' := own_next hown' (by omega)
          clear hown' hgrow hown hnx
          go_wp2
          go_roundw
          case rel => exact ⟨p + 1, _, by go_num, by omega, ho', hwn, hb'⟩
          case measure => simp [intOf]; omega
        | succ q =>
          have hK' : K = (q : Int) := by omega
          subst hK'
          have hin := fun h => chunk_in (es := es) (i := 4 * p) (j := q) (by omega) h
          have hout := fun h => chunk_out (es := es) (i := 4 * p) (j := q) h
          have hout1 := fun h => chunk_out (es := es) (i := 4 * p) (j := q + 1) h
          have hb0 := chunk_bd he (4 * p) q (by omega)
          clear hK hown hwn
          by_cases hl : 4 * p + q < m
          · have hcx := (hnx.cell (p := ⟨b, off + (4 * p + q), none⟩) hbB).trans (hc (4 * p + q) hl)
            have hd := he.get (i := 4 * p + q) (by omega)
            have hi2 := hin (by omega)
            have hle : (65536 : Int) ^ (4 - q) ≤ 18446744073709551616 := by
              have : q = 0 ∨ q = 1 ∨ q = 2 ∨ q = 3 := by omega
              rcases this with rfl | rfl | rfl | rfl <;> decide
            have hW1 := hW.out
            rw [← hW1] at hi2
            generalize es.getD (4 * p + q) 0 = x at *
            have HN : Hid (IntKind.u64.wrap (IntKind.u64.wrap (W * 65536) + x) = chunk es (4 * p) q) := by
              show _ = _
              rw [IntKind.wrap_u64, IntKind.wrap_u64]
              omega
            obtain ⟨hd0, hd1⟩ := hd
            clear hi2 hle hb0 hW1 hW hin hout hout1 hc hrow2 hbd hnx
            go_wp2
            go_round
            case rel => exact ⟨q, _, _, by omega, rfl, by omega, rfl, HN⟩
            case measure => simp [intOf]
          · have HN : Hid (IntKind.u64.wrap (W * 65536) = chunk es (4 * p) q) := by
              show _ = _
              rw [hW.out, hout (by omega), hout1 (by omega)]; rfl
            clear hb0 hW hin hout hout1 hc hrow2 hbd hnx
            go_wp2
            go_round
            case rel => exact ⟨q, _, _, by omega, rfl, by omega, rfl, HN⟩
            case measure => simp [intOf]
    · have hd := word_done HES.out he hinv (by omega)
      have HD : Hid (ws = dig 18446744073709551616 (val 65536 ds).toNat) := by rw [← HV.out]; exact hd
      clear hd hinv hrow2
      go_wp2
      go_ret
      exact ⟨_, rfl, by rw [← HD.out]; exact hown, hnx⟩
end Go.Proofs.Ytbdljmboilapeab

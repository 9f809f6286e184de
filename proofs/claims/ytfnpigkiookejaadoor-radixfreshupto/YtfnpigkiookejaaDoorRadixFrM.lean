/- plumblaw04: mark, filled. -/
import Derived.Test.YtfnpigkiookejaaDoorFrMem
namespace Go.Proofs.YtfnpigkiookejaaDoor
open Go.ChangeShapes Go.WideShapes Go.ChangeAt Go.RowKit
open Na Ar
set_option linter.unusedVariables false
theorem own_base {k : IntKind} {w : World} {base base' : Nat} {e : TypeId} {v : Value} {xs : List Int} (h : Own k w base e v xs) (hb : ∀ g, v.ownBlock = some g → base' ≤ g) : Own k w base' e v xs := by
  obtain ⟨h1, h2⟩ := h
  refine ⟨h1, ?_⟩
  rcases h2 with h2 | ⟨g, c, cur, hv, hg, r⟩
  · exact Or.inl h2
  · exact Or.inr ⟨g, c, cur, hv, hb g (by rw [hv]; rfl), r⟩
theorem own_at {k : IntKind} {w : World} {base n c : Nat} {e : TypeId} {a : Option Addr} {xs : List Int} (h : Own k w base e (.slice a n c) xs) (hp : 0 < xs.length) : ∃ g, a = some ⟨g, 0, none⟩ ∧ n = xs.length := by
  rcases h.2 with ⟨h1, h2⟩ | ⟨g, c', cur, hv, _⟩
  · omega
  · simp only [Value.slice.injEq] at hv
    exact ⟨g, hv.1, hv.2.1⟩
theorem three_row (w : World) (m : Int) : RowAt .u64 (w.alloc (.cells #[.int .u64 m, .int .u64 m, .int .u64 m] 39)) (some ⟨w.heap.size, 0, none⟩) 3 [m, m, m] := by
  refine ⟨rfl, Or.inr ⟨w.heap.size, 0, rfl, by simp, fun i hi => ?_⟩⟩
  have hc : i = 0 ∨ i = 1 ∨ i = 2 := by omega
  rcases hc with rfl | rfl | rfl <;> simp
set_option maxHeartbeats 1600000 in
set_option maxRecDepth 100000 in
theorem mark4_any {v : Value} {lo hi : Nat} {xs : List Int} {m : Int} {w : World} (h : Ls w lo hi v xs) (hlo : lo ≤ w.heap.size) (hlen : xs.length ≤ 1000000) :
    Calls Tryd.prog 23 #[v, .int .u64 m] w fun e w' => ∃ v', e = .returned v' ∧ (Ls w' lo hi v (List.replicate xs.length m) ∧ ∃ lo2 hi2, Ls w' lo2 hi2 v' (List.replicate (xs.length + 3) m) ∧ ((lo2 = lo ∧ hi2 = hi) ∨ w.heap.size ≤ lo2)) ∧ In lo hi w w' := by
  obtain ⟨i_u64, hi_u64, hz0_u64, hz1_u64, hz2_u64⟩ := info_parts info_u64
  obtain ⟨a, c, rfl, _⟩ := h.row
  obtain ⟨n, hn⟩ : ∃ n, n = xs.length := ⟨_, rfl⟩
  have HN : Hid (n = xs.length) := hn
  rw [← hn] at h hlen ⊢
  clear hn
  have hst : Ls w lo hi (.slice a n c) (mkd xs m 0) := by rw [mkd_zero]; exact h
  go_enter Tryd.func23, Tryd.ntmps23
  go_wp2
  go_loopw [5] (fun vi wr => ∃ k : Nat, vi = .int .i64 (k : Int) ∧ k ≤ n ∧ Ls wr lo hi (.slice a n c) (mkd xs m k) ∧ In lo hi w wr ∧ wr.heap.size = w.heap.size) (fun vi _ => n - (RowKit.intOf vi).toNat)
  case atStart => exact ⟨0, rfl, Nat.zero_le _, hst, In.refl _ _ _, rfl⟩
  case round =>
    obtain ⟨k, rfl, hk, hls, hin, hsz⟩ := hrel
    clear h hst
    have hml := mkd_length (m := m) (show k ≤ xs.length by have := HN.out; omega)
    by_cases hlt : k < n
    · obtain ⟨g, rfl, _⟩ := own_at hls.1 (by rw [hml, ← HN.out]; omega)
      have hnl : n = (mkd xs m k).length := by rw [hml]; exact HN.out
      have hce := hls.1.cellAt hnl (j := k) hlt
      have hfz := hls.1.frozenAt hnl k
      have hset := hls.1.set hnl k m
      have hgb := own_blk hls.1 (g := g) rfl
      have hgh := hls.2.2 g rfl
      have hhi := hls.2.1
      rw [mkd_set (by have := HN.out; omega)] at hset
      have HLS : Hid (Ls (wr.setCell ⟨g, k, none⟩ (.int .u64 m)) lo hi (.slice (some ⟨g, 0, none⟩) n c) (mkd xs m (k + 1))) := ⟨hset, by simp [World.setCell]; exact hhi, hls.2.2⟩
      have hin2 : In lo hi w (wr.setCell ⟨g, k, none⟩ (.int .u64 m)) := hin.setCell hgb.1 hgh _
      have hsz2 : (wr.setCell ⟨g, k, none⟩ (.int .u64 m)).heap.size = w.heap.size := by simp [World.setCell]; exact hsz
      have HSZ : Hid ((wr.setCell ⟨g, k, none⟩ (.int .u64 m)).heap.size = w.heap.size) := hsz2
      generalize (mkd xs m k).getD k 0 = y at *
      clear hls hin hsz hset hnl hml hsz2
      go_wp2
      go_roundw
      case rel => exact ⟨k + 1, by go_num, by omega, HLS.out, hin2, HSZ.out⟩
      case measure => simp [RowKit.intOf]; omega
    · have hkn : k = xs.length := by have := HN.out; omega
      rw [hkn, mkd_all] at hls
      have hlr : (List.replicate xs.length m).length = n := by rw [List.length_replicate]; exact HN.out.symm
      have HSZ : Hid (wr.heap.size = w.heap.size) := hsz
      have hlw : lo ≤ wr.heap.size := by rw [hsz]; exact hlo
      have hba : Below wr.heap.size wr (wr.alloc (.cells #[.int .u64 m, .int .u64 m, .int .u64 m] 39)) := (Below.refl _ _).alloc (Nat.le_refl _) _
      have hla := hls.later hba
      have hsa : (wr.alloc (.cells #[.int .u64 m, .int .u64 m, .int .u64 m] 39)).heap.size = wr.heap.size + 1 := by simp
      clear hsz hkn hml
      go_wp2_with (at_builtin; refine append_row rfl _ _ 22 rfl lo 39 i_u64 8 Tryd.underlying22 hi_u64 hz0_u64 hz1_u64 hz2_u64 _ (List.replicate xs.length m) rfl hla.1 (some ⟨wr.heap.size, 0, none⟩) 3 3 [m, m, m] rfl (three_row wr m) (by rw [hlr]; unfold maxLen; omega) (by rw [hlr]; omega) (by rw [hsa]; omega) ?_)
      intro v' w5 hown' hgrow hkeep hblk
      have hws := hgrow.size
      have hin5 : In lo hi w w5 := (hin.later hba).trans (In.of_grown hgrow (fun g hg => ⟨(own_blk hls.1 hg).1, hls.2.2 g hg⟩))
      have hL5 : Ls w5 lo hi (.slice a n c) (List.replicate xs.length m) := ⟨hkeep, Nat.le_trans hla.2.1 hws, hls.2.2⟩
      have e3 : List.replicate xs.length m ++ [m, m, m] = List.replicate (xs.length + 3) m := by
        rw [show [m, m, m] = List.replicate 3 m from rfl, List.replicate_append_replicate]
      rw [e3] at hown'
      have hV : ∃ lo2 hi2, Ls w5 lo2 hi2 v' (List.replicate (xs.length + 3) m) ∧ ((lo2 = lo ∧ hi2 = hi) ∨ w.heap.size ≤ lo2) := by
        rcases hblk with q | ⟨g, q, hg⟩
        · exact ⟨lo, hi, ⟨hown', hL5.2.1, fun g hg => hls.2.2 g (by rw [← q]; exact hg)⟩, Or.inl ⟨rfl, rfl⟩⟩
        · refine ⟨w.heap.size, w5.heap.size, Ls.of_own (own_base hown' fun g' hg' => ?_), Or.inr (Nat.le_refl _)⟩
          rw [q] at hg'
          simp only [Option.some.injEq] at hg'
          have := HSZ.out
          omega
      have HF : Hid ((Ls w5 lo hi (.slice a n c) (List.replicate n m) ∧ ∃ lo2 hi2, Ls w5 lo2 hi2 v' (List.replicate (n + 3) m) ∧ ((lo2 = lo ∧ hi2 = hi) ∨ w.heap.size ≤ lo2)) ∧ In lo hi w w5) := by
        have e := HN.out
        rw [← e] at hL5 hV
        exact ⟨⟨hL5, hV⟩, hin5⟩
      clear hown' hgrow hkeep hblk hin5 hL5 hV hla hls hin hba hsa
      go_wp2
      go_ret
      exact ⟨_, rfl, HF.out⟩
set_option maxRecDepth 100000 in
theorem filled4_any {v : Value} {lo hi n : Nat} {m : Int} {w : World} (h : Ls w lo hi v (List.replicate n m)) (hn : n ≤ 3000000) :
    Calls Tryd.prog 24 #[v, .int .u64 m] w fun e w' => e = .returned (.bool true) ∧ w = w' := by
  obtain ⟨a, c, rfl, hr⟩ := h.row
  rw [List.length_replicate] at hr ⊢
  have t : (m != m) = false := by simp
  clear h
  go_enter Tryd.func24, Tryd.ntmps24
  go_wp2
  go_loopw [5] (fun vi wr => ∃ k : Nat, w = wr ∧ vi = .int .i64 (k : Int) ∧ k ≤ n) (fun vi _ => n - (RowKit.intOf vi).toNat)
  case atStart => exact ⟨0, rfl, rfl, Nat.zero_le _⟩
  case round =>
    obtain ⟨k, rfl, rfl, hk⟩ := hrel
    by_cases hlt : k < n
    · obtain ⟨b, off, rfl, hb, hc⟩ := hr.1.at (by omega)
      have hx := hc k hlt
      have e : (List.replicate n m).getD k 0 = m := by simp [List.getD_eq_getElem?_getD, hlt]
      rw [e] at hx
      clear hc hr e
      go_wp2
      go_roundw
      case rel => exact ⟨k + 1, trivial, by go_num, by omega⟩
      case measure => simp [RowKit.intOf]; omega
    · go_wp2
      go_ret
      exact ⟨rfl, rfl⟩
end Go.Proofs.YtfnpigkiookejaaDoor

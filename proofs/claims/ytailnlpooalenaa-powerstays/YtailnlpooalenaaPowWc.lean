/- the walk of PowerStays. -/
import Derived.Test.YtailnlpooalenaaPowC
namespace Go.Proofs.Ytailnlpooalenaa
open Go.ChangeShapes Go.WideShapes Go.ChangeAt Go.RowKit
open Na Ar
set_option linter.unusedVariables false
/-- the frame's word for a slice of ints that came in, as a row -/
theorem rowI_of {w : World} {a : Option Addr} {len cap : Nat} {zs : List Int} (h : (a = none ∧ len = 0 ∧ cap = 0 ∧ zs = []) ∨
    ∃ x, a = some x ∧ len ≤ cap ∧ cap ≤ maxLen ∧ zs.length = cap ∧ (∀ i, i < zs.length → w.cell? (x.add i) = some (.int .i64 (zs.getD i 0))) ∧ ∀ n ∈ zs, (Lit.int .i64 n).wf = true) :
    RowAt .i64 w a len (zs.take len) ∧ len ≤ maxLen := by
  rcases h with ⟨rfl, rfl, rfl, rfl⟩ | ⟨x, rfl, hl, hm, hz, hc, hw⟩
  · exact ⟨⟨rfl, Or.inl rfl⟩, Nat.zero_le _⟩
  · refine ⟨⟨by rw [List.length_take]; omega, ?_⟩, by omega⟩
    by_cases h0 : len = 0
    · exact Or.inl h0
    · right
      obtain ⟨b, off, spot⟩ := x
      have h1 := hc 0 (by omega)
      have hs : spot = none := by simpa [Addr.add] using World.cell?_spot h1
      subst hs
      refine ⟨b, off, rfl, ?_, fun i hi => ?_⟩
      · by_cases hlt : b < w.heap.size
        · exact hlt
        · have := Array.getElem?_eq_none (xs := w.heap) (i := b) (Nat.le_of_not_lt hlt)
          simp [World.cell?, Addr.add, this] at h1
      · have h2 := hc i (by omega)
        have e : (zs.take len).getD i 0 = zs.getD i 0 := by simp [List.getD_eq_getElem?_getD, List.getElem?_take_of_lt hi]
        have ea : (⟨b, off, none⟩ : Addr).add i = ⟨b, off + i, none⟩ := by
          unfold Addr.add
          by_cases hi0 : i = 0
          · subst hi0; simp
          · simp [hi0]
        rw [e, ← ea]
        exact h2
set_option maxHeartbeats 3200000 in
set_option maxRecDepth 100000 in
theorem stays_walk {e : Int} {a : Option Addr} {n c : Nat} {zs : List Int} {w : World} (hr : RowAt .i64 w a n zs) (hn : n ≤ maxLen) :
    Calls Try.prog 6 #[.int .i64 e, .slice a n c] w fun r w' => r = .returned (.bool true) ∧ Below w.heap.size w w' := by
  have ha := fun w => alive8_any w
  have f1 := fun w => five8_all e w
  have f2 := fun w => above8_all e w
  have f3 := fun w => log2_all e w
  have F1 := fun i w => five8_all i w
  have F2 := fun i w => above8_all i w
  have F3 := fun i w => log10_all i w
  have hn' : n ≤ 9223372036854775807 := by unfold maxLen at hn; omega
  generalize tabI e (pV e / 18446744073709551616) = H at *
  generalize tabI e (pV e % 18446744073709551616) = L at *
  generalize tabI e (pX e) = X at *
  generalize tabE e = E at *
  generalize tabI e (abV e / 18446744073709551616) = H' at *
  generalize tabI e (abV e % 18446744073709551616) = L' at *
  generalize tabI e (e * 1741647 / 524288) = K at *
  go_enter Try.func6, Try.ntmps6
  go_wp2_with fail
  refine (f1 _).mono ?_
  rintro r w1 ⟨rfl, hb1⟩
  go_wp2_with fail
  refine (f2 _).mono ?_
  rintro r w2 ⟨rfl, hb⟩
  have hB := hb1.trans (hb.mono hb1.size)
  go_wp2_with fail
  refine (f3 _).mono ?_
  rintro r w3 ⟨rfl, hb⟩
  have hB := hB.trans (hb.mono hB.size)
  clear hb hb1
  go_wp2
  go_loopw [15] (fun i wr => ∃ k : Nat, i = .int .i64 (k : Int) ∧ k ≤ n ∧ Below w.heap.size w wr) (fun i _ => n - (RowKit.intOf i).toNat)
  case atStart => exact ⟨0, rfl, Nat.zero_le _, hB⟩
  case round =>
    obtain ⟨k, rfl, hk, hnx⟩ := hrel
    clear hB
    by_cases hlt : k < n
    · have hd : decide ((k : Int) < (n : Int)) = true := by simp; omega
      obtain ⟨b, off, rfl, hbl, hc⟩ : ∃ b off, a = some ⟨b, off, none⟩ ∧ b < w.heap.size ∧ ∀ i, i < n → w.cell? ⟨b, off + i, none⟩ = some (.int .i64 (zs.getD i 0)) := by
        rcases hr.2 with h | h
        · omega
        · exact h
      have hck := hc k hlt
      generalize zs.getD k 0 = v at *
      have f4 := fun w => F1 v w
      have f5 := fun w => F2 v w
      have f6 := fun w => F3 v w
      generalize tabI v (pV v / 18446744073709551616) = Hv at *
      generalize tabI v (pV v % 18446744073709551616) = Lv at *
      generalize tabI v (pX v) = Xv at *
      generalize tabE v = Ev at *
      generalize tabI v (abV v / 18446744073709551616) = Hw at *
      generalize tabI v (abV v % 18446744073709551616) = Lw at *
      clear F1 F2 F3 f1 f2 f3 ha hr hc
      have hc1 := (hnx.cell (p := ⟨b, off + k, none⟩) hbl).trans hck
      go_wp2_with fail
      refine (f4 _).mono ?_
      rintro r w5 ⟨rfl, hb⟩
      have hB := hnx.trans (hb.mono hnx.size)
      have hc1 := (hB.cell (p := ⟨b, off + k, none⟩) hbl).trans hck
      go_wp2_with fail
      refine (f4 _).mono ?_
      rintro r w6 ⟨rfl, hb⟩
      have hB := hB.trans (hb.mono hB.size)
      have hc1 := (hB.cell (p := ⟨b, off + k, none⟩) hbl).trans hck
      go_wp2_with fail
      refine (f5 _).mono ?_
      rintro r w7 ⟨rfl, hb⟩
      have hB := hB.trans (hb.mono hB.size)
      have hc1 := (hB.cell (p := ⟨b, off + k, none⟩) hbl).trans hck
      go_wp2_with fail
      refine (f6 _).mono ?_
      rintro r w8 ⟨⟨t1, t2, rfl⟩, hb⟩
      have hB := hB.trans (hb.mono hB.size)
      clear hb f4 f5 f6 hc1
      go_wp2
      go_roundw
      case rel => exact ⟨k + 1, by go_num, by omega, hB⟩
      case measure => simp [RowKit.intOf]; omega
    · have hkn : k = n := by omega
      subst hkn
      clear F1 F2 F3 hr hlt
      go_wp2_with fail
      refine (f1 _).mono ?_
      rintro r w5 ⟨rfl, hb⟩
      have hB := hnx.trans (hb.mono hnx.size)
      go_wp2_with fail
      refine (f2 _).mono ?_
      rintro r w6 ⟨rfl, hb⟩
      have hB := hB.trans (hb.mono hB.size)
      go_wp2_with fail
      refine (f3 _).mono ?_
      rintro r w7 ⟨rfl, hb⟩
      have hB := hB.trans (hb.mono hB.size)
      go_wp2_with fail
      refine (ha _).mono ?_
      rintro r w8 ⟨rfl, hb⟩
      have hB := hB.trans (hb.mono hB.size)
      go_wp2
      go_ret
      exact ⟨by simp, hB⟩
end Go.Proofs.Ytailnlpooalenaa

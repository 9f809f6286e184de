/- Layer 18: a token of a row written over. -/
import Derived.Test.YtfgpjplfplbcdaaGreatDoorTkPa
namespace Go.Proofs.YtfgpjplfplbcdaaGreatDoor
open Go.ChangeShapes Go.WideShapes Go.ChangeAt Go.RowKit
open Lx Tk
set_option linter.unusedVariables false
namespace Tk
/-- nine places of a list from a place on -/
def set9L (xs : List Value) (o : Nat) (x0 x1 x2 x3 x4 x5 x6 x7 x8 : Value) : List Value :=
  ((((((((xs.set o x0).set (o + 1) x1).set (o + 2) x2).set (o + 3) x3).set (o + 4) x4).set (o + 5) x5).set (o + 6) x6).set (o + 7) x7).set (o + 8) x8
theorem set9L_app (ys xs : List Value) (o : Nat) (x0 x1 x2 x3 x4 x5 x6 x7 x8 : Value) : set9L (ys ++ xs) (ys.length + o) x0 x1 x2 x3 x4 x5 x6 x7 x8 = ys ++ set9L xs o x0 x1 x2 x3 x4 x5 x6 x7 x8 := by
  unfold set9L
  have h : ∀ (zs : List Value) (j : Nat) (v : Value), (ys ++ zs).set (ys.length + j) v = ys ++ zs.set j v := fun zs j v => by
    rw [List.set_append_right _ _ (by omega), Nat.add_sub_cancel_left]
  rw [h, Nat.add_assoc, h, Nat.add_assoc, h, Nat.add_assoc, h, Nat.add_assoc, h, Nat.add_assoc, h, Nat.add_assoc, h, Nat.add_assoc, h, Nat.add_assoc, h]
theorem tkcs_set9 : ∀ (l : List Ct) (i : Nat) (c : Ct), i < l.length → set9L (tkcs l) (i * 9) (.int .i64 c.kind) (.int .i64 c.fr) (.int .i64 c.to) (.string (str c.word)) (.int .i64 c.num.kind) (.bool c.num.neg) (.string (str c.num.num)) (.int .i64 c.num.exp) (.string (str c.num.den)) = tkcs (l.set i c)
  | [], i, c, h => by simp at h
  | d :: r, 0, c, h => by
    show set9L (tkc d ++ tkcs r) (0 * 9) _ _ _ _ _ _ _ _ _ = tkc c ++ tkcs r
    rfl
  | d :: r, i + 1, c, h => by
    show set9L (tkc d ++ tkcs r) ((i + 1) * 9) _ _ _ _ _ _ _ _ _ = tkc d ++ tkcs (r.set i c)
    rw [show (i + 1) * 9 = (tkc d).length + i * 9 from by rw [tkc_len]; omega, set9L_app, tkcs_set9 r i c (by simpa using h)]
theorem take_set9L (xs : List Value) (n o : Nat) (x0 x1 x2 x3 x4 x5 x6 x7 x8 : Value) : (set9L xs o x0 x1 x2 x3 x4 x5 x6 x7 x8).take n = set9L (xs.take n) o x0 x1 x2 x3 x4 x5 x6 x7 x8 := by
  unfold set9L
  simp only [List.take_set]
/-- one token of a row written over -/
theorem TkR.set {w : World} {base g n cap : Nat} {l : List Ct} (h : TkR w base (.slice (some ⟨g, 0, none⟩) n cap) l) {i : Nat} (hi : i < l.length) (c : Ct) :
    TkR (((((((((w.setCell ⟨g, i * 9, none⟩ (.int .i64 c.kind)).setCell ⟨g, i * 9 + 1, none⟩ (.int .i64 c.fr)).setCell ⟨g, i * 9 + 2, none⟩ (.int .i64 c.to)).setCell ⟨g, i * 9 + 3, none⟩ (.string (str c.word))).setCell ⟨g, i * 9 + 4, none⟩ (.int .i64 c.num.kind)).setCell ⟨g, i * 9 + 5, none⟩ (.bool c.num.neg)).setCell ⟨g, i * 9 + 6, none⟩ (.string (str c.num.num))).setCell ⟨g, i * 9 + 7, none⟩ (.int .i64 c.num.exp)).setCell ⟨g, i * 9 + 8, none⟩ (.string (str c.num.den))) base (.slice (some ⟨g, 0, none⟩) n cap) (l.set i c) := by
  rcases h.2 with ⟨h0, _⟩ | ⟨g', cap', cur, e, hb, hc, h1, h2, h3, h4⟩
  · cases h0
  · simp only [Value.slice.injEq, Option.some.injEq, Addr.mk.injEq] at e
    obtain ⟨⟨rfl, _, _⟩, rfl, rfl⟩ := e
    have hB : Bk w g 32 cur := hc
    have hB9 := Bk.set (Bk.set (Bk.set (Bk.set (Bk.set (Bk.set (Bk.set (Bk.set (Bk.set hB (i * 9) (.int .i64 c.kind)) (i * 9 + 1) (.int .i64 c.fr)) (i * 9 + 2) (.int .i64 c.to)) (i * 9 + 3) (.string (str c.word))) (i * 9 + 4) (.int .i64 c.num.kind)) (i * 9 + 5) (.bool c.num.neg)) (i * 9 + 6) (.string (str c.num.num))) (i * 9 + 7) (.int .i64 c.num.exp)) (i * 9 + 8) (.string (str c.num.den))
    refine ⟨by rw [tkcs_len], Or.inr ⟨g, cap, _, by rw [List.length_set], hb, hB9, by rw [List.length_set]; exact h1, h2, by simp [h3], ?_⟩⟩
    rw [List.length_set]
    have e : ∀ (a : Array Value) (j : Nat) (v : Value), (a.setIfInBounds j v).toList = a.toList.set j v := fun a j v => Array.toList_setIfInBounds ..
    simp only [e]
    show (set9L cur.toList (i * 9) _ _ _ _ _ _ _ _ _).take _ = _
    rw [take_set9L, h4, tkcs_set9 l i c hi]
end Tk
end Go.Proofs.YtfgpjplfplbcdaaGreatDoor

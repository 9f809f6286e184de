import Derived.KernelRfl
import Derived.Laws.RangeAny
import Derived.Lib.OthersKept
import Derived.Lib.Strings
import Derived.Lib.TrimByte
import Derived.Lib.Walk
import Derived.Laws.Strings3
import Derived.WalkLawsBesides
import Derived.WalkSpells
import Derived.Deep.RegionWith
import Derived.Deep.DeepCutAuto
import Derived.Laws.IdiomStrings
import Derived.Below
import Derived.BigQuiet
import Derived.ChangeOld
import Derived.Deep.QuietTactic
import Derived.Laws.BitsAllLaws
import Derived.Laws.CopyRow
import Derived.Laws.IdiomCopy
import Derived.Laws.IdiomRangeMap
import Derived.OpenShut
import Derived.OwnWalk
import Derived.ProofKit
import Derived.Scope
import Derived.ShutString
import Derived.WalkKit
import Derived.WalkMore
import Derived.Test.YtalglldkjbinbaaGreatPt3
import Derived.Test.YtalglldkjbinbaaGreatPt8
/- package radix: Five, Ten. -/
namespace Go.Proofs.YtalglldkjbinbaaGreat
open Go.ChangeShapes Go.WideShapes Go.ChangeAt Go.RowKit
open Na Ar
set_option linter.unusedVariables false
namespace Na
theorem five_most : Nat.blt ((5 : Nat) ^ 112899) ((18446744073709551616 : Nat) ^ 4096) = true := by kernel_rfl
theorem pow_lt {b m n K : Nat} (hb : 1 ≤ b) (h0 : Nat.blt (b ^ m) ((18446744073709551616 : Nat) ^ K) = true) (hn : n ≤ m) : Lt ((b : Int) ^ n) K := by
  refine ⟨Int.pow_nonneg (by omega), ?_⟩
  have h : b ^ m < 18446744073709551616 ^ K := Nat.blt_eq.mp h0
  have a : b ^ n ≤ b ^ m := Nat.pow_le_pow_right hb hn
  have c : ((b ^ n : Nat) : Int) < ((18446744073709551616 ^ K : Nat) : Int) := Int.ofNat_lt.mpr (Nat.lt_of_le_of_lt a h)
  rw [Int.natCast_pow, Int.natCast_pow] at c
  exact c
theorem five_lt {n : Nat} (hn : n ≤ 112899) : Lt ((5 : Int) ^ n) 4096 := pow_lt (b := 5) (by omega) five_most hn
end Na
/-- what Five and Ten answer -/
def pwE (M n : Int) : Int := if n < 0 then 31 else if M < n then 21 else 0
def pwL (b M n : Int) : List Int := if n < 0 then [] else if M < n then [] else words (b ^ n.toNat)
theorem five_any (n : Int) (h0 : -9223372036854775808 ≤ n) (h9 : n ≤ 9223372036854775807) (w : World) :
    Calls Tryz.prog 96 #[.int .i64 n] w fun e w' => ∃ v, e = .returned (.tuple #[v, .int .i64 (pwE 112899 n)]) ∧ Own .u64 w' w.heap.size 22 v (pwL 5 112899 n) ∧ Below w.heap.size w w' := by
  by_cases hbig : 112899 < n
  · have E1 : Hid (pwE 112899 n = 21) := by show _ = _; unfold pwE; rw [if_neg (by omega), if_pos hbig]
    have E2 : Hid (pwL 5 112899 n = []) := by show _ = _; unfold pwL; rw [if_neg (by omega), if_pos hbig]
    go_enter Tryz.func96, Tryz.ntmps96
    go_wp2
    go_ret2
    exact ⟨_, by rw [E1.out]; rfl, by rw [E2.out]; exact own_nil _ _ _ _, Below.refl _ _⟩
  · have hfr := natFrom_any (v := 5) (by omega) w
    have d5 := Dg_words 5
    have n5 := num_words (show (0 : Int) ≤ 5 by omega)
    have l5 := words_len1 (v := 5) (by omega)
    have E : Hid (powE 5 n = pwE 112899 n ∧ powL 5 n = pwL 5 112899 n) := by
      show _ ∧ _
      unfold powE powL pwE pwL
      by_cases hneg : n < 0
      · rw [if_pos hneg, if_pos hneg, if_pos hneg, if_pos hneg]; exact ⟨rfl, rfl⟩
      · rw [if_neg hneg, if_neg hneg, if_neg hneg, if_neg hneg, if_neg hbig, if_neg hbig]
        have f := (five_lt (n := n.toNat) (by omega)).fits (Nat.le_refl _)
        exact ⟨f.2, f.1⟩
    go_enter Tryz.func96, Tryz.ntmps96
    go_wp2_with fail
    refine hfr.mono ?_
    rintro e w1 ⟨o, rfl, ho, hb1⟩
    obtain ⟨oa, oc, rfl, hor⟩ := ho.readsC
    have hp := pow_any hor d5 (by omega) n h0 h9
    rw [n5, E.out.1, E.out.2] at hp
    generalize (words 5).length = l at *
    clear hfr ho
    go_wp2_with fail
    refine hp.mono ?_
    rintro e w2 ⟨v, rfl, hv, hb2⟩
    have hv2 := hv.wider hb1.size
    have hB := hb1.trans (hb2.mono hb1.size)
    clear hp hv
    go_wp2
    go_ret2
    exact ⟨_, rfl, hv2, hB⟩
end Go.Proofs.YtalglldkjbinbaaGreat

/- package radix: what a digit stands for; known; step. -/
namespace Go.Proofs.YtalglldkjbinbaaGreat
open Go.ChangeShapes Go.WideShapes Go.ChangeAt Go.RowKit
open Na Ar
set_option linter.unusedVariables false
namespace Na
end Na
end Go.Proofs.YtalglldkjbinbaaGreat

/- package radix: wrong; strings.TrimLeft at one zero. -/
namespace Go.Proofs.YtalglldkjbinbaaGreat
open Go.ChangeShapes Go.WideShapes Go.ChangeAt Go.RowKit
open Na Ar
set_option linter.unusedVariables false
namespace Na
theorem get_byte {s : ByteArray} {i : Nat} (h : i < s.size) : s.get! i = s[i]'h := get_at s i h
end Na
/-- t is s from byte k on -/
def From (s t : ByteArray) (k : Nat) : Prop := t.data.toList = s.data.toList.drop k ∧ k ≤ s.size
theorem From.size {s t : ByteArray} {k : Nat} (h : From s t k) : t.size = s.size - k := by rw [Lib.size_eq, h.1, List.length_drop, ← Lib.size_eq]
theorem byte_list (s : ByteArray) (i : Nat) : s.get! i = s.data.toList.getD i 0 := by
  by_cases h : i < s.size
  · rw [get_byte h, List.getD_eq_getElem?_getD]
    have hl : i < s.data.toList.length := by rw [← Lib.size_eq]; exact h
    rw [List.getElem?_eq_getElem hl]
    rfl
  · have hl : ¬ i < s.data.toList.length := by rw [← Lib.size_eq]; exact h
    rw [List.getD_eq_getElem?_getD, List.getElem?_eq_none (by omega)]
    have : ¬ i < s.data.size := by simpa using hl
    show s.data[i]! = _
    rw [getElem!_neg s.data i this]; rfl
theorem From.byte {s t : ByteArray} {k : Nat} (h : From s t k) (i : Nat) : t.get! i = s.get! (k + i) := by
  rw [byte_list, byte_list, h.1]
  simp [List.getD_eq_getElem?_getD, List.getElem?_drop]
theorem From.next {s t : ByteArray} {k : Nat} (h : From s t k) (hk : k < s.size) : From s (t.extract 1 t.size) (k + 1) := by
  refine ⟨?_, by omega⟩
  have e : (t.extract 1 t.size).data.toList = (t.data.toList.drop 1) := by
    have := ByteArray.data_extract (a := t) (b := 1) (e := t.size)
    rw [this]
    simp
    rw [List.take_of_length_le]
    rw [List.length_tail, ← Lib.size_eq]
    exact Nat.le_refl _
  rw [e, h.1, List.drop_drop]
end Go.Proofs.YtalglldkjbinbaaGreat

/- words.Times, radix.behind. -/
namespace Go.Proofs.YtalglldkjbinbaaGreat
open Go.ChangeShapes Go.WideShapes Go.ChangeAt Go.RowKit
open Na Ar
set_option linter.unusedVariables false
namespace Na
end Na
end Go.Proofs.YtalglldkjbinbaaGreat

/- radix.behind, radix.number. -/
namespace Go.Proofs.YtalglldkjbinbaaGreat
open Go.ChangeShapes Go.WideShapes Go.ChangeAt Go.RowKit
open Na Ar
open Go.Lib
set_option linter.unusedVariables false
namespace Na
end Na
end Go.Proofs.YtalglldkjbinbaaGreat

/- radix.surelyHuge, api.Wrap, radix.Parse. -/
namespace Go.Proofs.YtalglldkjbinbaaGreat
open Go.ChangeShapes Go.WideShapes Go.ChangeAt Go.RowKit
open Na Ar
open Go.Lib
set_option linter.unusedVariables false
namespace Na
end Na
namespace Na
end Na
end Go.Proofs.YtalglldkjbinbaaGreat

/- radix.layWord: digits, laid into bytes. -/
namespace Go.Proofs.YtalglldkjbinbaaGreat
open Go.ChangeShapes Go.WideShapes Go.ChangeAt Go.RowKit
open Na Ar
set_option linter.unusedVariables false
namespace Na
/-- a digit's byte -/
def dch (d : Int) : Int := if d < 10 then 48 + d else 87 + d
end Na
end Go.Proofs.YtalglldkjbinbaaGreat

/- radix.lay: by halves. -/
namespace Go.Proofs.YtalglldkjbinbaaGreat
open Go.ChangeShapes Go.WideShapes Go.ChangeAt Go.RowKit
open Na Ar
set_option linter.unusedVariables false
theorem Own.off {w : World} {base : Nat} {e : TypeId} {a : Option Addr} {n c : Nat} {xs : List Int} (h : Own .u64 w base e (.slice a n c) xs) {g : Nat} (hg : g < base) : Off a g := by
  rcases h.2 with ⟨hv, _⟩ | ⟨g', cap, cur, hv, hb, _⟩
  · simp only [Value.slice.injEq] at hv
    rw [hv.1]
    intro b o h
    simp at h
  · simp only [Value.slice.injEq] at hv
    rw [hv.1]
    exact off_of (by omega)
namespace Na
end Na
end Go.Proofs.YtalglldkjbinbaaGreat

/- radix.ladder: squares of squares. -/
namespace Go.Proofs.YtalglldkjbinbaaGreat
open Go.ChangeShapes Go.WideShapes Go.ChangeAt Go.RowKit
open Na Ar
set_option linter.unusedVariables false
theorem Own.keptT {w w' : World} {base : Nat} {e : TypeId} {v : Value} {xs : List Int} {row : Option Nat} (h : Own .u64 w base e v xs) (hg : w.grownBy w' row) (hne : v.ownBlock = none ∨ v.ownBlock ≠ row) : Own .u64 w' base e v xs := World.ownsRow.kept h hg hne
theorem Own.apartT {w : World} {base base' : Nat} {e e' : TypeId} {v l : Value} {xs : List Int} {k : Nat} {us : List Value} (h : Own .u64 w base e v xs) (hl : w.ownsRow base' e' 1 l k us) (he : e ≠ e') : v.ownBlock = none ∨ v.ownBlock ≠ l.ownBlock := by
  rcases h.2 with ⟨h0, _⟩ | ⟨g, c, cur, hv, _, hc, _⟩
  · left; rw [h0]; rfl
  · right
    rcases hl.2 with ⟨h0, _⟩ | ⟨g', c', cur', hv', _, hc', _⟩
    · rw [hv, h0]; simp [Value.ownBlock]
    · rw [hv, hv']
      simp only [Value.ownBlock, ne_eq, Option.some.injEq]
      intro hh
      subst hh
      rw [hc] at hc'
      simp only [Option.some.injEq, Obj.cells.injEq] at hc'
      exact he hc'.2.1
/-- r lists: S and its squares, one of the other -/
def Rungs (w : World) (lo : Nat) (S : Int) (v : Value) (r : Nat) : Prop := ∃ vs : List Value, vs.length = r ∧ w.ownsRow lo 29 1 v r vs ∧ ∀ j, j < r → ∃ u, vs[j]? = some u ∧ Own .u64 w lo 22 u (words (S ^ (2 ^ j)))
theorem Rungs.later {w w' : World} {lo : Nat} {S : Int} {v : Value} {r : Nat} (h : Rungs w lo S v r) (hb : Below w.heap.size w w') : Rungs w' lo S v r := by
  obtain ⟨vs, h1, h2, h3⟩ := h
  refine ⟨vs, h1, ?_, fun j hj => ?_⟩
  · refine ⟨h2.1, ?_⟩
    rcases h2.2 with q | ⟨g, c, cur, hv, hb2, hc, rest⟩
    · exact Or.inl q
    · refine Or.inr ⟨g, c, cur, hv, hb2, ?_, rest⟩
      have hlt : g < w.heap.size := by
        by_cases q : g < w.heap.size
        · exact q
        · simp [Array.getElem?_eq_none (Nat.le_of_not_lt q)] at hc
      rw [hb.block g hlt]; exact hc
  · obtain ⟨u, a1, a2⟩ := h3 j hj
    exact ⟨u, a1, a2.later hb⟩
theorem Rungs.next {wr w1 : World} {lo : Nat} {S : Int} {v v' p : Value} {i : Nat} {o : Obj} (h : Rungs wr lo S v i) (hp : Own .u64 wr lo 22 p (words (S ^ (2 ^ i)))) {vs : List Value} (hvl : vs.length = i) (hvo : wr.ownsRow lo 29 1 v i vs) (hvs : ∀ j, j < i → ∃ u, vs[j]? = some u ∧ Own .u64 wr lo 22 u (words (S ^ (2 ^ j))))
    (hown' : w1.ownsRow lo 29 1 v' (i + 1) (vs ++ [p])) (hg : (wr.alloc o).grownBy w1 v.ownBlock) : Rungs w1 lo S v' (i + 1) ∧ Own .u64 w1 lo 22 p (words (S ^ (2 ^ i))) := by
  have hal : Below wr.heap.size wr (wr.alloc o) := (Below.refl _ _).alloc (Nat.le_refl _) o
  have key : ∀ {u : Value} {l : List Int}, Own .u64 wr lo 22 u l → Own .u64 w1 lo 22 u l := fun {u l} hu => by
    have ap := hu.apartT hvo (by decide)
    exact (hu.later hal).keptT hg ap
  refine ⟨⟨vs ++ [p], by simp [hvl], hown', fun j hj => ?_⟩, key hp⟩
  by_cases hlt : j < i
  · obtain ⟨u, a1, a2⟩ := hvs j hlt
    exact ⟨u, by rw [List.getElem?_append_left (by omega)]; exact a1, key a2⟩
  · have : j = i := by omega
    subst this
    exact ⟨p, by rw [List.getElem?_append_right (by omega), hvl]; simp, key hp⟩
namespace Na
end Na
end Go.Proofs.YtalglldkjbinbaaGreat

/- radix.Text. -/
namespace Go.Proofs.YtalglldkjbinbaaGreat
open Go.ChangeShapes Go.WideShapes Go.ChangeAt Go.RowKit
open Na Ar
set_option linter.unusedVariables false
namespace Na
end Na
end Go.Proofs.YtalglldkjbinbaaGreat

/- the text of a number is one. -/
namespace Go.Proofs.YtalglldkjbinbaaGreat
open Go.ChangeShapes Go.WideShapes Go.ChangeAt Go.RowKit
open Na Ar
set_option linter.unusedVariables false
namespace Na
end Na
end Go.Proofs.YtalglldkjbinbaaGreat

/- plumblaw04.alive. -/
namespace Go.Proofs.YtalglldkjbinbaaGreat
open Go.ChangeShapes Go.WideShapes Go.ChangeAt Go.RowKit
open Na Ar
set_option linter.unusedVariables false
namespace Na
theorem two_words {x y : Int} (hx : U x) (hy : U y) (h : y ≠ 0) : words (x + 18446744073709551616 * y) = [x, y] := by
  have w : Ws [x, y] := (Dg.one hx).append (Dg.one hy)
  have s := words_strip w
  have n : num [x, y] = x + 18446744073709551616 * y := by simp [num, val]
  rw [n] at s
  rw [← s]
  exact strip_end [x] y h
end Na
end Go.Proofs.YtalglldkjbinbaaGreat

/- radix.Parse of any text; one text behind another. -/
namespace Go.Proofs.YtalglldkjbinbaaGreat
open Go.ChangeShapes Go.WideShapes Go.ChangeAt Go.RowKit
open Na Ar
set_option linter.unusedVariables false
namespace Na
end Na
end Go.Proofs.YtalglldkjbinbaaGreat

/- a number's text, read back. -/
namespace Go.Proofs.YtalglldkjbinbaaGreat
open Go.ChangeShapes Go.WideShapes Go.ChangeAt Go.RowKit
open Na Ar
set_option linter.unusedVariables false
namespace Na
/-- what the text of X is, as digits -/
structure Digs (X b : Int) (D : List Int) : Prop where
  one : 1 ≤ D.length
  bd : ∀ x ∈ D, 48 ≤ x ∧ x ≤ 122
  lt : X < b ^ D.length
  get : ∀ i, i < D.length → D.getD i 0 = dch (X / b ^ (D.length - 1 - i) % b)
  top : D.getD 0 0 ≠ 48 ∨ D = [48]
end Na
end Go.Proofs.YtalglldkjbinbaaGreat

/- plumbref04: put, cut, words, Power; plumblaw04.rest. -/
namespace Go.Proofs.YtalglldkjbinbaaGreat
open Go.ChangeShapes Go.WideShapes Go.ChangeAt Go.RowKit
open Na Ar
set_option linter.unusedVariables false
namespace Na
end Na
end Go.Proofs.YtalglldkjbinbaaGreat

-- powers of five in 128 bits: the numbers, by themselves
namespace Go.Proofs.YtalglldkjbinbaaGreat
open Go.ChangeShapes Go.WideShapes Go.ChangeAt Go.RowKit
open Na Ar
set_option linter.unusedVariables false
namespace Na
def bN (n : Nat) : Nat := Nat.log2 (5 ^ n) + 1
/-- at i: of five to the i - 348 -/
def vN (i : Nat) : Nat := if 348 ≤ i then (if bN (i - 348) ≤ 128 then 5 ^ (i - 348) * 2 ^ (128 - bN (i - 348)) else 5 ^ (i - 348) / 2 ^ (bN (i - 348) - 128)) else 2 ^ (bN (348 - i) + 127) / 5 ^ (348 - i)
/-- the frame, and 1000 more -/
def xN (i : Nat) : Nat := if 348 ≤ i then bN (i - 348) + 872 else 873 - bN (348 - i)
def whN (i : Nat) : Bool := Nat.ble 348 i && Nat.ble i 403
def allB (f : Nat → Bool) : Nat → Bool
  | 0 => true
  | n + 1 => f n && allB f n
theorem allB_at {f : Nat → Bool} {k : Nat} (h : allB f k = true) {i : Nat} (hi : i < k) : f i = true := by
  induction k with
  | zero => omega
  | succ k ih =>
    have h' : (f k && allB f k) = true := h
    rw [Bool.and_eq_true] at h'
    by_cases e : i = k
    · rw [e]; exact h'.1
    · exact ih h'.2 (by omega)
def chkV (i : Nat) : Bool :=
  Nat.ble 170141183460469231731687303715884105728 (vN i) && (Nat.blt (vN i) 340282366920938463463374607431768211456 && (whN i || Nat.blt (vN i + 1) 340282366920938463463374607431768211456))
def chkX (i : Nat) : Bool := Nat.ble (xN i) 2000 && (Nat.beq ((i * 1741647 + 508060) / 524288 + 64) (xN i + i) && ((Nat.ble 348 i && (Nat.ble (bN (i - 348)) 900 && (Nat.ble (bN (i - 348)) 128 == Nat.ble i 403))) || (Nat.ble i 347 && Nat.ble (bN (348 - i)) 850)))
theorem chkV_all : allB chkV 696 = true := by kernel_rfl
theorem chkX_all : allB chkX 696 = true := by kernel_rfl
theorem vN_rng {i : Nat} (h : i < 696) : 170141183460469231731687303715884105728 ≤ vN i ∧ vN i < 340282366920938463463374607431768211456 ∧ (whN i = false → vN i + 1 < 340282366920938463463374607431768211456) := by
  have c := allB_at chkV_all h
  unfold chkV at c
  rw [Bool.and_eq_true, Bool.and_eq_true, Bool.or_eq_true] at c
  refine ⟨Nat.le_of_ble_eq_true c.1, Nat.blt_eq.mp c.2.1, fun q => ?_⟩
  rcases c.2.2 with e | e
  · rw [q] at e; cases e
  · exact Nat.blt_eq.mp e
theorem xN_rng {i : Nat} (h : i < 696) : xN i ≤ 2000 ∧ (i * 1741647 + 508060) / 524288 + 64 = xN i + i := by
  have c := allB_at chkX_all h
  unfold chkX at c
  rw [Bool.and_eq_true, Bool.and_eq_true] at c
  exact ⟨Nat.le_of_ble_eq_true c.1, Nat.eq_of_beq_eq_true c.2.1⟩
theorem bN_pos {n : Nat} (h : n ≤ 347) : bN n ≤ 900 ∧ (bN n ≤ 128 ↔ n ≤ 55) := by
  have c := allB_at chkX_all (show n + 348 < 696 by omega)
  unfold chkX at c
  rw [Bool.and_eq_true, Bool.and_eq_true, Bool.or_eq_true, Bool.and_eq_true, Bool.and_eq_true, Bool.and_eq_true, Nat.add_sub_cancel] at c
  rcases c.2.2 with ⟨_, c1, c2⟩ | ⟨c1, _⟩
  · refine ⟨Nat.le_of_ble_eq_true c1, ?_⟩
    have e := eq_of_beq c2
    constructor
    · intro q
      have : Nat.ble (bN n) 128 = true := Nat.ble_eq.mpr q
      rw [this] at e
      have := Nat.le_of_ble_eq_true e.symm
      omega
    · intro q
      have : Nat.ble (n + 348) 403 = true := Nat.ble_eq.mpr (by omega)
      rw [this] at e
      exact Nat.le_of_ble_eq_true e
  · have := Nat.le_of_ble_eq_true c1
    omega
theorem bN_neg {n : Nat} (h : n ≤ 348) (h1 : 1 ≤ n) : bN n ≤ 850 := by
  have c := allB_at chkX_all (show 348 - n < 696 by omega)
  unfold chkX at c
  rw [Bool.and_eq_true, Bool.and_eq_true, Bool.or_eq_true, Bool.and_eq_true, Bool.and_eq_true, Bool.and_eq_true] at c
  rcases c.2.2 with ⟨c1, _⟩ | ⟨_, c1⟩
  · have := Nat.le_of_ble_eq_true c1
    omega
  · have := Nat.le_of_ble_eq_true c1
    rw [show 348 - (348 - n) = n by omega] at this
    exact this
/-- of five to the e: the highest 128 bits, the frame; whole or not -/
def pV (e : Int) : Int := (vN (e + 348).toNat : Int)
def pX (e : Int) : Int := (xN (e + 348).toNat : Int) - 1000
def pW (e : Int) : Bool := whN (e + 348).toNat
def inT (e : Int) : Prop := -348 ≤ e ∧ e ≤ 347
theorem pW_is (e : Int) (h : inT e) : pW e = decide (0 ≤ e ∧ e ≤ 55) := by
  unfold pW whN
  unfold inT at h
  rw [Bool.eq_iff_iff, Bool.and_eq_true, Nat.ble_eq, Nat.ble_eq, decide_eq_true_eq]
  omega
theorem pV_rng {e : Int} (h : inT e) : 170141183460469231731687303715884105728 ≤ pV e ∧ pV e < 340282366920938463463374607431768211456 ∧ (pW e = false → pV e + 1 < 340282366920938463463374607431768211456) := by
  unfold inT at h
  have r := vN_rng (i := (e + 348).toNat) (by omega)
  unfold pV pW
  refine ⟨by omega, by omega, fun q => ?_⟩
  have := r.2.2 q
  omega
theorem pX_rng {e : Int} (h : inT e) : -1000 ≤ pX e ∧ pX e ≤ 1000 := by
  unfold inT at h
  have r := (xN_rng (i := (e + 348).toNat) (by omega)).1
  unfold pX
  omega
theorem bits_five (n : Nat) : bitsN ((5 : Int) ^ n) = (bN n : Int) := by
  have p : (0 : Int) < 5 ^ n := Int.pow_pos (by omega)
  unfold bitsN bN
  rw [if_neg (by omega)]
  have : ((5 : Int) ^ n).toNat = 5 ^ n := by
    have e : (5 : Int) ^ n = ((5 ^ n : Nat) : Int) := by simp
    rw [e, Int.toNat_natCast]
  rw [this]; rfl
/-- from 1 on -/
theorem pV_less {n : Nat} (h : n ≤ 55) : pV (n : Int) = 5 ^ n * 2 ^ (128 - bN n) ∧ pX (n : Int) = (bN n : Int) - 128 ∧ bN n ≤ 128 := by
  have b := (bN_pos (show n ≤ 347 by omega)).2.mpr h
  have e : ((n : Int) + 348).toNat = n + 348 := by omega
  unfold pV pX vN xN
  have q : 348 ≤ n + 348 := by omega
  rw [e, if_pos q, if_pos q, Nat.add_sub_cancel, if_pos b]
  refine ⟨by simp, by omega, b⟩
theorem pV_more {n : Nat} (h : n ≤ 347) (h1 : 55 < n) : pV (n : Int) = 5 ^ n / 2 ^ (bN n - 128) ∧ pX (n : Int) = (bN n : Int) - 128 ∧ 128 < bN n := by
  have b : ¬ bN n ≤ 128 := fun q => by have := (bN_pos h).2.mp q; omega
  have e : ((n : Int) + 348).toNat = n + 348 := by omega
  unfold pV pX vN xN
  have q : 348 ≤ n + 348 := by omega
  rw [e, if_pos q, if_pos q, Nat.add_sub_cancel, if_neg b]
  refine ⟨by simp, by omega, by omega⟩
/-- below 1 -/
theorem pV_under {n : Nat} (h : n ≤ 348) (h1 : 1 ≤ n) : pV (-(n : Int)) = 2 ^ (bN n + 127) / 5 ^ n ∧ pX (-(n : Int)) = -((bN n : Int) + 127) := by
  have b := bN_neg h h1
  have e : (-(n : Int) + 348).toNat = 348 - n := by omega
  unfold pV pX vN xN
  have q : ¬ 348 ≤ 348 - n := by omega
  rw [e, if_neg q, if_neg q, show 348 - (348 - n) = n by omega]
  refine ⟨by simp, by omega⟩
theorem pV_words {e : Int} (h : inT e) : words (pV e) = [pV e % 18446744073709551616, pV e / 18446744073709551616] ∧ U (pV e % 18446744073709551616) ∧ U (pV e / 18446744073709551616) ∧ 9223372036854775808 ≤ pV e / 18446744073709551616 := by
  obtain ⟨a, b, _⟩ := pV_rng h
  have u1 : U (pV e % 18446744073709551616) := by unfold U; omega
  have u2 : U (pV e / 18446744073709551616) := by unfold U; omega
  have t := two_words u1 u2 (by omega)
  refine ⟨?_, u1, u2, by omega⟩
  rw [← t, Int.emod_add_mul_ediv]
end Na
end Go.Proofs.YtalglldkjbinbaaGreat

/- the statements of layer 8: shl, mul, against, ordered, turned. -/
namespace Go.Proofs.YtalglldkjbinbaaGreat
open Go.ChangeShapes Go.WideShapes Go.ChangeAt Go.RowKit
open Na Ar
set_option linter.unusedVariables false
namespace Na
theorem five_13 : Nat.blt ((5 : Nat) ^ 348) ((18446744073709551616 : Nat) ^ 13) = true := by kernel_rfl
theorem ten_20 : Nat.blt ((10 : Nat) ^ 370) ((18446744073709551616 : Nat) ^ 20) = true := by kernel_rfl
theorem five_lt8 {n : Nat} (hn : n ≤ 348) : Lt ((5 : Int) ^ n) 13 := pow_lt (b := 5) (by omega) five_13 hn
theorem ten_lt8 {n : Nat} (hn : n ≤ 370) : Lt ((10 : Int) ^ n) 20 := pow_lt (b := 10) (by omega) ten_20 hn
/-- the logarithm to two, and 1157 more -/
def lN (i : Nat) : Nat := (i * 1741647 + 508060) / 524288
end Na
section
variable {w : World} {a b : Option Addr} {n m c1 c2 : Nat} {xs ys : List Int} {A B : Int}
end
end Go.Proofs.YtalglldkjbinbaaGreat


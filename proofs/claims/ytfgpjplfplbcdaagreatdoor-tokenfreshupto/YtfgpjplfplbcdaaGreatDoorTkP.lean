/- Layer 18: TokenJoins. -/
import Derived.Test.YtfgpjplfplbcdaaGreatDoorTkO
import Derived.Test.YtfgpjplfplbcdaaGreatDoorTkN
namespace Go.Proofs.YtfgpjplfplbcdaaGreatDoor
open Go.ChangeShapes Go.WideShapes Go.ChangeAt Go.RowKit
open Lx Tk Go.Shelf
set_option linter.unusedVariables false
namespace Tk
theorem and3 (h : Int) : ∃ j : Nat, j < 4 ∧ bits .and .i64 h 3 = (j : Int) := by
  refine ⟨(BitVec.ofInt 64 h &&& BitVec.ofInt 64 3).toNat, ?_, ?_⟩
  · rw [BitVec.toNat_and]
    have := @Nat.and_le_right (BitVec.ofInt 64 h).toNat (BitVec.ofInt 64 3).toNat
    have e : (BitVec.ofInt 64 3).toNat = 3 := rfl
    omega
  · have := @Nat.and_le_right (BitVec.ofInt 64 h).toNat (BitVec.ofInt 64 3).toNat
    have e : (BitVec.ofInt 64 3).toNat = 3 := rfl
    show IntKind.i64.wrap ((BitVec.ofInt 64 h &&& BitVec.ofInt 64 3).toNat : Int) = _
    rw [BitVec.toNat_and, IntKind.wrap_i64]
    omega
def sepB (j : Nat) : UInt8 := if j = 0 then 32 else if j = 1 then 44 else if j = 2 then 40 else 41
theorem sep_ext {j : Nat} (h : j < 4) : (ByteArray.mk #[32, 44, 40, 41]).extract j (j + 1) = str [sepB j] := by
  have : j = 0 ∨ j = 1 ∨ j = 2 ∨ j = 3 := by omega
  rcases this with rfl | rfl | rfl | rfl <;> rfl
theorem sep_sp (j : Nat) : isSp (sepB j) = true := by
  unfold sepB
  split; · rfl
  split; · rfl
  split <;> rfl
theorem sep_toks {c : UInt8} (hc : isSp c = true) : Toks 0 [c] (sepT c 0) none := by
  have h0 : ∀ k, Toks k [] [] none := fun k => .nil rfl
  have := Toks.join hc (h0 0) rfl (h0 1)
  simpa using this
theorem sep_move (c : UInt8) (n : Nat) : (sepT c 0).map (Ct.move n) = sepT c n := by
  unfold sepT
  split
  · rfl
  · rfl
theorem Toks.le {k : Nat} {r : B} {l : List Ct} {e : Option Nat} (h : Toks k r l e) : ∀ c ∈ l, c.fr ≤ k + r.length ∧ c.to ≤ k + r.length := by
  induction h with
  | nil _ => intro c hc; cases hc
  | bad _ => intro c hc; cases hc
  | @cons k r l e h _ ih =>
    intro c hc
    have f := cut_f r
    have f1 := f.fr
    have f2 := f.to
    rcases List.mem_cons.1 hc with rfl | hc
    · exact ⟨by show k + _ ≤ _; omega, by show k + _ ≤ _; omega⟩
    · have := ih c hc
      rw [List.length_drop] at this
      omega
theorem Toks.wle {k : Nat} {r : B} {l : List Ct} {e : Option Nat} (h : Toks k r l e) : ∀ p, e = some p → p ≤ k + r.length := by
  induction h with
  | nil _ => intro p hp; cases hp
  | @bad k r hk => intro p hp; cases hp; have := (cut_f r).fr; omega
  | @cons k r l e hk _ ih =>
    intro p hp
    have := ih p hp
    have f2 := (cut_f r).to
    rw [List.length_drop] at this
    omega
theorem tkcs_one : ∀ (l : List Ct), ∀ u ∈ tkcs l, u.oneCell' = true
  | [], u, h => by cases h
  | c :: r, u, h => by
    rcases List.mem_append.1 h with h | h
    · have : tkc c = [.int .i64 c.kind, .int .i64 c.fr, .int .i64 c.to, .string (str c.word), .int .i64 c.num.kind, .bool c.num.neg, .string (str c.num.num), .int .i64 c.num.exp, .string (str c.num.den)] := rfl
      rw [this] at h
      simp at h
      rcases h with rfl | rfl | rfl | rfl | rfl | rfl | rfl | rfl | rfl <;> rfl
    · exact tkcs_one r u h
theorem tkcs_len : ∀ (l : List Ct), (tkcs l).length = l.length * 9
  | [] => rfl
  | c :: r => by show (tkc c ++ tkcs r).length = _; rw [List.length_append, tkc_len, tkcs_len r, List.length_cons]; omega
theorem tkcs_app : ∀ (l m : List Ct), tkcs (l ++ m) = tkcs l ++ tkcs m
  | [], m => rfl
  | c :: r, m => by show tkc c ++ tkcs (r ++ m) = tkc c ++ tkcs r ++ tkcs m; rw [tkcs_app r m, List.append_assoc]
theorem TkR.grown {w w5 : World} {base : Nat} {v : Value} {l : List Ct} (h : TkR w base v l) (hg : w.grownBy w5 v.ownBlock) {a : World} {n : Nat} (hb : Below n a w) (hn : n ≤ base) (ha : n ≤ a.heap.size) : Below n a w5 := by
  cases ho : v.ownBlock with
  | none =>
    rw [ho] at hg
    exact hb.trans ((grown_below hg).mono (Nat.le_trans ha hb.size))
  | some b =>
    rw [ho] at hg
    have := (World.ownsRow.lt h b ho).1
    exact Tn.below hb (grown_tn hg) (by omega) ha
end Tk
theorem pow_later18 {w w' : World} (h : PowTab w) (hb : Below w.heap.size w w') : PowTab w' := by
  cases hg : Tryz.prog.globalNamed "internal/strconv.uint64pow10" with
  | none =>
    unfold PowTab Lib.TabIs World.var? at h
    rw [hg] at h
    cases h
  | some g =>
    unfold PowTab Lib.TabIs World.var? at h ⊢
    rw [hg] at h ⊢
    simp only [Option.bind_some] at h ⊢
    have hlt : g < w.heap.size := by
      rcases Nat.lt_or_ge g w.heap.size with h' | h'
      · exact h'
      · rw [Array.getElem?_eq_none h'] at h; cases h
    rw [hb.block g hlt]
    exact h
end Go.Proofs.YtfgpjplfplbcdaaGreatDoor

/- Layer 18: TokenJoins. -/
import Derived.Test.YtnnpakllehldhaaGreatDoorTkO
import Derived.Test.YtnnpakllehldhaaGreatDoorTkN
namespace Go.Proofs.YtnnpakllehldhaaGreatDoor
open Go.ChangeShapes Go.WideShapes Go.ChangeAt Go.RowKit
open Lx Tk Go.Shelf
set_option linter.unusedVariables false
namespace Tk
theorem and3 (h : Int) : ∃ j : Nat, j < 4 ∧ bits .and .i64 h 3 = (j : Int) := by
  refine ⟨(BitVec.ofInt 64 h &&& BitVec.ofInt 64 3).toNat, ?_, ?_⟩
  · rw [BitVec.toNat_and]
    have := @Nat.and_le_right (BitVec.ofInt 64 h).toNat (BitVec.ofInt 64 3).toNat
    have e : (BitVec.ofInt 64 3).toNat = 3 := rfl
    omega
  · have := @Nat.and_le_right (BitVec.ofInt 64 h).toNat (BitVec.ofInt 64 3).toNat
    have e : (BitVec.ofInt 64 3).toNat = 3 := rfl
    show IntKind.i64.wrap ((BitVec.ofInt 64 h &&& BitVec.ofInt 64 3).toNat : Int) = _
    rw [BitVec.toNat_and, IntKind.wrap_i64]
    omega
def sepB (j : Nat) : UInt8 := if j = 0 then 32 else if j = 1 then 44 else if j = 2 then 40 else 41
theorem sep_ext {j : Nat} (h : j < 4) : (ByteArray.mk #[32, 44, 40, 41]).extract j (j + 1) = str [sepB j] := by
  have : j = 0 ∨ j = 1 ∨ j = 2 ∨ j = 3 := by omega
  rcases this with rfl | rfl | rfl | rfl <;> rfl
theorem sep_sp (j : Nat) : isSp (sepB j) = true := by
  unfold sepB
  split; · rfl
  split; · rfl
  split <;> rfl
theorem sep_toks {c : UInt8} (hc : isSp c = true) : Toks 0 [c] (sepT c 0) none := by
  have h0 : ∀ k, Toks k [] [] none := fun k => .nil rfl
  have := Toks.join hc (h0 0) rfl (h0 1)
  simpa using this
theorem sep_move (c : UInt8) (n : Nat) : (sepT c 0).map (Ct.move n) = sepT c n := by
  unfold sepT
  split
  · rfl
  · rfl
theorem Toks.le {k : Nat} {r : B} {l : List Ct} {e : Option Nat} (h : Toks k r l e) : ∀ c ∈ l, c.fr ≤ k + r.length ∧ c.to ≤ k + r.length := by
  induction h with
  | nil _ => intro c hc; cases hc
  | bad _ => intro c hc; cases hc
  | @cons k r l e h _ ih =>
    intro c hc
    have f := cut_f r
    have f1 := f.fr
    have f2 := f.to
    rcases List.mem_cons.1 hc with rfl | hc
    · exact ⟨by show k + _ ≤ _; omega, by show k + _ ≤ _; omega⟩
    · have := ih c hc
      rw [List.length_drop] at this
      omega
theorem Toks.wle {k : Nat} {r : B} {l : List Ct} {e : Option Nat} (h : Toks k r l e) : ∀ p, e = some p → p ≤ k + r.length := by
  induction h with
  | nil _ => intro p hp; cases hp
  | @bad k r hk => intro p hp; cases hp; have := (cut_f r).fr; omega
  | @cons k r l e hk _ ih =>
    intro p hp
    have := ih p hp
    have f2 := (cut_f r).to
    rw [List.length_drop] at this
    omega
theorem tkcs_one : ∀ (l : List Ct), ∀ u ∈ tkcs l, u.oneCell' = true
  | [], u, h => by cases h
  | c :: r, u, h => by
    rcases List.mem_append.1 h with h | h
    · have : tkc c = [.int .i64 c.kind, .int .i64 c.fr, .int .i64 c.to, .string (str c.word), .int .i64 c.num.kind, .bool c.num.neg, .string (str c.num.num), .int .i64 c.num.exp, .string (str c.num.den)] := rfl
      rw [this] at h
      simp at h
      rcases h with rfl | rfl | rfl | rfl | rfl | rfl | rfl | rfl | rfl <;> rfl
    · exact tkcs_one r u h
theorem tkcs_len : ∀ (l : List Ct), (tkcs l).length = l.length * 9
  | [] => rfl
  | c :: r => by show (tkc c ++ tkcs r).length = _; rw [List.length_append, tkc_len, tkcs_len r, List.length_cons]; omega
theorem tkcs_app : ∀ (l m : List Ct), tkcs (l ++ m) = tkcs l ++ tkcs m
  | [], m => rfl
  | c :: r, m => by show tkc c ++ tkcs (r ++ m) = tkc c ++ tkcs r ++ tkcs m; rw [tkcs_app r m, List.append_assoc]
theorem TkR.grown {w w5 : World} {base : Nat} {v : Value} {l : List Ct} (h : TkR w base v l) (hg : w.grownBy w5 v.ownBlock) {a : World} {n : Nat} (hb : Below n a w) (hn : n ≤ base) (ha : n ≤ a.heap.size) : Below n a w5 := by
  cases ho : v.ownBlock with
  | none =>
    rw [ho] at hg
    exact hb.trans ((grown_below hg).mono (Nat.le_trans ha hb.size))
  | some b =>
    rw [ho] at hg
    have := (World.ownsRow.lt h b ho).1
    exact Tn.below hb (grown_tn hg) (by omega) ha
end Tk
theorem pow_later18 {w w' : World} (h : PowTab w) (hb : Below w.heap.size w w') : PowTab w' := by
  cases hg : Tryz.prog.globalNamed "internal/strconv.uint64pow10" with
  | none =>
    unfold PowTab Lib.TabIs World.var? at h
    rw [hg] at h
    cases h
  | some g =>
    unfold PowTab Lib.TabIs World.var? at h ⊢
    rw [hg] at h ⊢
    simp only [Option.bind_some] at h ⊢
    have hlt : g < w.heap.size := by
      rcases Nat.lt_or_ge g w.heap.size with h' | h'
      · exact h'
      · rw [Array.getElem?_eq_none h'] at h; cases h
    rw [hb.block g hlt]
    exact h
set_option maxHeartbeats 3200000 in
set_option maxRecDepth 100000 in
theorem joins_bad1 {s t : ByteArray} {h : Int} (hs : s.size ≤ 100000000) (ht : t.size ≤ 100000000) {w : World} (hE : ErrVar w) (hT : PowTab w) {l1 l2 : List Ct} {p : Nat} {e2 : Option Nat} (h1 : Toks 0 s.data.toList l1 (some p)) (h2 : Toks 0 t.data.toList l2 e2) :
    Calls Tryz.prog 3 #[.string s, .string t, .int .i64 h] w fun e w' => e = .returned (.bool true) ∧ Below w.heap.size w w' := by
  obtain ⟨J, hJ, hb⟩ := and3 h
  have hJ1 : (J : Int) + 1 ≤ 4 := by omega
  have hx := sep_ext hJ
  have hsp := sep_sp J
  generalize sepB J = c at *
  have TL : ∀ w', Below w.heap.size w w' → PowTab w' := fun w' hb => pow_later18 hT hb
  have hcat : (s ++ str [c] ++ t).data.toList = s.data.toList ++ c :: t.data.toList := by simp [str]
  have hsz : (s ++ str [c] ++ t).size = s.size + 1 + t.size := by rw [Lib.size_eq, hcat, List.length_append, List.length_cons, ← Lib.size_eq, ← Lib.size_eq]; omega
  have h3 : Toks 0 (s ++ str [c] ++ t).data.toList l1 (some p) := by rw [hcat]; exact Toks.wrong hsp _ h1 p rfl
  have c1 := all18_any s (by omega) h1 w
  have c2 := fun w => all18_any t (by omega) h2 w
  have c3 := fun w => all18_any (s ++ str [c] ++ t) (by omega) h3 w
  unfold AllR at c1 c2 c3
  simp only at c1 c3
  clear h1 h2 h3 hJ hT hcat
  generalize str [c] = X at *
  have hq : s.size + X.size + t.size ≤ 1000000000 := by have := hsz; simp at this; omega
  clear hsp c hsz
  go_enter Tryz.func3, Tryz.ntmps3
  go_wp2_with fail
  refine c1.mono ?_
  rintro e w1 ⟨er1, rfl, ⟨h0, _⟩ | ⟨_, g1, rfl, hF1⟩, hb1⟩
  · omega
  clear c1
  cases e2
  · go_wp2_with fail
    refine (c2 _).mono ?_
    rintro e w2 ⟨v2, rfl, hR2, hb2⟩
    clear c2
    go_wp2_with fail
    refine (c3 _).mono ?_
    rintro e w3 ⟨er3, rfl, ⟨h0, _⟩ | ⟨_, g3, rfl, hF3⟩, hb3⟩
    · omega
    clear c3
    have B2 := hb1.trans (hb2.mono hb1.size)
    have B3 := B2.trans (hb3.mono B2.size)
    have c4 := alive18_any (w := w3) (fun w' hb => TL w' (B3.trans (hb.mono B3.size)))
    go_wp2_with fail
    refine c4.mono ?_
    rintro e w4 ⟨rfl, hb4⟩
    clear c4
    have B4 := B3.trans (hb4.mono B3.size)
    have c5 := placeFault_any (hF3.later hb4) (hE.later B4)
    go_wp2_with fail
    refine c5.mono ?_
    rintro e w5 ⟨rfl, hb5⟩
    clear c5
    have B5 := B4.trans (hb5.mono B4.size)
    have c6 := placeFault_any ((((hF1.later hb2).later hb3).later hb4).later hb5) (hE.later B5)
    go_wp2_with fail
    refine c6.mono ?_
    rintro e w6 ⟨rfl, hb6⟩
    clear c6
    have B6 := B5.trans (hb6.mono B5.size)
    have HB6 : Hid _ := B6
    clear B6 B5 B4 B3 B2 hb1 hb2 hb3 hb4 hb5 hb6 hF1 hF3 TL hR2
    go_wp2
    go_ret
    exact ⟨by simp, HB6.out⟩
  · go_wp2_with fail
    refine (c2 _).mono ?_
    rintro e w2 ⟨er2, rfl, hF2, hb2⟩
    clear c2
    go_wp2_with fail
    refine (c3 _).mono ?_
    rintro e w3 ⟨er3, rfl, ⟨h0, _⟩ | ⟨_, g3, rfl, hF3⟩, hb3⟩
    · omega
    clear c3
    have B2 := hb1.trans (hb2.mono hb1.size)
    have B3 := B2.trans (hb3.mono B2.size)
    have c4 := alive18_any (w := w3) (fun w' hb => TL w' (B3.trans (hb.mono B3.size)))
    go_wp2_with fail
    refine c4.mono ?_
    rintro e w4 ⟨rfl, hb4⟩
    clear c4
    have B4 := B3.trans (hb4.mono B3.size)
    have c5 := placeFault_any (hF3.later hb4) (hE.later B4)
    go_wp2_with fail
    refine c5.mono ?_
    rintro e w5 ⟨rfl, hb5⟩
    clear c5
    have B5 := B4.trans (hb5.mono B4.size)
    have c6 := placeFault_any ((((hF1.later hb2).later hb3).later hb4).later hb5) (hE.later B5)
    go_wp2_with fail
    refine c6.mono ?_
    rintro e w6 ⟨rfl, hb6⟩
    clear c6
    have B6 := B5.trans (hb6.mono B5.size)
    have HB6 : Hid _ := B6
    clear B6 B5 B4 B3 B2 hb1 hb2 hb3 hb4 hb5 hb6 hF1 hF3 TL hF2
    go_wp2
    go_ret
    exact ⟨by simp, HB6.out⟩
set_option maxHeartbeats 3200000 in
set_option maxRecDepth 100000 in
theorem joins_bad2 {s t : ByteArray} {h : Int} (hs : s.size ≤ 100000000) (ht : t.size ≤ 100000000) {w : World} (hE : ErrVar w) (hT : PowTab w) {l1 l2 : List Ct} {p : Nat} (h1 : Toks 0 s.data.toList l1 none) (h2 : Toks 0 t.data.toList l2 (some p)) (hp : p ≤ t.size) :
    Calls Tryz.prog 3 #[.string s, .string t, .int .i64 h] w fun e w' => e = .returned (.bool true) ∧ Below w.heap.size w w' := by
  obtain ⟨J, hJ, hb⟩ := and3 h
  have hJ1 : (J : Int) + 1 ≤ 4 := by omega
  have hx := sep_ext hJ
  have hsp := sep_sp J
  generalize sepB J = c at *
  have TL : ∀ w', Below w.heap.size w w' → PowTab w' := fun w' hb => pow_later18 hT hb
  have hcat : (s ++ str [c] ++ t).data.toList = s.data.toList ++ c :: t.data.toList := by simp [str]
  have hsz : (s ++ str [c] ++ t).size = s.size + 1 + t.size := by rw [Lib.size_eq, hcat, List.length_append, List.length_cons, ← Lib.size_eq, ← Lib.size_eq]; omega
  have h3 : Toks 0 (s ++ str [c] ++ t).data.toList (l1 ++ (sepT c s.size ++ l2.map (Ct.move (s.size + 1)))) (some (s.size + 1 + p)) := by
    rw [hcat]
    have := Toks.join hsp h1 rfl (by have h4 := h2.shift (s.size + 1); rw [← Lib.size_eq]; simpa using h4)
    rw [← Lib.size_eq] at this
    simpa using this
  have c1 := all18_any s (by omega) h1 w
  have c2 := fun w => all18_any t (by omega) h2 w
  have c3 := fun w => all18_any (s ++ str [c] ++ t) (by omega) h3 w
  unfold AllR at c1 c2 c3
  simp only at c1 c2 c3
  clear h1 h2 h3 hJ hT hcat
  generalize str [c] = X at *
  have hq : s.size + X.size + t.size ≤ 1000000000 := by have := hsz; simp at this; omega
  clear hsp c hsz
  go_enter Tryz.func3, Tryz.ntmps3
  go_wp2_with fail
  refine c1.mono ?_
  rintro e w1 ⟨v1, rfl, hR1, hb1⟩
  clear c1
  go_wp2_with fail
  refine (c2 _).mono ?_
  rintro e w2 ⟨er2, rfl, ⟨h0, _⟩ | ⟨_, g2, rfl, hF2⟩, hb2⟩
  · omega
  clear c2
  go_wp2_with fail
  refine (c3 _).mono ?_
  rintro e w3 ⟨er3, rfl, ⟨h0, _⟩ | ⟨_, g3, rfl, hF3⟩, hb3⟩
  · omega
  clear c3
  have B2 := hb1.trans (hb2.mono hb1.size)
  have B3 := B2.trans (hb3.mono B2.size)
  have c4 := alive18_any (w := w3) (fun w' hb => TL w' (B3.trans (hb.mono B3.size)))
  go_wp2_with fail
  refine c4.mono ?_
  rintro e w4 ⟨rfl, hb4⟩
  clear c4
  have B4 := B3.trans (hb4.mono B3.size)
  have c5 := placeFault_any (hF3.later hb4) (hE.later B4)
  go_wp2_with fail
  refine c5.mono ?_
  rintro e w5 ⟨rfl, hb5⟩
  clear c5
  have B5 := B4.trans (hb5.mono B4.size)
  have c6 := placeFault_any (((hF2.later hb3).later hb4).later hb5) (hE.later B5)
  go_wp2_with fail
  refine c6.mono ?_
  rintro e w6 ⟨rfl, hb6⟩
  clear c6
  have B6 := B5.trans (hb6.mono B5.size)
  have HB6 : Hid _ := B6
  clear B6 B5 B4 B3 B2 hb1 hb2 hb3 hb4 hb5 hb6 hF2 hF3 TL hR1
  go_wp2
  go_ret
  refine ⟨?_, HB6.out⟩
  show Ending.returned (Value.bool _) = Ending.returned (Value.bool _)
  congr 2
  simp
  omega
end Go.Proofs.YtnnpakllehldhaaGreatDoor

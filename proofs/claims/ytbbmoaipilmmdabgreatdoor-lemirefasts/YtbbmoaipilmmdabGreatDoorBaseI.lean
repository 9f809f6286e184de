import Derived.Test.YtbbmoaipilmmdabGreatDoorBaseG
import Derived.Test.YtbbmoaipilmmdabGreatDoorBaseH
import Derived.WalkLawsBesides
import Derived.WalkSpells
import Derived.Deep.RegionWith
import Derived.Deep.DeepCutAuto
import Derived.Deep.DeepFit
/- plumbref04: step, TooLong, Text, Count. -/
namespace Go.Proofs.YtbbmoaipilmmdabGreatDoor
open Go.ChangeShapes Go.WideShapes Go.ChangeAt Go.RowKit
open Na Ar
set_option linter.unusedVariables false
/-- lists of unlike kinds lie in unlike blocks -/
theorem Own.innT {k : IntKind} {w w' : World} {base base' g n cap : Nat} {e e' : TypeId} {v : Value} {xs ls : List Int} (h : Own k w base e v xs) (hl : Own .u64 w base' e' (.slice (some ⟨g, 0, none⟩) n cap) ls) (he : e ≠ e') (hi : In g (g + 1) w w') : Own k w' base e v xs := by
  obtain ⟨h1, h2⟩ := h
  refine ⟨h1, ?_⟩
  rcases h2 with h2 | ⟨g2, c, cur, hv, hb, hc, r⟩
  · exact Or.inl h2
  · refine Or.inr ⟨g2, c, cur, hv, hb, ?_, r⟩
    have hlt : g2 < w.heap.size := by
      by_cases hlt : g2 < w.heap.size
      · exact hlt
      · simp [Array.getElem?_eq_none (Nat.le_of_not_lt hlt)] at hc
    have hne : g2 ≠ g := by
      rcases hl.2 with ⟨h0, _⟩ | ⟨g', c', cur', hv', _, hc', _⟩
      · simp at h0
      · simp only [Value.slice.injEq, Option.some.injEq, Addr.mk.injEq] at hv'
        intro hh
        have eg : g' = g2 := by omega
        rw [eg, hc] at hc'
        simp only [Option.some.injEq, Obj.cells.injEq] at hc'
        exact he hc'.2.1
    rw [hi.block g2 hlt (by omega)]; exact hc
theorem Own.shape8 {k : IntKind} {w : World} {base : Nat} {e : TypeId} {v : Value} {xs : List Int} (h : Own k w base e v xs) (hp : 0 < xs.length) : ∃ g c, v = .slice (some ⟨g, 0, none⟩) xs.length c ∧ base ≤ g := by
  rcases h.2 with ⟨_, h0⟩ | ⟨g, c, cur, hv, hb, _⟩
  · omega
  · exact ⟨g, c, hv, hb⟩
theorem LimbsOf.kept {w w' : World} {base base' : Nat} {a : Option Addr} {n c k : Nat} {us : List Int} {V : Int} {vb : Value} {bs : List Value} (h : LimbsOf w base a n c us V) (hb : w.ownsRow base' 5 1 vb k bs) (hg : w.grownBy w' vb.ownBlock) : LimbsOf w' base a n c us V := by
  obtain ⟨h1, h2⟩ := h
  exact ⟨h1.keptT hg (h1.apartT hb (by decide)), h2⟩
theorem LimbsOf.later {w w' : World} {base : Nat} {a : Option Addr} {n c : Nat} {us : List Int} {V : Int} (h : LimbsOf w base a n c us V) (hb : Below w.heap.size w w') : LimbsOf w' base a n c us V := ⟨h.1.later hb, h.2⟩
end Go.Proofs.YtbbmoaipilmmdabGreatDoor

/- plumbref04.Text. -/
namespace Go.Proofs.YtbbmoaipilmmdabGreatDoor
open Go.ChangeShapes Go.WideShapes Go.ChangeAt Go.RowKit
open Na Ar
set_option linter.unusedVariables false
theorem conv_bytes4 {w : World} {base g N cap : Nat} {zs : List Int} (h : Own .u8 w base 5 (.slice (some ⟨g, 0, none⟩) N cap) zs) (hN : N = zs.length) (hz : ∀ x ∈ zs, 48 ≤ x ∧ x ≤ 122) :
    (convert 107 9 (.slice (some ⟨g, 0, none⟩) N cap)).run Tryz.prog w = .ok (.string ⟨(bytesOf zs).toArray⟩) w := by
  have hl : (bytesOf zs).length = N := by unfold bytesOf; rw [List.length_map]; exact hN.symm
  have r := run_convert_bytes_back (P := Tryz.prog) w 107 9 5 ⟨g, 0, none⟩ cap (bytesOf zs) Tryz.underlying107 Tryz.underlying5 Tryz.underlying9 (fun j hj => by
    have hjn : j < N := by rw [← hl]; exact hj
    have c := h.cellAt hN (j := j) hjn
    have ea : (⟨g, 0, none⟩ : Addr).add j = ⟨g, j, none⟩ := by
      unfold Addr.add
      by_cases hi0 : j = 0
      · subst hi0; simp
      · simp [hi0]
    rw [ea, c]
    have hjz : j < zs.length := by omega
    have m := hz (zs.getD j 0) (by rw [List.getD_eq_getElem?_getD, List.getElem?_eq_getElem hjz]; exact List.getElem_mem hjz)
    have e : zs[j] = zs.getD j 0 := by rw [List.getD_eq_getElem?_getD, List.getElem?_eq_getElem hjz]; rfl
    have e2 : (bytesOf zs)[j] = UInt8.ofNat (zs.getD j 0).toNat := by rw [← e]; simp [bytesOf]
    rw [e2, UInt8.toNat_ofNat']
    congr 2
    omega)
  rw [hl] at r
  exact r
namespace Na
theorem pow_of_quot {b X : Int} {K : Nat} (hb : 2 ≤ b) (hX : 0 ≤ X) (h : 0 < X / b ^ K) : b ^ K ≤ X := by
  by_cases g : b ^ K ≤ X
  · exact g
  · rw [Int.ediv_eq_zero_of_lt hX (by omega)] at h; omega
theorem quot_none {b X : Int} {K : Nat} (hb : 2 ≤ b) (hX : 0 ≤ X) (h : X / b ^ K = 0) : X < b ^ K := by
  have p : 0 < b ^ K := Int.pow_pos (by omega)
  by_cases g : b ^ K ≤ X
  · have := Int.le_ediv_of_mul_le p (show 1 * b ^ K ≤ X by omega)
    omega
  · omega
theorem quot_next {b X m : Int} {K c : Nat} (hb : 2 ≤ b) (hm : m = b ^ c) : X / b ^ K / m = X / b ^ (K + c) := by
  rw [hm, Int.ediv_ediv_of_nonneg (Int.pow_nonneg (by omega)), ← Int.pow_add]
end Na
theorem own_caps {k : IntKind} {w : World} {base n cap : Nat} {e : TypeId} {a : Option Addr} {xs : List Int} (h : Own k w base e (.slice a n cap) xs) : xs.length ≤ cap := by
  obtain ⟨a', c', hv, hc, _⟩ := h.reads
  simp only [Value.slice.injEq] at hv
  omega
theorem own_slen {k : IntKind} {w : World} {base K : Nat} {e : TypeId} {v : Value} {xs : List Int} (h : Own k w base e v xs) (hK : xs.length = K) : Hid (sLen v = K) := by
  obtain ⟨a, c, rfl, _⟩ := h.reads
  exact hK
end Go.Proofs.YtbbmoaipilmmdabGreatDoor

/- RadixSums: what it needs, and its walk. -/
namespace Go.Proofs.YtbbmoaipilmmdabGreatDoor
open Go.ChangeShapes Go.WideShapes Go.ChangeAt Go.RowKit
open Na Ar
set_option linter.unusedVariables false
namespace Na
theorem fit_bits {X : Int} (h : 0 ≤ X) (g : (words X).length ≤ 4096) : bitsN X ≤ 262144 := by
  have := bits_le (N := X) (k := 4096) h (by have := val_lt (B := 18446744073709551616) (by omega) (Dg_words X); rw [val_words h] at this; exact Int.lt_of_lt_of_le this (wpow_mono g))
  omega
theorem trim_lt {U V : Int} {a b : Nat} (h : U * 10 ^ a = V * 10 ^ b) (hU : U % 10 ≠ 0) : ¬ a < b := by
  intro q
  obtain ⟨c, rfl⟩ : ∃ c, b = c + 1 + a := ⟨b - a - 1, by omega⟩
  have p : (10 : Int) ^ a ≠ 0 := by have : (0 : Int) < 10 ^ a := Int.pow_pos (by omega); omega
  rw [Int.pow_add, ← Int.mul_assoc] at h
  have e := Int.eq_of_mul_eq_mul_right p h
  rw [Int.pow_succ, ← Int.mul_assoc] at e
  omega
theorem trim_uniq {U V : Int} {a b : Nat} (h : U * 10 ^ a = V * 10 ^ b) (hU : U % 10 ≠ 0) (hV : V % 10 ≠ 0) : a = b ∧ U = V := by
  have h1 := trim_lt h hU
  have h2 := trim_lt h.symm hV
  have e : a = b := by omega
  subst e
  have p : (10 : Int) ^ a ≠ 0 := by have : (0 : Int) < 10 ^ a := Int.pow_pos (by omega); omega
  exact ⟨rfl, Int.eq_of_mul_eq_mul_right p h⟩
theorem tens_most {X U : Int} {k : Nat} (h0 : 0 < X) (hl : (words X).length ≤ 4096) (h : X = U * 10 ^ k) (hU : 0 ≤ U) : k ≤ 78913 := by
  have hb := fit_bits (Int.le_of_lt h0) hl
  obtain ⟨b, e, l1, l2⟩ := bits_some h0
  obtain ⟨T, hT⟩ : ∃ T : Nat, T = (b + 1) * 97879 / 325147 := ⟨_, rfl⟩
  obtain ⟨_, t2⟩ := tens_int hT (by omega)
  have hU1 : 1 ≤ U := by
    by_cases q : U = 0
    · rw [q, Int.zero_mul] at h; omega
    · omega
  have p : (0 : Int) < 10 ^ k := Int.pow_pos (by omega)
  have m := Int.mul_le_mul_of_nonneg_right hU1 (Int.le_of_lt p)
  by_cases g : k ≤ T
  · omega
  · exfalso
    have := ipow_mono (X := 10) (by omega) (show T + 1 ≤ k by omega)
    omega
theorem pow_short {b : Int} {k : Nat} (hb : 1 ≤ b) (hb9 : b ≤ 10) (hk : k ≤ 78913) : (words (b ^ k)).length ≤ 4096 := by
  have p : (0 : Int) ≤ b ^ k := Int.pow_nonneg (by omega)
  have a := ipow_base (X := b) (Y := 10) (by omega) hb9 k
  have c := ten_less hk
  exact bits_words p (Int.lt_of_le_of_lt a c) (Nat.le_refl _)
end Na
theorem rowC_sums {w : World} {a : Option Addr} {len cap : Nat} {zs : List Int} (h : (a = none ∧ len = 0 ∧ cap = 0 ∧ zs = []) ∨
    ∃ x, a = some x ∧ len ≤ cap ∧ cap ≤ maxLen ∧ zs.length = cap ∧ (∀ i, i < zs.length → w.cell? (x.add i) = some (.int .u64 (zs.getD i 0))) ∧ ∀ n ∈ zs, (Lit.int .u64 n).wf = true) :
    RowC w a len cap (zs.take len) ∧ Ws (zs.take len) := by
  have q := row_of h
  refine ⟨⟨q.1, ?_⟩, q.2.1⟩
  rcases h with ⟨rfl, rfl, rfl, rfl⟩ | ⟨x, rfl, hl, hm, hz, hc, hw⟩
  · exact ⟨Nat.le_refl _, Nat.zero_le _⟩
  · exact ⟨hl, hm⟩
/-- an answer that is a number, at fresh names -/
def Ans (w' : World) (X : Int) (v : Value) : Prop := ∃ a l c ls, v = .slice a l c ∧ RowC w' a l c ls ∧ Hid (ls = words X) ∧ l ≤ 4096
theorem ans_of {w' : World} {base : Nat} {X : Int} {v : Value} (h : Own .u64 w' base 22 v (words X)) (hl : (words X).length ≤ 4096) : Ans w' X v := by
  obtain ⟨a, c, rfl, hr⟩ := h.readsC
  exact ⟨a, _, c, _, rfl, hr, rfl, hl⟩
theorem fiveQ {k : Nat} {K : Int} (hK : K = k) (h : k ≤ 78913) (w : World) :
    Calls Tryz.prog 61 #[.int .i64 K] w fun e w' => ∃ a l c ls, e = .returned (.tuple #[.slice a l c, .int .i64 0]) ∧ (RowC w' a l c ls ∧ Hid (ls = words (5 ^ k)) ∧ l ≤ 4096) ∧ Below w.heap.size w w' := by
  subst hK
  have f := five_any (k : Int) (by omega) (by omega) w
  have E1 : pwE 112899 (k : Int) = 0 := by unfold pwE; rw [if_neg (by omega), if_neg (by omega)]
  have E2 : pwL 5 112899 (k : Int) = words (5 ^ k) := by unfold pwL; rw [if_neg (by omega), if_neg (by omega), Int.toNat_natCast]
  rw [E1, E2] at f
  refine f.mono ?_
  rintro e w' ⟨v, rfl, ho, hb⟩
  obtain ⟨a, l, c, ls, rfl, h1, h2, h3⟩ := ans_of ho (pow_short (by omega) (by omega) h)
  exact ⟨a, l, c, ls, rfl, ⟨h1, h2, h3⟩, hb⟩
theorem mulA {a b : Option Addr} {n m c1 c2 : Nat} {xs ys : List Int} {X Y : Int} {w : World} (hr1 : RowC w a n c1 xs) (hr2 : RowC w b m c2 ys) (e1 : Hid (xs = words X)) (e2 : Hid (ys = words Y)) (h1 : 0 ≤ X) (h2 : 0 ≤ Y) (hn : n ≤ 4000000) (hm : m ≤ 4000000) (hl : (words (X * Y)).length ≤ 4096) :
    Calls Tryz.prog 112 #[.slice a n c1, .slice b m c2] w fun e w' => ∃ a l c ls, e = .returned (.tuple #[.slice a l c, .int .i64 0]) ∧ (RowC w' a l c ls ∧ Hid (ls = words (X * Y)) ∧ l ≤ 4096) ∧ Below w.heap.size w w' := by
  have x1 := e1.out
  have x2 := e2.out
  subst x1 x2
  have f := natMul_any hr1 hr2 (Dg_words X) (Dg_words Y) hn hm
  rw [num_words h1, num_words h2, (res_fits hl).1, (res_fits hl).2] at f
  refine f.mono ?_
  rintro e w' ⟨v, rfl, ho, hb⟩
  obtain ⟨a, l, c, ls, rfl, h1, h2, h3⟩ := ans_of ho hl
  exact ⟨a, l, c, ls, rfl, ⟨h1, h2, h3⟩, hb⟩
end Go.Proofs.YtbbmoaipilmmdabGreatDoor

/- Text, Count and Trim, of the program and of the document, in every case; RadixTexts' walk. -/
namespace Go.Proofs.YtbbmoaipilmmdabGreatDoor
open Go.ChangeShapes Go.WideShapes Go.ChangeAt Go.RowKit
open Na Ar
set_option linter.unusedVariables false
namespace Na
/-- what Text answers -/
def TxIs (X b : Int) (t : ByteArray) (c : Int) : Prop :=
  (¬ (2 ≤ b ∧ b ≤ 36) ∧ t = ⟨#[]⟩ ∧ c = 40) ∨ ((2 ≤ b ∧ b ≤ 36) ∧ 262144 < bitsN X ∧ t = ⟨#[]⟩ ∧ c = 21) ∨
  ((2 ≤ b ∧ b ≤ 36) ∧ bitsN X ≤ 262144 ∧ c = 0 ∧ ((X = 0 ∧ t = ⟨#[48]⟩) ∨ (0 < X ∧ TextIs X b t)))
theorem txIs_uniq {X b c c' : Int} {t t' : ByteArray} (h : TxIs X b t c) (h' : TxIs X b t' c') : t = t' ∧ c = c' := by
  rcases h with ⟨a1, a2, a3⟩ | ⟨a1, a2, a3, a4⟩ | ⟨a1, a2, a3, a4⟩ <;> rcases h' with ⟨b1, b2, b3⟩ | ⟨b1, b2, b3, b4⟩ | ⟨b1, b2, b3, b4⟩
  · exact ⟨a2.trans b2.symm, by omega⟩
  · exact absurd b1 a1
  · exact absurd b1 a1
  · exact absurd a1 b1
  · exact ⟨a3.trans b3.symm, by omega⟩
  · omega
  · exact absurd a1 b1
  · omega
  · refine ⟨?_, by omega⟩
    rcases a4 with ⟨p1, p2⟩ | ⟨p1, p2⟩ <;> rcases b4 with ⟨q1, q2⟩ | ⟨q1, q2⟩
    · exact p2.trans q2.symm
    · omega
    · omega
    · exact textIs_uniq a1.1 a1.2 p1 p2 q2
/-- what Count answers -/
def CtIs (X d : Int) : Prop := (262144 < bitsN X ∧ d = 0) ∨ (bitsN X ≤ 262144 ∧ CountIs X d)
theorem ctIs_text {X d c : Int} {t : ByteArray} (h : CtIs X d) (ht : TxIs X 10 t c) : d = (t.size : Int) := by
  rcases ht with ⟨a1, a2, a3⟩ | ⟨a1, a2, a3, a4⟩ | ⟨a1, a2, a3, a4⟩
  · omega
  · rcases h with ⟨_, h2⟩ | ⟨h1, _⟩
    · rw [a3, h2]; rfl
    · omega
  · rcases h with ⟨h1, _⟩ | ⟨_, h2⟩
    · omega
    · rcases a4 with ⟨p1, p2⟩ | ⟨p1, p2⟩
      · rcases h2 with ⟨_, q⟩ | ⟨n, q, q1, q2⟩
        · rw [q, p2]; rfl
        · have : (0 : Int) < 10 ^ n := Int.pow_pos (by omega)
          omega
      · exact count_text p1 p2 h2
theorem long_bits {X : Int} (h : 0 ≤ X) : 4096 < (words X).length ↔ 262144 < bitsN X := by
  have := words_bits4096 h
  omega
end Na
end Go.Proofs.YtbbmoaipilmmdabGreatDoor

/- The texts that RatRound parses. -/
import Derived.Test.YtopcdpeepchgfacGreatDoorRatR1
import Derived.Test.YtopcdpeepchgfacGreatDoorRatN
namespace Go.Proofs.YtopcdpeepchgfacGreatDoor
open Go.ChangeShapes Go.WideShapes Go.ChangeAt Go.RowKit
open Na Ar
set_option linter.unusedVariables false
set_option linter.unusedSimpArgs false
theorem into5_any (n : Int) (top : Nat) (h0 : -9223372036854775808 ≤ n) (h1 : n ≤ 9223372036854775807) (ht : 0 < top) (ht' : top ≤ 400000000) (w : World) :
    Calls Tryz.prog 11 #[.int .i64 n, .int .i64 (top : Int)] w fun e w' => ∃ r : Nat, e = .returned (.int .i64 (r : Int)) ∧ r < top ∧ w = w' := by
  have t1 : ((top : Int) == 0) = false := by simp; omega
  have t2 : ((top : Int) == -1) = false := by simp
  have hm := Int.tmod_eq_emod (a := n) (b := (top : Int))
  have e0 := Int.emod_nonneg n (show (top : Int) ≠ 0 by omega)
  have e1 := Int.emod_lt_of_pos n (show (0 : Int) < top by omega)
  have hq2 : n.tmod (top : Int) = n % (top : Int) ∨ n.tmod (top : Int) = n % (top : Int) - (top : Int) := by
    rw [hm]
    split
    · left; omega
    · right; simp
  obtain ⟨r, hr⟩ : ∃ r : Nat, (r : Int) = n % (top : Int) := ⟨(n % (top : Int)).toNat, by omega⟩
  have hrt : r < top := by omega
  by_cases hneg : n.tmod (top : Int) < 0
  · have HR : Hid (wrap64 (n.tmod (top : Int) + (top : Int)) = (r : Int)) := by
      show _ = _
      unfold wrap64
      omega
    clear hm hq2 hr e0 e1
    go_enter Tryz.func11, Tryz.ntmps11
    go_wp2
    go_ret
    exact ⟨r, ret_i HR.out, hrt, rfl⟩
  · have HR : Hid (n.tmod (top : Int) = (r : Int)) := by show _ = _; omega
    clear hm hq2 hr e0 e1
    go_enter Tryz.func11, Tryz.ntmps11
    go_wp2
    go_ret
    exact ⟨r, ret_i HR.out, hrt, rfl⟩
namespace Na
/-- digits of a number -/
structure Dgs (T : ByteArray) (X : Int) : Prop where
  good : Good T 10
  num : numB T 10 T.size = X
  size : T.size ≤ 1000
theorem tx_dgs {X c : Int} {t : ByteArray} (h : TxIs X 10 t c) (h0 : 0 ≤ X) (h1 : X < 18446744073709551616 ^ 12) : Dgs t X := by
  have hsz := tx_size h h0 h1
  have hb : bitsN X ≤ 262144 := by
    by_cases hz : X = 0
    · rw [hz, bits_none]; omega
    · obtain ⟨e, e1, e2, e3⟩ := bits_some (show 0 < X by omega)
      have h4 : ¬ 768 ≤ e := fun hc => by
        have := p2mono hc
        have : (18446744073709551616 : Int) ^ 12 = 2 ^ 768 := wpow2 12
        omega
      omega
  rcases h with ⟨a1, _⟩ | ⟨_, a2, _⟩ | ⟨a1, a2, a3, ⟨rfl, rfl⟩ | ⟨p1, p2⟩⟩
  · omega
  · omega
  · obtain ⟨g1, g2, _⟩ := digs_good (s := (⟨#[48]⟩ : ByteArray)) (digs_zero (b := 10) (by omega)) (by omega) (by omega) (by omega) rfl
    exact ⟨g1, g2, hsz⟩
  · obtain ⟨e, e1, e2⟩ := has_log (b := 10) (by omega) p1
    obtain ⟨g1, g2, _⟩ := digs_good (digs_laid (by omega) (by omega) e1 e2) (by omega) (by omega) h0 (text_bytes p2 (by omega) (by omega) e1 e2)
    exact ⟨g1, g2, hsz⟩
/-- zeros ahead, a zero behind -/
theorem pad_good {T pad : ByteArray} {X : Int} (h : Dgs T X) (hp : ∀ j, j < pad.size → pad.get! j = 48) (h9 : pad.size ≤ 10) : Good (pad ++ T ++ (⟨#[48]⟩ : ByteArray)) 10 ∧ numB (pad ++ T ++ (⟨#[48]⟩ : ByteArray)) 10 (pad ++ T ++ (⟨#[48]⟩ : ByteArray)).size = X * 10 := by
  obtain ⟨⟨g1, g2, g3, g4⟩, hn, hs⟩ := h
  have pd : ∀ i, i < pad.size → dgt pad i < 10 := fun i hi => by rw [dgt_zero (hp i hi)]; omega
  have od : ∀ i, i < (⟨#[48]⟩ : ByteArray).size → dgt (⟨#[48]⟩ : ByteArray) i < 10 := by decide
  have sz : (pad ++ T ++ (⟨#[48]⟩ : ByteArray)).size = pad.size + T.size + 1 := by rw [app_size, app_size]; rfl
  refine ⟨⟨g1, g2, by omega, ?_⟩, ?_⟩
  · intro i hi
    by_cases q : i < (pad ++ T).size
    · rw [app_left _ _ q]
      by_cases r : i < pad.size
      · rw [app_left _ _ r]; exact pd i r
      · have := app_right pad T (i - pad.size)
        rw [show pad.size + (i - pad.size) = i by omega] at this
        rw [this]
        rw [app_size] at q
        exact g4 _ (by omega)
    · have := app_right (pad ++ T) (⟨#[48]⟩ : ByteArray) (i - (pad ++ T).size)
      rw [show (pad ++ T).size + (i - (pad ++ T).size) = i by omega] at this
      rw [this]
      rw [app_size] at q
      rw [app_size pad T]
      exact od _ (by show i - (pad.size + T.size) < 1; omega)
  · rw [app_num, app_num, numB_zeros hp, hn]
    have e1 : numB (⟨#[48]⟩ : ByteArray) 10 (⟨#[48]⟩ : ByteArray).size = 0 := by decide
    have e2 : (⟨#[48]⟩ : ByteArray).size = 1 := rfl
    rw [e1, e2]
    omega
theorem zeros_good {pad : ByteArray} (hp : ∀ j, j < pad.size → pad.get! j = 48) : Good (pad ++ (⟨#[48]⟩ : ByteArray)) 10 ∧ numB (pad ++ (⟨#[48]⟩ : ByteArray)) 10 (pad ++ (⟨#[48]⟩ : ByteArray)).size = 0 := by
  have pd : ∀ i, i < pad.size → dgt pad i < 10 := fun i hi => by rw [dgt_zero (hp i hi)]; omega
  have od : ∀ i, i < (⟨#[48]⟩ : ByteArray).size → dgt (⟨#[48]⟩ : ByteArray) i < 10 := by decide
  have sz : (pad ++ (⟨#[48]⟩ : ByteArray)).size = pad.size + 1 := by rw [app_size]; rfl
  refine ⟨⟨by omega, by omega, by omega, ?_⟩, ?_⟩
  · intro i hi
    by_cases r : i < pad.size
    · rw [app_left _ _ r]; exact pd i r
    · have := app_right pad (⟨#[48]⟩ : ByteArray) (i - pad.size)
      rw [show pad.size + (i - pad.size) = i by omega] at this
      rw [this]
      exact od _ (by show i - pad.size < 1; omega)
  · rw [app_num, numB_zeros hp]
    have e1 : numB (⟨#[48]⟩ : ByteArray) 10 (⟨#[48]⟩ : ByteArray).size = 0 := by decide
    rw [e1]; omega
theorem pad_zero (r : Nat) (hr : r < 10) : ((⟨#[48, 48, 48, 48, 48, 48, 48, 48, 48, 48]⟩ : ByteArray).extract 0 r).size = r ∧ ∀ j, j < ((⟨#[48, 48, 48, 48, 48, 48, 48, 48, 48, 48]⟩ : ByteArray).extract 0 r).size → ((⟨#[48, 48, 48, 48, 48, 48, 48, 48, 48, 48]⟩ : ByteArray).extract 0 r).get! j = 48 := by
  have e : (⟨#[48, 48, 48, 48, 48, 48, 48, 48, 48, 48]⟩ : ByteArray).size = 10 := rfl
  have es := ext_size (⟨#[48, 48, 48, 48, 48, 48, 48, 48, 48, 48]⟩ : ByteArray) (show 0 ≤ r by omega) (show r ≤ _ by rw [e]; omega)
  refine ⟨by omega, fun j hj => ?_⟩
  rw [ext_get _ (by omega), Nat.zero_add]
  have : ∀ j, j < 10 → (⟨#[48, 48, 48, 48, 48, 48, 48, 48, 48, 48]⟩ : ByteArray).get! j = 48 := by decide
  exact this j (by omega)
end Na
theorem mkR_ten (q : Rat) : mkR (decide (q.num < 0)) ((q.num.natAbs : Int) * 10) ((q.den : Int) * 10) = q := by
  unfold mkR
  have e1 : sg (decide (q.num < 0)) ((q.num.natAbs : Int) * 10) = q.num * (10 : Nat) := by
    by_cases hn : q.num < 0
    · rw [decide_eq_true hn]; unfold sg; rw [if_pos rfl]; omega
    · rw [decide_eq_false hn]; unfold sg; rw [if_neg (by decide)]; omega
  have e2 : ((q.den : Int) * 10).toNat = q.den * 10 := by omega
  rw [e1, e2, Rat.mkRat_mul_right (by omega)]
  exact Rat.mkRat_self q
theorem mkR_self (q : Rat) : mkR (decide (q.num < 0)) (q.num.natAbs : Int) (q.den : Int) = q := by
  unfold mkR
  have e1 : sg (decide (q.num < 0)) (q.num.natAbs : Int) = q.num := by
    by_cases hn : q.num < 0
    · rw [decide_eq_true hn]; unfold sg; rw [if_pos rfl]; omega
    · rw [decide_eq_false hn]; unfold sg; rw [if_neg (by decide)]; omega
  have e2 : (q.den : Int).toNat = q.den := by omega
  rw [e1, e2]
  exact Rat.mkRat_self q
theorem isR_rt {w : World} {s : Bool} {a b : Option Addr} {n c m d : Nat} {q : Rat} (h : Rt w s a n c b m d q) (hz : Sz q 12) : isR s (words (q.num.natAbs : Int)) (words (q.den : Int)) = true := by
  have hd := q.den_pos
  have l1 := hz.1.len
  have l2 := hz.2.len
  unfold isR
  rw [nrmB_of (by omega) (by omega), nrmB_of (by omega) (by omega), num_words (by omega), num_words (by omega), h.sgn]
  have c1 : (words (q.den : Int)).length ≠ 0 := fun e => by
    have := (words_nil (N := (q.den : Int)) (by omega)).mp e
    omega
  have c2 : Int.gcd (q.num.natAbs : Int) (q.den : Int) = 1 := by
    rw [Int.gcd_natCast_natCast]; exact q.reduced
  have c3 : (decide (q.num < 0) && decide ((words (q.num.natAbs : Int)).length = 0)) = false := by
    by_cases hn : q.num < 0
    · have : ¬ (words (q.num.natAbs : Int)).length = 0 := fun e => by
        have := (words_nil (N := (q.num.natAbs : Int)) (by omega)).mp e
        omega
      simp [this]
    · simp [hn]
  rw [c3, c2]
  simp [c1]
theorem an5_rt {w : World} {s : Bool} {a b : Option Addr} {n c m d : Nat} {q : Rat} (h : Rt w s a n c b m d q) (hz : Sz q 12) : An5 w s a n c b m d (words (q.num.natAbs : Int)) (words (q.den : Int)) 12 :=
  ⟨h.nu, h.de, Dg_words _, Dg_words _, hz.1.len, hz.2.len⟩
theorem od_rt {w : World} {s : Bool} {a b : Option Addr} {n c m d : Nat} {q : Rat} (h : Rt w s a n c b m d q) (hz : Sz q 12) : Od w s a n c b m d (.ok q) :=
  ⟨h.sgn, h.nu, h.de, by have := h.le hz; omega, by have := h.leD hz; omega⟩
namespace Na
/-- the text of a Rat, by its parts -/
def Form (t T L : ByteArray) (s : Bool) (X Y : Int) : Prop :=
  Dgs T X ∧ Dgs L Y ∧ ((Y = 1 ∧ L = ⟨#[49]⟩ ∧ Lead2 t T s []) ∨ (Y ≠ 1 ∧ Lead2 t T s (47 :: (bl L ++ []))))
theorem one_dgs : Dgs (⟨#[49]⟩ : ByteArray) 1 := ⟨⟨by omega, by omega, by decide, by decide⟩, by decide, by decide⟩
theorem Form.size {t T L : ByteArray} {s : Bool} {X Y : Int} (h : Form t T L s X Y) : t.size ≤ 2100 ∧ 0 < t.size := by
  obtain ⟨h1, h2, h3⟩ := h
  have a1 := h1.size
  have a2 := h2.size
  have a3 := h1.good.2.2.1
  have fs : fS s ≤ 1 := by cases s <;> decide
  rcases h3 with ⟨_, _, h3⟩ | ⟨_, h3⟩
  · have := h3.size
    simp at this
    omega
  · have := h3.size
    simp [← bl_size] at this
    omega
/-- the slash, if there is one -/
theorem Form.slash {t T L : ByteArray} {s : Bool} {X Y : Int} (h : Form t T L s X Y) {j : Nat} (hj : j < t.size) (h7 : t.get! j = 47) : Y ≠ 1 ∧ j = fS s + T.size := by
  obtain ⟨h1, h2, h3⟩ := h
  have sgn : ∀ B, Lead2 t T s B → fS s ≤ j := fun B hl => by
    cases s
    · exact Nat.zero_le _
    · apply Decidable.byContradiction
      intro hc
      have e : j = 0 := by have : fS true = 1 := rfl; omega
      subst e
      rw [bl_get, hl.eq] at h7
      exact absurd h7 (by show ¬ ((45 : UInt8) = 47); decide)
  rcases h3 with ⟨h0, _, h3⟩ | ⟨h0, h3⟩
  · have hs := h3.size
    simp at hs
    have := h3.digs j (sgn _ h3) (by omega)
    rw [dgt_slash h7] at this
    omega
  · refine ⟨h0, ?_⟩
    obtain ⟨q1, q2, q3, q4⟩ := quot_end h3 h2.good
    obtain ⟨d1, _⟩ := quot_digs h3 h2.good
    simp at q2
    rcases Nat.lt_trichotomy j (fS s + T.size) with l | l | l
    · have := h3.digs j (sgn _ h3) l
      rw [dgt_slash h7] at this
      omega
    · exact l
    · have := d1 j (by omega) (by omega)
      rw [dgt_slash h7] at this
      omega
/-- where the loop is -/
def CutI (t tp lo : ByteArray) (i : Nat) : Prop := ((∀ j, j < i → t.get! j ≠ 47) ∧ tp = t ∧ lo = ⟨#[49]⟩) ∨ (∃ k, k < i ∧ t.get! k = 47 ∧ tp = t.extract 0 k ∧ lo = t.extract (k + 1) t.size)
theorem Form.cut {t T L tp lo : ByteArray} {s : Bool} {X Y : Int} (h : Form t T L s X Y) (hc : CutI t tp lo t.size) : bl tp = bl (sgS s) ++ bl T ∧ lo = L := by
  have h0 := h
  obtain ⟨h1, h2, h3⟩ := h
  rcases hc with ⟨c1, rfl, rfl⟩ | ⟨k, k1, k2, rfl, rfl⟩
  · rcases h3 with ⟨_, hL, h3⟩ | ⟨_, h3⟩
    · refine ⟨?_, hL.symm⟩
      rw [h3.eq, List.append_nil]
    · obtain ⟨q1, q2, q3, q4⟩ := quot_end h3 h2.good
      exact absurd q3 (c1 _ (by omega))
  · obtain ⟨n1, rfl⟩ := h0.slash k1 k2
    rcases h3 with ⟨y, _, _⟩ | ⟨_, h3⟩
    · exact absurd y n1
    · have e := h3.eq
      have l1 : (bl (sgS s) ++ bl T).length = fS s + T.size := by rw [List.length_append, bl_sgS, ← bl_size]
      have e2 : bl t = (bl (sgS s) ++ bl T) ++ (47 :: bl L) := by rw [e]; simp
      constructor
      · unfold bl at *
        rw [ext_list, List.drop_zero, Nat.sub_zero, e2, ← l1, List.take_left]
      · apply bl_eq
        have l2 : (bl t).length = t.size := (bl_size t).symm
        unfold bl at *
        rw [ext_list, List.take_of_length_le (by rw [List.length_drop]; omega), e2, ← l1]
        rw [show (t.data.toList.length) = t.data.toList.length from rfl] at l2
        have : List.drop (((sgS s).data.toList ++ T.data.toList).length + 1) (((sgS s).data.toList ++ T.data.toList) ++ 47 :: L.data.toList) = L.data.toList := by
          rw [← List.drop_drop, List.drop_left]; rfl
        exact this
theorem form_of {s : Bool} {xs ys : List Int} {t : ByteArray} {c : Int} (h : TextR s xs ys t c) (hR : isR s xs ys = true) (x0 : 0 ≤ num xs) (x1 : num xs < 18446744073709551616 ^ 12) (y0 : 0 ≤ num ys) (y1 : num ys < 18446744073709551616 ^ 12) : c = 0 ∧ ∃ T L, Form t T L s (num xs) (num ys) := by
  rcases h with ⟨a1, _⟩ | ⟨_, hc, t1, e1, h1, h2⟩
  · rw [hR] at a1; cases a1
  · refine ⟨hc, ?_⟩
    have dT := tx_dgs h1 x0 x1
    have es : ∀ u : ByteArray, bl (if s = true then (⟨#[45]⟩ : ByteArray) ++ u else u) = bl (sgS s) ++ bl u := fun u => by
      cases s
      · rfl
      · rw [if_pos rfl, bl_app]; rfl
    rcases h2 with ⟨p1, rfl⟩ | ⟨p1, t2, e2, p2, rfl⟩
    · exact ⟨t1, ⟨#[49]⟩, dT, by rw [p1]; exact one_dgs, Or.inl ⟨p1, rfl, by rw [es, List.append_nil], dT.good⟩⟩
    · refine ⟨t1, t2, dT, tx_dgs p2 y0 y1, Or.inr ⟨p1, ?_, dT.good⟩⟩
      rw [bl_app, bl_app, es, List.append_nil, List.append_assoc, List.append_assoc]
      rfl
end Na
end Go.Proofs.YtopcdpeepchgfacGreatDoor

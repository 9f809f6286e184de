import Derived.Test.YtfnpigkiookejaaGreatDoorBaseE
import Derived.Test.YtfnpigkiookejaaGreatDoorBaseZ
/- radix.Parse in every case, with the error's place and number. -/
namespace Go.Proofs.YtfnpigkiookejaaGreatDoor
open Go.ChangeShapes Go.WideShapes Go.ChangeAt Go.RowKit
open Na Ar
set_option linter.unusedVariables false
namespace Na
/-- the error's number and its place -/
def PCode (s : ByteArray) (b code p : Int) : Prop :=
  (¬ (2 ≤ b ∧ b ≤ 36) ∧ code = 40 ∧ p = 0) ∨
  ((2 ≤ b ∧ b ≤ 36) ∧ s.size = 0 ∧ code = 41 ∧ p = 0) ∨
  ((2 ≤ b ∧ b ≤ 36) ∧ ∃ i : Nat, i < s.size ∧ b ≤ dgt s i ∧ (∀ j, j < i → dgt s j < b) ∧ code = 41 ∧ p = i) ∨
  ((2 ≤ b ∧ b ≤ 36) ∧ (0 < s.size ∧ ∀ i, i < s.size → dgt s i < b) ∧ 4096 < (words (numB s b s.size)).length ∧ code = 21 ∧ p = 0) ∨
  ((2 ≤ b ∧ b ≤ 36) ∧ (0 < s.size ∧ ∀ i, i < s.size → dgt s i < b) ∧ (words (numB s b s.size)).length ≤ 4096 ∧ code = 0 ∧ p = -1)
theorem pcode_uniq {s : ByteArray} {b c p c' p' : Int} (h : PCode s b c p) (h' : PCode s b c' p') : c = c' ∧ p = p' := by
  rcases h with ⟨a1, a2, a3⟩ | ⟨a1, a0, a2, a3⟩ | ⟨a1, i, i1, i2, i3, a2, a3⟩ | ⟨a1, a0, al, a2, a3⟩ | ⟨a1, a0, al, a2, a3⟩ <;> rcases h' with ⟨b1, b2, b3⟩ | ⟨b1, b0, b2, b3⟩ | ⟨b1, j, j1, j2, j3, b2, b3⟩ | ⟨b1, b0, bl, b2, b3⟩ | ⟨b1, b0, bl, b2, b3⟩
  · omega
  · exact absurd b1 a1
  · exact absurd b1 a1
  · exact absurd b1 a1
  · exact absurd b1 a1
  · exact absurd a1 b1
  · omega
  · omega
  · omega
  · omega
  · exact absurd a1 b1
  · omega
  · have e : i = j := by
      rcases Nat.lt_trichotomy i j with q | q | q
      · have := j3 i q; omega
      · exact q
      · have := i3 j q; omega
    subst e
    omega
  · have := b0.2 i i1; omega
  · have := b0.2 i i1; omega
  · exact absurd a1 b1
  · omega
  · have := a0.2 j j1; omega
  · omega
  · omega
  · exact absurd a1 b1
  · omega
  · have := a0.2 j j1; omega
  · omega
  · omega
end Na
/-- what radix.Parse answers -/
def ParseRes (w : World) (T code p : Int) (e : Ending) (w' : World) : Prop :=
  ((code = 0 ∧ ∃ v, e = .returned (.tuple #[v, .nilIface]) ∧ Own .u64 w' w.heap.size 43 v (words T)) ∨
   (code ≠ 0 ∧ ∃ g, e = .returned (.tuple #[.slice none 0 0, .iface 51 (.pointer (some ⟨g, 0, none⟩))]) ∧ FaultAt w' g p code)) ∧ Below w.heap.size w w'
set_option maxHeartbeats 3200000 in
set_option maxRecDepth 100000 in
theorem parseG_any (s : ByteArray) (b : Int) (hb : 2 ≤ b) (hb9 : b ≤ 36) (hs : s.size ≤ 10000000) (h0 : 0 < s.size) (hd : ∀ i, i < s.size → dgt s i < b) (w : World) :
    Calls Tryz.prog 4 #[.string s, .int .i64 b] w fun e w' => ∃ code p, PCode s b code p ∧ ParseRes w (numB s b s.size) code p e w' := by
  have hk : knownB b = true := by unfold knownB; simp; omega
  have kc := known_any b w
  rw [hk] at kc
  have wc := wrong_any s b hb hb9 (by unfold maxLen; omega) w
  have HG : Hid (0 < s.size ∧ ∀ i, i < s.size → dgt s i < b) := ⟨h0, hd⟩
  go_enter Tryz.func4, Tryz.ntmps4
  go_wp2_with fail
  refine kc.mono ?_
  rintro e w' ⟨rfl, rfl⟩
  go_wp2_with fail
  refine wc.mono ?_
  rintro e w1 ⟨at', ok, rfl, hwr, hb1⟩
  have hok : ok = false := by
    rcases hwr with ⟨_, q1, q2, _⟩ | ⟨_, q1, _⟩ | ⟨q, _⟩
    · have := hd at' q1; omega
    · omega
    · exact q
  subst hok
  clear kc wc hk hwr
  go_wp2_with fail
  refine (trimLeft_any s w1).mono ?_
  rintro e w' ⟨t, rfl, ⟨k, hF, hz, hnz⟩, rfl⟩
  have hts := hF.size
  have hkk := hF.2
  have hT : Hid (numB t b t.size = numB s b s.size) := by
    show _ = _
    rw [numB_from hF hz, hts]
    congr 1; omega
  have htd : ∀ i, i < t.size → dgt t i < b := fun i hi => by rw [from_dgt hF]; exact hd _ (by omega)
  have htp : Hid (1 ≤ t.size → b ^ (t.size - 1) ≤ numB t b t.size) := fun q => by
    have p0 : 1 ≤ dgt t 0 := by
      rw [from_dgt hF, Nat.add_zero]
      exact dgt_pos (hnz (by omega))
    have := numB_ge hb p0 (t.size - 1)
    rw [show t.size - 1 + 1 = t.size by omega] at this
    exact this
  have hsz : t.size ≤ 10000000 := by omega
  clear hF hz hnz hts hkk hd
  have hsh := surelyHuge_any t.size b hb hb9 (by omega) w1
  go_wp2_with fail
  refine hsh.mono ?_
  rintro e w2 ⟨H, rfl, hH, hb2⟩
  have hB2 := hb1.trans (hb2.mono hb1.size)
  clear hsh
  cases H with
  | true =>
    obtain ⟨q1, q2⟩ := hH rfl
    have hbig := q2 _ (htp.out q1)
    rw [hT.out] at hbig
    have HP : PCode s b 21 0 := Or.inr (Or.inr (Or.inr (Or.inl ⟨⟨hb, hb9⟩, HG.out, hbig, rfl, rfl⟩)))
    clear q2 htp hT hH hbig
    go_wp2_with fail
    refine (wrapF_any 0 21 w2).mono ?_
    rintro e w3 ⟨g, rfl, hf, hb3⟩
    have hB3 := hB2.trans (hb3.mono hB2.size)
    go_wp2
    go_ret2
    exact ⟨21, 0, HP, Or.inr ⟨by omega, g, rfl, hf⟩, hB3⟩
  | false =>
    clear hH htp
    have hnm := number_any t b hb hb9 (by omega) htd w2
    rw [hT.out] at hnm
    go_wp2_with fail
    refine hnm.mono ?_
    rintro e w3 ⟨v, rfl, hv, hb3⟩
    have hB3 := hB2.trans (hb3.mono hB2.size)
    have hv3 := hv.wider hB2.size
    obtain ⟨va, vc, rfl, hvr⟩ := hv.readsC
    clear hnm hvr hv
    by_cases hbig : 4096 < (words (numB s b s.size)).length
    · have HP : PCode s b 21 0 := Or.inr (Or.inr (Or.inr (Or.inl ⟨⟨hb, hb9⟩, HG.out, hbig, rfl, rfl⟩)))
      clear hv3
      generalize (words (numB s b s.size)).length = l at *
      go_wp2_with fail
      refine (wrapF_any 0 21 w3).mono ?_
      rintro e w4 ⟨g, rfl, hf, hb4⟩
      have hB4 := hB3.trans (hb4.mono hB3.size)
      go_wp2
      go_ret2
      exact ⟨21, 0, HP, Or.inr ⟨by omega, g, rfl, hf⟩, hB4⟩
    · have HP : PCode s b 0 (-1) := Or.inr (Or.inr (Or.inr (Or.inr ⟨⟨hb, hb9⟩, HG.out, by omega, rfl, rfl⟩)))
      have HV : Hid (Own .u64 w3 w.heap.size 43 (.slice va (words (numB s b s.size)).length vc) (words (numB s b s.size))) := hv3
      clear hv3
      generalize hl : (words (numB s b s.size)).length = l at *
      clear hl
      go_wp2
      go_ret2
      exact ⟨0, -1, HP, Or.inl ⟨rfl, _, rfl, HV.out⟩, hB3⟩
set_option maxHeartbeats 1600000 in
set_option maxRecDepth 100000 in
theorem parseF_any (s : ByteArray) (b : Int) (hs : s.size ≤ 10000000) (w : World) :
    Calls Tryz.prog 4 #[.string s, .int .i64 b] w fun e w' => ∃ code p, PCode s b code p ∧ ParseRes w (numB s b s.size) code p e w' := by
  by_cases hb : 2 ≤ b ∧ b ≤ 36
  · by_cases hg : 0 < s.size ∧ ∀ i, i < s.size → dgt s i < b
    · exact parseG_any s b hb.1 hb.2 hs hg.1 hg.2 w
    · have hk : knownB b = true := by unfold knownB; simp; omega
      have kc := known_any b w
      rw [hk] at kc
      have wc := wrong_any s b hb.1 hb.2 (by unfold maxLen; omega) w
      go_enter Tryz.func4, Tryz.ntmps4
      go_wp2_with fail
      refine kc.mono ?_
      rintro e w' ⟨rfl, rfl⟩
      go_wp2_with fail
      refine wc.mono ?_
      rintro e w1 ⟨at', ok, rfl, hwr, hb1⟩
      have hok : ok = true ∧ PCode s b 41 at' := by
        rcases hwr with ⟨q, q1, q2, q3⟩ | ⟨q, q1, q2⟩ | ⟨_, q1, _, q2⟩
        · exact ⟨q, Or.inr (Or.inr (Or.inl ⟨hb, at', q1, q2, q3, rfl, rfl⟩))⟩
        · exact ⟨q, Or.inr (Or.inl ⟨hb, q1, rfl, by omega⟩)⟩
        · exact absurd ⟨q1, q2⟩ hg
      obtain ⟨rfl, HP⟩ := hok
      clear kc wc hk hwr hg
      go_wp2_with fail
      refine (wrapF_any (at' : Int) 41 w1).mono ?_
      rintro e w2 ⟨g, rfl, hf, hb2⟩
      have hB2 := hb1.trans (hb2.mono hb1.size)
      go_wp2
      go_ret2
      exact ⟨41, at', HP, Or.inr ⟨by omega, g, rfl, hf⟩, hB2⟩
  · have hk : knownB b = false := by unfold knownB; simp; omega
    have kc := known_any b w
    rw [hk] at kc
    have HP : PCode s b 40 0 := Or.inl ⟨hb, rfl, rfl⟩
    go_enter Tryz.func4, Tryz.ntmps4
    go_wp2_with fail
    refine kc.mono ?_
    rintro e w' ⟨rfl, rfl⟩
    clear kc hk
    go_wp2_with fail
    refine (wrapF_any 0 40 w).mono ?_
    rintro e w2 ⟨g, rfl, hf, hb2⟩
    go_wp2
    go_ret2
    exact ⟨40, 0, HP, Or.inr ⟨by omega, g, rfl, hf⟩, hb2⟩
end Go.Proofs.YtfnpigkiookejaaGreatDoor

/- plumbref04.Parse. -/
namespace Go.Proofs.YtfnpigkiookejaaGreatDoor
open Go.ChangeShapes Go.WideShapes Go.ChangeAt Go.RowKit
open Na Ar
set_option linter.unusedVariables false
namespace Na
/-- the document's value of a byte -/
def refV (r : Int) : Int := if valN r = 36 then 99 else valN r
theorem refV_lt {r b : Int} (hb : b ≤ 36) : refV r < b ↔ valN r < b := by
  have := valN_bd r
  unfold refV
  split <;> omega
theorem refV_eq {r b : Int} (hb : b ≤ 36) (h : valN r < b) : refV r = valN r := by
  unfold refV; rw [if_neg (by omega)]
theorem refV_of {r x : Int} (h : valN r = x) (hx : x ≠ 36) : refV r = x := by unfold refV; rw [h, if_neg hx]
theorem refV_none {r : Int} (h : valN r = 36) : refV r = 99 := by unfold refV; rw [if_pos h]
theorem numB_lead {s : ByteArray} {b : Int} {f : Nat} (hb : 2 ≤ b) (hz : ∀ j, j < f → s.get! j = 48) (h1 : 1 ≤ dgt s f) (n : Nat) : b ^ n ≤ numB s b (f + n + 1) := by
  induction n with
  | zero =>
    show b ^ 0 ≤ numB s b (f + 0) * b + dgt s (f + 0)
    rw [Nat.add_zero, numB_zeros hz, Int.pow_zero, Int.zero_mul]; omega
  | succ n ih =>
    show b ^ (n + 1) ≤ numB s b (f + (n + 1)) * b + dgt s (f + (n + 1))
    have d := (valN_bd ((s.get! (f + (n + 1))).toNat : Int)).1
    have e : dgt s (f + (n + 1)) = valN ((s.get! (f + (n + 1))).toNat : Int) := rfl
    rw [Int.pow_succ]
    have m := Int.mul_le_mul_of_nonneg_right ih (show 0 ≤ b by omega)
    have e2 : f + (n + 1) = f + n + 1 := by omega
    rw [e2] at d e ⊢
    omega
/-- zeros ahead up to f, within the first i -/
def Lead (s : ByteArray) (f i : Nat) : Prop := f ≤ i ∧ (∀ j, j < f → s.get! j = 48) ∧ (f < i → s.get! f ≠ 48)
theorem lead_skip {s : ByteArray} {f i : Nat} (h : Lead s f i) (hs : ¬ (s.get! i = 48 ∧ i = f)) : Lead s f (i + 1) := by
  obtain ⟨h1, h2, h3⟩ := h
  refine ⟨by omega, h2, fun q => ?_⟩
  by_cases g : f < i
  · exact h3 g
  · have e : i = f := by omega
    intro z
    exact hs ⟨by rw [e]; exact z, e⟩
theorem lead_step {s : ByteArray} {f i : Nat} (h : Lead s f i) (hz : s.get! i = 48) (e : i = f) : Lead s (f + 1) (i + 1) := by
  obtain ⟨h1, h2, h3⟩ := h
  refine ⟨by omega, fun j hj => ?_, fun q => by omega⟩
  by_cases g : j < f
  · exact h2 j g
  · have : j = i := by omega
    rw [this]; exact hz
end Na
theorem refValue_any (r : Int) (h0 : 0 ≤ r) (h1 : r ≤ 255) (w : World) :
    Calls Tryz.prog 15 #[.int .u8 r] w fun e w' => e = .returned (.int .i64 (refV r)) ∧ w = w' := by
  by_cases a1 : 48 ≤ r
  · by_cases a2 : r ≤ 57
    · have HE : Hid (r - 48 = refV r) := (refV_of (by unfold valN; rw [if_pos ⟨a1, a2⟩]) (by omega)).symm
      go_enter Tryz.func15, Tryz.ntmps15
      go_wp2
      go_ret
      exact ⟨ret_int HE.out, rfl⟩
    · by_cases a3 : 97 ≤ r
      · by_cases a4 : r ≤ 122
        · have HE : Hid (r - 97 + 10 = refV r) := (refV_of (by unfold valN; rw [if_neg (by omega), if_pos ⟨a3, a4⟩]; omega) (by omega)).symm
          go_enter Tryz.func15, Tryz.ntmps15
          go_wp2
          go_ret
          exact ⟨ret_int HE.out, rfl⟩
        · have HE : Hid (99 = refV r) := (refV_none (by unfold valN; rw [if_neg (by omega), if_neg (by omega), if_neg (by omega)])).symm
          have a5 : 65 ≤ r := by omega
          have a6 : ¬ r ≤ 90 := by omega
          go_enter Tryz.func15, Tryz.ntmps15
          go_wp2
          go_ret
          exact ⟨ret_int HE.out, rfl⟩
      · by_cases a5 : 65 ≤ r
        · by_cases a6 : r ≤ 90
          · have HE : Hid (r - 65 + 10 = refV r) := (refV_of (by unfold valN; rw [if_neg (by omega), if_neg (by omega), if_pos ⟨a5, a6⟩]; omega) (by omega)).symm
            go_enter Tryz.func15, Tryz.ntmps15
            go_wp2
            go_ret
            exact ⟨ret_int HE.out, rfl⟩
          · have HE : Hid (99 = refV r) := (refV_none (by unfold valN; rw [if_neg (by omega), if_neg (by omega), if_neg (by omega)])).symm
            go_enter Tryz.func15, Tryz.ntmps15
            go_wp2
            go_ret
            exact ⟨ret_int HE.out, rfl⟩
        · have HE : Hid (99 = refV r) := (refV_none (by unfold valN; rw [if_neg (by omega), if_neg (by omega), if_neg (by omega)])).symm
          go_enter Tryz.func15, Tryz.ntmps15
          go_wp2
          go_ret
          exact ⟨ret_int HE.out, rfl⟩
  · have HE : Hid (99 = refV r) := (refV_none (by unfold valN; rw [if_neg (by omega), if_neg (by omega), if_neg (by omega)])).symm
    have a3 : ¬ 97 ≤ r := by omega
    have a5 : ¬ 65 ≤ r := by omega
    go_enter Tryz.func15, Tryz.ntmps15
    go_wp2
    go_ret
    exact ⟨ret_int HE.out, rfl⟩
set_option maxHeartbeats 1600000 in
set_option maxRecDepth 100000 in
theorem putNil_any {x c0 : Int} {base : Nat} {w : World} (hx : 0 ≤ x ∧ x < 4294967296) (hc : 0 ≤ c0 ∧ c0 < 4294967296) (hbase : base ≤ w.heap.size) :
    Calls Tryz.prog 16 #[.slice none 0 0, .int .u64 x, .int .u64 c0] w fun e w' => ∃ v, e = .returned v ∧ LimbsIs w' base v 1 c0 ∧ Below base w w' := by
  obtain ⟨i_u64, hi_u64, hz0_u64, hz1_u64, hz2_u64⟩ := info_parts info_u64
  have hou := own_nil .u64 w base 43
  have hnx := Below.refl base w
  go_enter Tryz.func16, Tryz.ntmps16
  go_wp2
  refine wp_loop_rounds 1 ?_
  rw [rounds_succ]
  by_cases h0 : 0 < c0
  · have hdg2 : Dg 4294967296 [c0] := Dg.one hc
    go_wp2_with (at_builtin; refine wpList_append_own _ rfl _ _ 22 rfl base 43 i_u64 (.int .u64 0) 1 8 Tryz.underlying22 hi_u64 hz0_u64 hz1_u64 hz2_u64 rfl (by decide) _ 0 [] rfl ((World.ownsRow_nil w base 43 1).alloc _) ⟨w.heap.size, 0, none⟩ 1 1 [.int .u64 c0] rfl rfl one_new one_cell (by unfold maxLen; omega) (by omega) (by simp; omega) ?_)
    intro v' w2 hown' hgrow _
    have hb' := grow_below hbase hou.row hnx hgrow
    have ho' : Own .u64 w2 base 43 v' ([] ++ [c0]) := own_next hown' rfl
    clear hown' hgrow hou hnx
    go_wp2
    go_ret
    exact ⟨_, rfl, ⟨_, ho', hdg2, by simp, by simp [val]⟩, hb'⟩
  · have HZ : Hid (c0 = 0) := by show _ = _; omega
    go_wp2
    go_ret
    exact ⟨_, rfl, ⟨[], hou, Dg.nil _, by simp, by rw [HZ.out]; rfl⟩, hnx⟩
theorem putAll_any {v : Value} {n base : Nat} {V x c0 : Int} {w : World} (h : LimbsIs w base v n V) (hx : 0 ≤ x ∧ x < 4294967296) (hc : 0 ≤ c0 ∧ c0 < 4294967296) (hn : n ≤ 1000000) (hbase : base ≤ w.heap.size) :
    Calls Tryz.prog 16 #[v, .int .u64 x, .int .u64 c0] w fun e w' => ∃ v', e = .returned v' ∧ LimbsIs w' base v' (n + 1) (V * x + c0) ∧ Below base w w' := by
  obtain ⟨us, ho, hd, hl, hV⟩ := h
  rcases ho.2 with ⟨h1, h2⟩ | ⟨g, c, cur, hv, hg, _⟩
  · have e : us = [] := List.eq_nil_of_length_eq_zero h2
    subst h1
    refine (putNil_any hx hc hbase).mono ?_
    rintro e' w' ⟨v', rfl, ⟨us', p1, p2, p3, p4⟩, hB⟩
    refine ⟨v', rfl, ⟨us', p1, p2, by omega, ?_⟩, hB⟩
    rw [p4, ← hV, e]; simp [val]
  · subst hv
    refine (put_any ho rfl hd hx hc (by omega) hbase).mono ?_
    rintro e' w' ⟨v', rfl, ⟨us', p1, p2, p3, p4⟩, hB⟩
    refine ⟨v', rfl, ⟨us', p1, p2, by omega, ?_⟩, hB⟩
    rw [p4, hV]
end Go.Proofs.YtfnpigkiookejaaGreatDoor

/- plumbref04.Parse's walk. -/
namespace Go.Proofs.YtfnpigkiookejaaGreatDoor
open Go.ChangeShapes Go.WideShapes Go.ChangeAt Go.RowKit
open Na Ar
set_option linter.unusedVariables false
/-- the list that the document's Parse answers -/
def pList (T code : Int) : List Int := if code = 0 then words T else []
set_option maxHeartbeats 12800000 in
set_option maxRecDepth 100000 in
theorem refParseB_any (s : ByteArray) (b : Int) (hs : s.size ≤ 10000000) (hb : 2 ≤ b) (hb9 : b ≤ 36) (hp : 0 < s.size) (w : World) :
    Calls Tryz.prog 5 #[.string s, .int .i64 b] w fun e w' => ∃ (va : Option Addr) (l c : Nat) (code p : Int), e = .returned (.tuple #[.slice va l c, .int .i64 code, .int .i64 p]) ∧ (PCode s b code p ∧ RowC w' va l c (pList (numB s b s.size) code)) ∧ Below w.heap.size w w' := by
  have hwb : IntKind.u64.wrap b = b := by rw [wrapU]; omega
  have hs0 : ((s.size : Int) == 0) = false := beq_no (by omega)
  have hnil : ∀ w', RowC w' none 0 0 [] := fun w' => ⟨⟨rfl, Or.inl rfl⟩, Nat.le_refl _, Nat.zero_le _⟩
  go_enter Tryz.func5, Tryz.ntmps5
  go_wp2
  go_loopw [7, 8] (fun vf vi wr => ∃ (f i : Nat), w = wr ∧ vf = .int .i64 (f : Int) ∧ vi = .int .i64 (i : Int) ∧ i ≤ s.size ∧ Hid (∀ j, j < i → dgt s j < b) ∧ Hid (Lead s f i)) (fun _ vi _ => s.size - (RowKit.intOf vi).toNat)
  case atStart => exact ⟨0, 0, rfl, rfl, rfl, by omega, fun j hj => by omega, ⟨Nat.le_refl _, fun j hj => by omega, fun q => by omega⟩⟩
  case round =>
    obtain ⟨f, i, rfl, rfl, rfl, hi, hdg, hld⟩ := hrel
    have hfi := hld.out.1
    by_cases hlt : i < s.size
    · have hby : s.get! i = s[i]'hlt := get_byte hlt
      have hdi : dgt s i = valN ((s[i]'hlt).toNat : Int) := by unfold dgt; rw [hby]
      have hr9 : ((s[i]'hlt).toNat : Int) ≤ 255 := by have := (s[i]'hlt).toNat_lt; omega
      have vc := refValue_any ((s[i]'hlt).toNat : Int) (by omega) hr9 w
      have hz : s.get! i = 48 ↔ ((s[i]'hlt).toNat : Int) = 48 := by
        rw [hby]
        constructor
        · intro q; rw [q]; rfl
        · intro q; exact UInt8.toNat_inj.1 (by show (s[i]'hlt).toNat = 48; omega)
      have hlt2 := refV_lt (r := ((s[i]'hlt).toNat : Int)) hb9
      have hr0 : 0 ≤ ((s[i]'hlt).toNat : Int) := by omega
      have hrb := valN_bd ((s[i]'hlt).toNat : Int)
      by_cases hbad : b ≤ dgt s i
      · have HP : PCode s b 41 i := Or.inr (Or.inr (Or.inl ⟨⟨hb, hb9⟩, i, hlt, hbad, hdg.out, rfl, rfl⟩))
        have hv9 : b ≤ refV ((s[i]'hlt).toNat : Int) := by
          by_cases q : refV ((s[i]'hlt).toNat : Int) < b
          · have := hlt2.mp q; omega
          · omega
        generalize refV ((s[i]'hlt).toNat : Int) = V at *
        clear hdg hld hz hdi hby hlt2
        go_wp2_with fail
        refine vc.mono ?_
        rintro e w' ⟨rfl, rfl⟩
        clear vc
        go_wp2
        go_ret3
        exact ⟨none, 0, 0, 41, i, rfl, ⟨HP, by unfold pList; rw [if_neg (by omega)]; exact hnil _⟩, Below.refl _ _⟩
      · have hv9 : refV ((s[i]'hlt).toNat : Int) < b := hlt2.mpr (by omega)
        have HDG : Hid (∀ j, j < i + 1 → dgt s j < b) := fun j hj => by
          by_cases q : j < i
          · exact hdg.out j q
          · have e : j = i := by omega
            rw [e]; omega
        have hskip := fun q => lead_skip hld.out q
        have hstep := fun q e => lead_step hld.out q e
        generalize refV ((s[i]'hlt).toNat : Int) = V at *
        clear hdg hld hdi hby hlt2 hbad
        by_cases h48 : ((s[i]'hlt).toNat : Int) = 48
        · have t48 : (((s[i]'hlt).toNat : Int) == 48) = true := beq_of h48
          by_cases hif : i = f
          · have HL : Hid (Lead s (f + 1) (i + 1)) := hstep (hz.mpr h48) hif
            have tif : ((i : Int) == (f : Int)) = true := beq_of (by omega)
            have hf9 : f ≤ 10000000 := by omega
            clear hskip hstep hz h48 hif hfi
            go_wp2_with fail
            refine vc.mono ?_
            rintro e w' ⟨rfl, rfl⟩
            clear vc
            go_wp2
            go_roundw
            case rel => exact ⟨f + 1, i + 1, trivial, by go_num, by go_num, by omega, HDG, HL⟩
            case measure => simp [RowKit.intOf]; omega
          · have HL : Hid (Lead s f (i + 1)) := hskip (fun q => hif q.2)
            have tif : ((i : Int) == (f : Int)) = false := beq_no (by omega)
            clear hskip hstep hz h48 hif
            go_wp2_with fail
            refine vc.mono ?_
            rintro e w' ⟨rfl, rfl⟩
            clear vc
            go_wp2
            go_roundw
            case rel => exact ⟨f, i + 1, trivial, rfl, by go_num, by omega, HDG, HL⟩
            case measure => simp [RowKit.intOf]; omega
        · have t48 : (((s[i]'hlt).toNat : Int) == 48) = false := beq_no h48
          have HL : Hid (Lead s f (i + 1)) := hskip (fun q => h48 (hz.mp q.1))
          clear hskip hstep hz h48
          go_wp2_with fail
          refine vc.mono ?_
          rintro e w' ⟨rfl, rfl⟩
          clear vc
          go_wp2
          go_roundw
          case rel => exact ⟨f, i + 1, trivial, rfl, by go_num, by omega, HDG, HL⟩
          case measure => simp [RowKit.intOf]; omega
    · have hiz : i = s.size := by omega
      rw [hiz] at hdg hld
      have hfn : f ≤ s.size := by omega
      have hlt9 : ¬ (i : Int) < (s.size : Int) := by omega
      have HG : Hid (0 < s.size ∧ ∀ j, j < s.size → dgt s j < b) := ⟨hp, hdg.out⟩
      have hbigN : ∀ L : Nat, (2 : Int) ^ L ≤ b → 262144 ≤ (s.size - f - 1) * L → f < s.size → PCode s b 21 0 := fun L h2 hq hfl => by
        have d1 := dgt_pos (hld.out.2.2 hfl)
        have q := numB_lead hb hld.out.2.1 d1 (s.size - f - 1)
        rw [show f + (s.size - f - 1) + 1 = s.size by omega] at q
        exact Or.inr (Or.inr (Or.inr (Or.inl ⟨⟨hb, hb9⟩, HG.out, sure_huge (K := 1) (β := L) hb (by rw [Int.pow_one b]; exact h2) (by rw [Nat.div_one]; exact hq) q, rfl, rfl⟩)))
      have HBN : Hid (∀ L : Nat, (2 : Int) ^ L ≤ b → 262144 ≤ (s.size - f - 1) * L → f < s.size → PCode s b 21 0) := hbigN
      have HZ : Hid (numB s b f = 0) := numB_zeros hld.out.2.1
      clear hbigN hiz hdg hld
      go_wp2
      go_loop [9] (fun vl => ∃ L : Nat, vl = .int .i64 (L : Int) ∧ 1 ≤ L ∧ L ≤ 5 ∧ (2 : Int) ^ L ≤ b) (fun vl => 6 - (RowKit.intOf vl).toNat)
      case atStart => exact ⟨1, rfl, by omega, by omega, by omega⟩
      case round =>
        obtain ⟨L, rfl, hL1, hL5, hLb⟩ := hrel
        have hsh : (2 : Int) * 2 ^ L = 2 ^ (L + 1) := by rw [Int.pow_succ, Int.mul_comm]
        have hsb : (2 : Int) ^ (L + 1) ≤ 64 := by
          have := p2mono (show L + 1 ≤ 6 by omega)
          have e : (2 : Int) ^ 6 = 64 := by decide
          omega
        have hp0 : (0 : Int) < 2 ^ (L + 1) := Int.pow_pos (by omega)
        have hw1 : wrap64 (2 ^ (L + 1)) = 2 ^ (L + 1) := by unfold wrap64; omega
        have hprod : -5 ≤ ((s.size : Int) - f - 1) * L ∧ ((s.size : Int) - f - 1) * L ≤ 50000000 := by
          have a := Int.mul_le_mul_of_nonneg_left (show (L : Int) ≤ 5 by omega) (show (0 : Int) ≤ s.size - f by omega)
          have c := Int.mul_nonneg (show (0 : Int) ≤ s.size - f by omega) (show (0 : Int) ≤ L by omega)
          have e : ((s.size : Int) - f - 1) * L = (s.size - f) * L - L := by rw [Int.sub_mul, Int.one_mul]
          omega
        have hw2 : wrap64 (((s.size : Int) - f - 1) * L) = ((s.size : Int) - f - 1) * L := by unfold wrap64; omega
        by_cases hge : (2 : Int) ^ (L + 1) ≤ b
        · have hL4 : L ≤ 4 := by
            by_cases q : L ≤ 4
            · exact q
            · have : L = 5 := by omega
              subst this
              have e : (2 : Int) ^ (5 + 1) = 64 := by decide
              omega
          have HGE : Hid ((2 : Int) ^ (L + 1) ≤ b) := hge
          have hng : ¬ b < (2 : Int) ^ (L + 1) := by omega
          clear hsh hLb
          go_wp2
          go_round
          case rel => exact ⟨L + 1, by go_num, by omega, by omega, HGE.out⟩
          case measure => simp [RowKit.intOf]; omega
        · have hng : b < (2 : Int) ^ (L + 1) := by omega
          have hbn := HBN.out L hLb
          clear hsh hLb hge
          by_cases hbig : 262144 ≤ ((s.size : Int) - f - 1) * L
          · have hfl : f < s.size := by
              by_cases q : f < s.size
              · exact q
              · exfalso
                have e : (s.size : Int) - f - 1 = -1 := by omega
                rw [e] at hbig
                omega
            have HP : PCode s b 21 0 := hbn (by
              have e : (((s.size - f - 1) * L : Nat) : Int) = ((s.size : Int) - f - 1) * L := by
                rw [Int.natCast_mul]; congr 1; omega
              omega) hfl
            clear hbn
            go_wp2
            go_ret3
            exact ⟨none, 0, 0, 21, 0, rfl, ⟨HP, by unfold pList; rw [if_neg (by omega)]; exact hnil _⟩, Below.refl _ _⟩
          · have hcount : s.size ≤ f + 262145 := by
              by_cases q : s.size ≤ f + 262145
              · exact q
              · exfalso
                have := Int.mul_le_mul_of_nonneg_left (show (1 : Int) ≤ L by omega) (show (0 : Int) ≤ s.size - f - 1 by omega)
                omega
            have hnb : ((s.size : Int) - f - 1) * L < 262144 := by omega
            clear hbn hbig
            go_wp2
            go_loopw [10, 11] (fun v vi wr => ∃ k : Nat, vi = .int .i64 (k : Int) ∧ f ≤ k ∧ k ≤ s.size ∧ LimbsIs wr w.heap.size v (k - f) (numB s b k) ∧ Below w.heap.size w wr) (fun _ vi _ => s.size - (RowKit.intOf vi).toNat)
            case atStart => exact ⟨f, rfl, Nat.le_refl _, hfn, ⟨[], own_nil _ _ _ _, Dg.nil _, by simp, by rw [HZ.out]; rfl⟩, Below.refl _ _⟩
            case round =>
              obtain ⟨k, rfl, hk1, hk2, hlim, hnx⟩ := hrel
              have hsz := hnx.size
              by_cases hlt2 : k < s.size
              · have hby : s.get! k = s[k]'hlt2 := get_byte hlt2
                have hdi : dgt s k = valN ((s[k]'hlt2).toNat : Int) := by unfold dgt; rw [hby]
                have hr9 : ((s[k]'hlt2).toNat : Int) ≤ 255 := by have := (s[k]'hlt2).toNat_lt; omega
                have vc := fun w => refValue_any ((s[k]'hlt2).toNat : Int) (by omega) hr9 w
                have hd9 := HG.out.2 k hlt2
                have hve := refV_eq hb9 (show valN ((s[k]'hlt2).toNat : Int) < b by rw [← hdi]; exact hd9)
                rw [hve, ← hdi] at vc
                have hd0 := (valN_bd ((s[k]'hlt2).toNat : Int)).1
                rw [← hdi] at hd0
                have pc := putAll_any (x := b) (c0 := dgt s k) hlim ⟨by omega, by omega⟩ ⟨hd0, by omega⟩ (by omega) hsz
                have HN : Hid (numB s b (k + 1) = numB s b k * b + dgt s k) := rfl
                rw [← HN.out] at pc
                generalize dgt s k = D at *
                have hwD : IntKind.u64.wrap D = D := by rw [wrapU]; omega
                clear hve hdi hby hlim hr9
                go_wp2_with fail
                refine (vc _).mono ?_
                rintro e w' ⟨rfl, rfl⟩
                clear vc
                go_wp2_with fail
                refine pc.mono ?_
                rintro e w5 ⟨v', rfl, hl5, hb5⟩
                have hB5 := hnx.trans hb5
                clear pc
                go_wp2
                go_roundw
                case rel => exact ⟨k + 1, by go_num, by omega, by omega, (by rw [show k + 1 - f = k - f + 1 by omega]; exact hl5), hB5⟩
                case measure => simp [RowKit.intOf]; omega
              · have hkz : k = s.size := by omega
                have hltI : ¬ (k : Int) < (s.size : Int) := by omega
                obtain ⟨us, ho, hd, hl, hV⟩ := hlim
                obtain ⟨ua, uc, rfl, hur⟩ := ho.readsC
                have wc := words4_any hur hd (by omega)
                rw [hV, hkz] at wc
                have hul : us.length ≤ 300000 := by omega
                clear hV hkz ho hl
                go_wp2_with fail
                refine wc.mono ?_
                rintro e w5 ⟨oa, ol, oc, rfl, hr5, hb5⟩
                have hB5 := hnx.trans (hb5.mono hsz)
                have hol := hr5.1.1
                clear wc hur
                by_cases hlong : 4096 < ol
                · have HP : PCode s b 21 0 := Or.inr (Or.inr (Or.inr (Or.inl ⟨⟨hb, hb9⟩, HG.out, by omega, rfl, rfl⟩)))
                  clear hol hr5
                  go_wp2
                  go_ret3
                  exact ⟨none, 0, 0, 21, 0, rfl, ⟨HP, by unfold pList; rw [if_neg (by omega)]; exact hnil _⟩, hB5⟩
                · have HP : PCode s b 0 (-1) := Or.inr (Or.inr (Or.inr (Or.inr ⟨⟨hb, hb9⟩, HG.out, by omega, rfl, rfl⟩)))
                  have HR : Hid (RowC w5 oa ol oc (pList (numB s b s.size) 0)) := by
                    show RowC _ _ _ _ _
                    unfold pList
                    rw [if_pos rfl]
                    exact hr5
                  clear hol hr5
                  go_wp2
                  go_ret3
                  exact ⟨oa, ol, oc, 0, -1, rfl, ⟨HP, HR.out⟩, hB5⟩
set_option maxRecDepth 100000 in
theorem refParse_any (s : ByteArray) (b : Int) (hs : s.size ≤ 10000000) (w : World) :
    Calls Tryz.prog 5 #[.string s, .int .i64 b] w fun e w' => ∃ (va : Option Addr) (l c : Nat) (code p : Int), e = .returned (.tuple #[.slice va l c, .int .i64 code, .int .i64 p]) ∧ (PCode s b code p ∧ RowC w' va l c (pList (numB s b s.size) code)) ∧ Below w.heap.size w w' := by
  have hnil : ∀ w', RowC w' none 0 0 [] := fun w' => ⟨⟨rfl, Or.inl rfl⟩, Nat.le_refl _, Nat.zero_le _⟩
  by_cases hb : 2 ≤ b ∧ b ≤ 36
  · by_cases hp : 0 < s.size
    · exact refParseB_any s b hs hb.1 hb.2 hp w
    · have hz : s.size = 0 := by omega
      have HP : PCode s b 41 0 := Or.inr (Or.inl ⟨hb, hz, rfl, rfl⟩)
      have hb1 := hb.1
      have hb2 := hb.2
      clear hb hp
      go_enter Tryz.func5, Tryz.ntmps5
      go_wp2
      go_ret3
      exact ⟨none, 0, 0, 41, 0, rfl, ⟨HP, by unfold pList; rw [if_neg (by omega)]; exact hnil _⟩, Below.refl _ _⟩
  · have HP : PCode s b 40 0 := Or.inl ⟨hb, rfl, rfl⟩
    by_cases h2 : b < 2
    · go_enter Tryz.func5, Tryz.ntmps5
      go_wp2
      go_ret3
      exact ⟨none, 0, 0, 40, 0, rfl, ⟨HP, by unfold pList; rw [if_neg (by omega)]; exact hnil _⟩, Below.refl _ _⟩
    · have h3 : 36 < b := by omega
      go_enter Tryz.func5, Tryz.ntmps5
      go_wp2
      go_ret3
      exact ⟨none, 0, 0, 40, 0, rfl, ⟨HP, by unfold pList; rw [if_neg (by omega)]; exact hnil _⟩, Below.refl _ _⟩
end Go.Proofs.YtfnpigkiookejaaGreatDoor

import Derived.Test.YtbbmoaipilmmdaaGreatDoorBaseE
import Derived.Test.YtbbmoaipilmmdaaGreatDoorBaseZ
/- radix.Parse in every case, with the error's place and number. -/
namespace Go.Proofs.YtbbmoaipilmmdaaGreatDoor
open Go.ChangeShapes Go.WideShapes Go.ChangeAt Go.RowKit
open Na Ar
set_option linter.unusedVariables false
namespace Na
/-- the error's number and its place -/
def PCode (s : ByteArray) (b code p : Int) : Prop :=
  (¬ (2 ≤ b ∧ b ≤ 36) ∧ code = 40 ∧ p = 0) ∨
  ((2 ≤ b ∧ b ≤ 36) ∧ s.size = 0 ∧ code = 41 ∧ p = 0) ∨
  ((2 ≤ b ∧ b ≤ 36) ∧ ∃ i : Nat, i < s.size ∧ b ≤ dgt s i ∧ (∀ j, j < i → dgt s j < b) ∧ code = 41 ∧ p = i) ∨
  ((2 ≤ b ∧ b ≤ 36) ∧ (0 < s.size ∧ ∀ i, i < s.size → dgt s i < b) ∧ 4096 < (words (numB s b s.size)).length ∧ code = 21 ∧ p = 0) ∨
  ((2 ≤ b ∧ b ≤ 36) ∧ (0 < s.size ∧ ∀ i, i < s.size → dgt s i < b) ∧ (words (numB s b s.size)).length ≤ 4096 ∧ code = 0 ∧ p = -1)
theorem pcode_uniq {s : ByteArray} {b c p c' p' : Int} (h : PCode s b c p) (h' : PCode s b c' p') : c = c' ∧ p = p' := by
  rcases h with ⟨a1, a2, a3⟩ | ⟨a1, a0, a2, a3⟩ | ⟨a1, i, i1, i2, i3, a2, a3⟩ | ⟨a1, a0, al, a2, a3⟩ | ⟨a1, a0, al, a2, a3⟩ <;> rcases h' with ⟨b1, b2, b3⟩ | ⟨b1, b0, b2, b3⟩ | ⟨b1, j, j1, j2, j3, b2, b3⟩ | ⟨b1, b0, bl, b2, b3⟩ | ⟨b1, b0, bl, b2, b3⟩
  · omega
  · exact absurd b1 a1
  · exact absurd b1 a1
  · exact absurd b1 a1
  · exact absurd b1 a1
  · exact absurd a1 b1
  · omega
  · omega
  · omega
  · omega
  · exact absurd a1 b1
  · omega
  · have e : i = j := by
      rcases Nat.lt_trichotomy i j with q | q | q
      · have := j3 i q; omega
      · exact q
      · have := i3 j q; omega
    subst e
    omega
  · have := b0.2 i i1; omega
  · have := b0.2 i i1; omega
  · exact absurd a1 b1
  · omega
  · have := a0.2 j j1; omega
  · omega
  · omega
  · exact absurd a1 b1
  · omega
  · have := a0.2 j j1; omega
  · omega
  · omega
end Na
/-- what radix.Parse answers -/
def ParseRes (w : World) (T code p : Int) (e : Ending) (w' : World) : Prop :=
  ((code = 0 ∧ ∃ v, e = .returned (.tuple #[v, .nilIface]) ∧ Own .u64 w' w.heap.size 22 v (words T)) ∨
   (code ≠ 0 ∧ ∃ g, e = .returned (.tuple #[.slice none 0 0, .iface 122 (.pointer (some ⟨g, 0, none⟩))]) ∧ FaultAt w' g p code)) ∧ Below w.heap.size w w'
set_option maxHeartbeats 3200000 in
set_option maxRecDepth 100000 in
theorem parseG_any (s : ByteArray) (b : Int) (hb : 2 ≤ b) (hb9 : b ≤ 36) (hs : s.size ≤ 10000000) (h0 : 0 < s.size) (hd : ∀ i, i < s.size → dgt s i < b) (w : World) :
    Calls Tryz.prog 15 #[.string s, .int .i64 b] w fun e w' => ∃ code p, PCode s b code p ∧ ParseRes w (numB s b s.size) code p e w' := by
  have hk : knownB b = true := by unfold knownB; simp; omega
  have kc := known_any b w
  rw [hk] at kc
  have wc := wrong_any s b hb hb9 (by unfold maxLen; omega) w
  have HG : Hid (0 < s.size ∧ ∀ i, i < s.size → dgt s i < b) := ⟨h0, hd⟩
  go_enter Tryz.func15, Tryz.ntmps15
  go_wp2_with fail
  refine kc.mono ?_
  rintro e w' ⟨rfl, rfl⟩
  go_wp2_with fail
  refine wc.mono ?_
  rintro e w1 ⟨at', ok, rfl, hwr, hb1⟩
  have hok : ok = false := by
    rcases hwr with ⟨_, q1, q2, _⟩ | ⟨_, q1, _⟩ | ⟨q, _⟩
    · have := hd at' q1; omega
    · omega
    · exact q
  subst hok
  clear kc wc hk hwr
  go_wp2_with fail
  refine (trimLeft_any s w1).mono ?_
  rintro e w' ⟨t, rfl, ⟨k, hF, hz, hnz⟩, rfl⟩
  have hts := hF.size
  have hkk := hF.2
  have hT : Hid (numB t b t.size = numB s b s.size) := by
    show _ = _
    rw [numB_from hF hz, hts]
    congr 1; omega
  have htd : ∀ i, i < t.size → dgt t i < b := fun i hi => by rw [from_dgt hF]; exact hd _ (by omega)
  have htp : Hid (1 ≤ t.size → b ^ (t.size - 1) ≤ numB t b t.size) := fun q => by
    have p0 : 1 ≤ dgt t 0 := by
      rw [from_dgt hF, Nat.add_zero]
      exact dgt_pos (hnz (by omega))
    have := numB_ge hb p0 (t.size - 1)
    rw [show t.size - 1 + 1 = t.size by omega] at this
    exact this
  have hsz : t.size ≤ 10000000 := by omega
  clear hF hz hnz hts hkk hd
  have hsh := surelyHuge_any t.size b hb hb9 (by omega) w1
  go_wp2_with fail
  refine hsh.mono ?_
  rintro e w2 ⟨H, rfl, hH, hb2⟩
  have hB2 := hb1.trans (hb2.mono hb1.size)
  clear hsh
  cases H with
  | true =>
    obtain ⟨q1, q2⟩ := hH rfl
    have hbig := q2 _ (htp.out q1)
    rw [hT.out] at hbig
    have HP : PCode s b 21 0 := Or.inr (Or.inr (Or.inr (Or.inl ⟨⟨hb, hb9⟩, HG.out, hbig, rfl, rfl⟩)))
    clear q2 htp hT hH hbig
    go_wp2_with fail
    refine (wrapF_any 0 21 w2).mono ?_
    rintro e w3 ⟨g, rfl, hf, hb3⟩
    have hB3 := hB2.trans (hb3.mono hB2.size)
    go_wp2
    go_ret2
    exact ⟨21, 0, HP, Or.inr ⟨by omega, g, rfl, hf⟩, hB3⟩
  | false =>
    clear hH htp
    have hnm := number_any t b hb hb9 (by omega) htd w2
    rw [hT.out] at hnm
    go_wp2_with fail
    refine hnm.mono ?_
    rintro e w3 ⟨v, rfl, hv, hb3⟩
    have hB3 := hB2.trans (hb3.mono hB2.size)
    have hv3 := hv.wider hB2.size
    obtain ⟨va, vc, rfl, hvr⟩ := hv.readsC
    clear hnm hvr hv
    by_cases hbig : 4096 < (words (numB s b s.size)).length
    · have HP : PCode s b 21 0 := Or.inr (Or.inr (Or.inr (Or.inl ⟨⟨hb, hb9⟩, HG.out, hbig, rfl, rfl⟩)))
      clear hv3
      generalize (words (numB s b s.size)).length = l at *
      go_wp2_with fail
      refine (wrapF_any 0 21 w3).mono ?_
      rintro e w4 ⟨g, rfl, hf, hb4⟩
      have hB4 := hB3.trans (hb4.mono hB3.size)
      go_wp2
      go_ret2
      exact ⟨21, 0, HP, Or.inr ⟨by omega, g, rfl, hf⟩, hB4⟩
    · have HP : PCode s b 0 (-1) := Or.inr (Or.inr (Or.inr (Or.inr ⟨⟨hb, hb9⟩, HG.out, by omega, rfl, rfl⟩)))
      have HV : Hid (Own .u64 w3 w.heap.size 22 (.slice va (words (numB s b s.size)).length vc) (words (numB s b s.size))) := hv3
      clear hv3
      generalize hl : (words (numB s b s.size)).length = l at *
      clear hl
      go_wp2
      go_ret2
      exact ⟨0, -1, HP, Or.inl ⟨rfl, _, rfl, HV.out⟩, hB3⟩
set_option maxHeartbeats 1600000 in
set_option maxRecDepth 100000 in
theorem parseF_any (s : ByteArray) (b : Int) (hs : s.size ≤ 10000000) (w : World) :
    Calls Tryz.prog 15 #[.string s, .int .i64 b] w fun e w' => ∃ code p, PCode s b code p ∧ ParseRes w (numB s b s.size) code p e w' := by
  by_cases hb : 2 ≤ b ∧ b ≤ 36
  · by_cases hg : 0 < s.size ∧ ∀ i, i < s.size → dgt s i < b
    · exact parseG_any s b hb.1 hb.2 hs hg.1 hg.2 w
    · have hk : knownB b = true := by unfold knownB; simp; omega
      have kc := known_any b w
      rw [hk] at kc
      have wc := wrong_any s b hb.1 hb.2 (by unfold maxLen; omega) w
      go_enter Tryz.func15, Tryz.ntmps15
      go_wp2_with fail
      refine kc.mono ?_
      rintro e w' ⟨rfl, rfl⟩
      go_wp2_with fail
      refine wc.mono ?_
      rintro e w1 ⟨at', ok, rfl, hwr, hb1⟩
      have hok : ok = true ∧ PCode s b 41 at' := by
        rcases hwr with ⟨q, q1, q2, q3⟩ | ⟨q, q1, q2⟩ | ⟨_, q1, _, q2⟩
        · exact ⟨q, Or.inr (Or.inr (Or.inl ⟨hb, at', q1, q2, q3, rfl, rfl⟩))⟩
        · exact ⟨q, Or.inr (Or.inl ⟨hb, q1, rfl, by omega⟩)⟩
        · exact absurd ⟨q1, q2⟩ hg
      obtain ⟨rfl, HP⟩ := hok
      clear kc wc hk hwr hg
      go_wp2_with fail
      refine (wrapF_any (at' : Int) 41 w1).mono ?_
      rintro e w2 ⟨g, rfl, hf, hb2⟩
      have hB2 := hb1.trans (hb2.mono hb1.size)
      go_wp2
      go_ret2
      exact ⟨41, at', HP, Or.inr ⟨by omega, g, rfl, hf⟩, hB2⟩
  · have hk : knownB b = false := by unfold knownB; simp; omega
    have kc := known_any b w
    rw [hk] at kc
    have HP : PCode s b 40 0 := Or.inl ⟨hb, rfl, rfl⟩
    go_enter Tryz.func15, Tryz.ntmps15
    go_wp2_with fail
    refine kc.mono ?_
    rintro e w' ⟨rfl, rfl⟩
    clear kc hk
    go_wp2_with fail
    refine (wrapF_any 0 40 w).mono ?_
    rintro e w2 ⟨g, rfl, hf, hb2⟩
    go_wp2
    go_ret2
    exact ⟨40, 0, HP, Or.inr ⟨by omega, g, rfl, hf⟩, hb2⟩
end Go.Proofs.YtbbmoaipilmmdaaGreatDoor

/- plumbref04.Parse. -/
namespace Go.Proofs.YtbbmoaipilmmdaaGreatDoor
open Go.ChangeShapes Go.WideShapes Go.ChangeAt Go.RowKit
open Na Ar
set_option linter.unusedVariables false
namespace Na
/-- the document's value of a byte -/
def refV (r : Int) : Int := if valN r = 36 then 99 else valN r
theorem refV_lt {r b : Int} (hb : b ≤ 36) : refV r < b ↔ valN r < b := by
  have := valN_bd r
  unfold refV
  split <;> omega
theorem refV_eq {r b : Int} (hb : b ≤ 36) (h : valN r < b) : refV r = valN r := by
  unfold refV; rw [if_neg (by omega)]
theorem refV_of {r x : Int} (h : valN r = x) (hx : x ≠ 36) : refV r = x := by unfold refV; rw [h, if_neg hx]
theorem refV_none {r : Int} (h : valN r = 36) : refV r = 99 := by unfold refV; rw [if_pos h]
theorem numB_lead {s : ByteArray} {b : Int} {f : Nat} (hb : 2 ≤ b) (hz : ∀ j, j < f → s.get! j = 48) (h1 : 1 ≤ dgt s f) (n : Nat) : b ^ n ≤ numB s b (f + n + 1) := by
  induction n with
  | zero =>
    show b ^ 0 ≤ numB s b (f + 0) * b + dgt s (f + 0)
    rw [Nat.add_zero, numB_zeros hz, Int.pow_zero, Int.zero_mul]; omega
  | succ n ih =>
    show b ^ (n + 1) ≤ numB s b (f + (n + 1)) * b + dgt s (f + (n + 1))
    have d := (valN_bd ((s.get! (f + (n + 1))).toNat : Int)).1
    have e : dgt s (f + (n + 1)) = valN ((s.get! (f + (n + 1))).toNat : Int) := rfl
    rw [Int.pow_succ]
    have m := Int.mul_le_mul_of_nonneg_right ih (show 0 ≤ b by omega)
    have e2 : f + (n + 1) = f + n + 1 := by omega
    rw [e2] at d e ⊢
    omega
/-- zeros ahead up to f, within the first i -/
def Lead (s : ByteArray) (f i : Nat) : Prop := f ≤ i ∧ (∀ j, j < f → s.get! j = 48) ∧ (f < i → s.get! f ≠ 48)
theorem lead_skip {s : ByteArray} {f i : Nat} (h : Lead s f i) (hs : ¬ (s.get! i = 48 ∧ i = f)) : Lead s f (i + 1) := by
  obtain ⟨h1, h2, h3⟩ := h
  refine ⟨by omega, h2, fun q => ?_⟩
  by_cases g : f < i
  · exact h3 g
  · have e : i = f := by omega
    intro z
    exact hs ⟨by rw [e]; exact z, e⟩
theorem lead_step {s : ByteArray} {f i : Nat} (h : Lead s f i) (hz : s.get! i = 48) (e : i = f) : Lead s (f + 1) (i + 1) := by
  obtain ⟨h1, h2, h3⟩ := h
  refine ⟨by omega, fun j hj => ?_, fun q => by omega⟩
  by_cases g : j < f
  · exact h2 j g
  · have : j = i := by omega
    rw [this]; exact hz
end Na
end Go.Proofs.YtbbmoaipilmmdaaGreatDoor

/- plumbref04.Parse's walk. -/
namespace Go.Proofs.YtbbmoaipilmmdaaGreatDoor
open Go.ChangeShapes Go.WideShapes Go.ChangeAt Go.RowKit
open Na Ar
set_option linter.unusedVariables false
/-- the list that the document's Parse answers -/
def pList (T code : Int) : List Int := if code = 0 then words T else []
end Go.Proofs.YtbbmoaipilmmdaaGreatDoor

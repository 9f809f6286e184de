/- Layer 18: texts laid one behind the other, by numbers alone. -/
import Derived.Test.YtfgpjplfplbcdaaGreatDoorTkFact
namespace Go.Proofs.YtfgpjplfplbcdaaGreatDoor
set_option linter.unusedVariables false
set_option linter.unusedSimpArgs false
open Lx
namespace Tk
theorem tk_more {t : UInt8 → Bool} {c : UInt8} (hc : t c = false) (b : B) : ∀ a : B, (a ++ c :: b).takeWhile t = a.takeWhile t ∧ (a ++ c :: b).dropWhile t = a.dropWhile t ++ c :: b
  | [] => by simp [List.takeWhile_cons, List.dropWhile_cons, hc]
  | x :: a => by
    obtain ⟨h1, h2⟩ := tk_more hc b a
    cases hx : t x
    · simp [List.takeWhile_cons, List.dropWhile_cons, hx]
    · simp [List.takeWhile_cons, List.dropWhile_cons, hx, h1, h2]
section
variable {c : UInt8} (hc : isSp c = true) (b : B)
include hc
theorem sp_D : isD c = false := by
  rcases sp_cases hc with rfl | rfl | rfl | rfl | rfl | rfl | rfl <;> rfl
theorem sp_H : isH c = false := by
  rcases sp_cases hc with rfl | rfl | rfl | rfl | rfl | rfl | rfl <;> rfl
theorem sp_lt : isLt c = false := by
  rcases sp_cases hc with rfl | rfl | rfl | rfl | rfl | rfl | rfl <;> rfl
theorem fst_more (cs : B) (hcs : cs.all (fun x => !isSp x) = true) (a : B) : fst cs (a ++ c :: b) = fst cs a := by
  cases a with
  | nil =>
    show cs.contains c = false
    cases h : cs.contains c with
    | false => rfl
    | true =>
      have := List.all_eq_true.mp hcs c (by simpa using h)
      rw [hc] at this; cases this
  | cons x a => rfl
omit hc in
theorem tail_more {cs a : B} (h : fst cs a = true) : (a ++ c :: b).tail = a.tail ++ c :: b := by
  obtain ⟨x, r, rfl, _⟩ := fst_true h
  rfl
theorem tkD_more (a : B) : tkD (a ++ c :: b) = tkD a := (tk_more (sp_D hc) b a).1
theorem dkD_more (a : B) : dkD (a ++ c :: b) = dkD a ++ c :: b := (tk_more (sp_D hc) b a).2
theorem tkH_more (a : B) : tkH (a ++ c :: b) = tkH a := (tk_more (sp_H hc) b a).1
theorem dkH_more (a : B) : dkH (a ++ c :: b) = dkH a ++ c :: b := (tk_more (sp_H hc) b a).2
theorem expo_more (a : B) : expoL (a ++ c :: b) = expoL a := by
  unfold expoL
  rw [fst_more hc b [43, 45] rfl]
  split
  · rename_i h
    rw [tail_more b h, tkD_more hc]
    obtain ⟨x, r, rfl, _⟩ := fst_true h
    rfl
  · exact tkD_more hc b a
theorem finE_more (rd wh : Pc) (k : Nat) (a : B) : finE rd wh k (a ++ c :: b) = finE rd wh k a := by
  unfold finE
  rw [expo_more hc]
theorem finSlash_more (rd wh : Pc) (k : Nat) (a : B) : finSlash rd wh k (a ++ c :: b) = finSlash rd wh k a := by
  unfold finSlash
  rw [tkD_more hc]
theorem finPoint_more (rd wh : Pc) (k : Nat) (a : B) : finPoint rd wh k (a ++ c :: b) = finPoint rd wh k a := by
  unfold finPoint
  simp only
  rw [tkD_more hc, dkD_more hc, fst_more hc b [101, 69] rfl]
  split
  · rfl
  · split
    · rename_i h
      rw [tail_more b h, finE_more hc]
    · rfl
theorem finHexPoint_more (rd wh : Pc) (k : Nat) (a : B) : finHexPoint rd wh k (a ++ c :: b) = finHexPoint rd wh k a := by
  unfold finHexPoint
  simp only
  rw [tkH_more hc, dkH_more hc, fst_more hc b [112, 80] rfl]
  split
  · rename_i h
    rw [Bool.and_eq_true] at h
    rw [tail_more b h.2, finE_more hc]
  · rfl
theorem finX_more (rd wh : Pc) (k : Nat) (a : B) : finX rd wh k (a ++ c :: b) = finX rd wh k a := by
  unfold finX
  simp only
  rw [tkH_more hc, dkH_more hc, fst_more hc b [112, 80] rfl, fst_more hc b [46] rfl]
  split
  · rename_i h
    rw [tail_more b h, finHexPoint_more hc]
  · split
    · rename_i h
      rw [Bool.and_eq_true] at h
      rw [tail_more b h.2, finE_more hc]
    · rfl
theorem finDigits_more (rd wh : Pc) (k : Nat) (a : B) : finDigits rd wh k (a ++ c :: b) = finDigits rd wh k a := by
  unfold finDigits
  rw [fst_more hc b [46] rfl, fst_more hc b [101, 69] rfl, fst_more hc b [47] rfl, fst_more hc b [120, 88] rfl]
  split
  · rename_i h
    rw [tail_more b h, finPoint_more hc]
  · split
    · rename_i h
      rw [tail_more b h, finE_more hc]
    · split
      · rename_i h
        rw [tail_more b h, finSlash_more hc]
      · split
        · rename_i h
          rw [Bool.and_eq_true] at h
          rw [tail_more b h.2, finX_more hc]
        · rfl
theorem finSign_more (rd wh : Pc) (k : Nat) (a : B) : finSign rd wh k (a ++ c :: b) = finSign rd wh k a := by
  unfold finSign
  simp only
  rw [tkD_more hc, dkD_more hc, fst_more hc b [46] rfl]
  split
  · rw [finDigits_more hc]
  · split
    · rename_i h
      rw [tail_more b h, finPoint_more hc]
    · rfl
theorem longest_more (a : B) : longestL (a ++ c :: b) = longestL a := by
  unfold longestL finStart
  rw [fst_more hc b [45] rfl, fst_more hc b [43] rfl]
  split
  · rename_i h
    rw [tail_more b h, finSign_more hc]
  · split
    · rename_i h
      rw [tail_more b h, finSign_more hc]
    · rw [finSign_more hc]
theorem longest_cut (n : Nat) (a : B) : longestL ((a ++ c :: b).take n) = longestL (a.take n) := by
  by_cases h : n ≤ a.length
  · rw [List.take_append_of_le_length h]
  · obtain ⟨m, rfl⟩ : ∃ m, n = a.length + (m + 1) := ⟨n - a.length - 1, by omega⟩
    rw [List.take_append, List.take_of_length_le (by omega : a.length ≤ a.length + (m + 1)), show a.length + (m + 1) - a.length = m + 1 from by omega, List.take_succ_cons]
    exact longest_more hc _ a
theorem shut_more (a : B) : shutB (a ++ c :: b) = shutB a := by
  cases a with
  | nil => exact hc
  | cons x a => rfl
theorem shutC_more {a : B} {t : Ct} (h : t.to ≤ a.length) : shutC (a ++ c :: b) t = shutC a t := by
  unfold shutC
  rw [List.drop_append_of_le_length h, shut_more hc]
theorem tokB_more (x : UInt8) (q : B) : tokB x (q ++ c :: b) = tokB x q := by
  unfold tokB
  have e : ∀ p : UInt8 → Bool, p c = false → (x :: (q ++ c :: b)).takeWhile p = (x :: q).takeWhile p := fun p hp => (tk_more hp b (x :: q)).1
  split
  · rw [e _ (sp_lt hc)]
    have hl := dk_len isLt (x :: q)
    exact shutC_more hc b (a := x :: q) (by show ((x :: q).takeWhile isLt).length ≤ _; omega)
  · split
    · rfl
    · split
      · rfl
      · split
        · rfl
        · have e2 : longestL ((x :: (q ++ c :: b)).take 65536) = longestL ((x :: q).take 65536) := longest_cut hc b 65536 (x :: q)
          rw [e2]
          simp only
          split
          · rfl
          · have h2 := longest_le ((x :: q).take 65536)
            have h3 : ((x :: q).take 65536).length ≤ (x :: q).length := by rw [List.length_take]; omega
            exact shutC_more hc b (a := x :: q) (by show (longestL ((x :: q).take 65536)).stop ≤ _; omega)
end
theorem dropW_more {t : UInt8 → Bool} (a x : B) {y : UInt8} {q : B} (h : a.dropWhile t = y :: q) : (a ++ x).dropWhile t = y :: (q ++ x) ∧ (a ++ x).takeWhile t = a.takeWhile t := by
  induction a with
  | nil => simp at h
  | cons b a ih =>
    cases hb : t b
    · rw [List.dropWhile_cons, hb] at h
      simp at h
      obtain ⟨rfl, rfl⟩ := h
      simp [List.dropWhile_cons, List.takeWhile_cons, hb]
    · rw [List.dropWhile_cons, hb] at h
      simp at h
      obtain ⟨h1, h2⟩ := ih h
      simp [List.dropWhile_cons, List.takeWhile_cons, hb, h1, h2]
theorem cutR_nonil {r : B} (h : (cutR r).kind ≠ 0) : ∃ y q, r.dropWhile isBl = y :: q ∧ cutR r = (tokB y q).move (r.takeWhile isBl).length := by
  unfold cutR at *
  split at h
  · exact absurd rfl h
  · rename_i y q he
    exact ⟨y, q, he, rfl⟩
/-- more behind a separator changes no token that is there -/
theorem cut_more {c : UInt8} (hc : isSp c = true) (b : B) {r : B} (h : (cutR r).kind ≠ 0) : cutR (r ++ c :: b) = cutR r := by
  obtain ⟨y, q, h1, h2⟩ := cutR_nonil h
  obtain ⟨h3, h4⟩ := dropW_more r (c :: b) h1
  rw [h2]
  unfold cutR
  rw [h3]
  simp only
  rw [tokB_more hc b y q, h4]
/-- blanks ahead -/
theorem cut_bl {a : B} (ha : a.all isBl = true) (r : B) : cutR (a ++ r) = (cutR r).move a.length := by
  have h1 : (a ++ r).dropWhile isBl = r.dropWhile isBl ∧ (a ++ r).takeWhile isBl = a ++ r.takeWhile isBl := by
    induction a with
    | nil => exact ⟨rfl, rfl⟩
    | cons x a ih =>
      rw [List.all_cons, Bool.and_eq_true] at ha
      obtain ⟨i1, i2⟩ := ih ha.2
      rw [List.cons_append, List.dropWhile_cons, List.takeWhile_cons, ha.1]
      exact ⟨by rw [if_pos rfl, i1], by rw [if_pos rfl, i2]; rfl⟩
  unfold cutR
  rw [h1.1]
  split
  · unfold Ct.move
    simp [List.length_append]
  · unfold Ct.move
    simp only [h1.2, List.length_append, Nat.add_assoc]
theorem cut_nil_all {r : B} (h : (cutR r).kind = 0) : r.all isBl = true := by
  unfold cutR at h
  split at h
  · rename_i he
    have := tk_dk isBl r
    rw [he, List.append_nil] at this
    rw [← this]
    exact all_tk isBl r
  · rename_i y q he
    exact absurd h (tokB_f y q).2
theorem cons_ne {r : B} {k : Int} (h : (cutR r).kind = k) (hk : k ≠ 0) : (cutR r).kind ≠ 0 := by rw [h]; exact hk
theorem move_kind (n : Nat) (c : Ct) : (c.move n).kind = c.kind := rfl
theorem Toks.bl {a : B} (ha : a.all isBl = true) {k : Nat} {r : B} {l : List Ct} {e : Option Nat} (h : Toks (k + a.length) r l e) : Toks k (a ++ r) l e := by
  have hc := cut_bl ha r
  cases h with
  | nil h => exact .nil (by rw [hc]; exact h)
  | bad h =>
    have : k + a.length + (cutR r).fr = k + (cutR (a ++ r)).fr := by rw [hc]; show _ = k + (a.length + _); omega
    rw [this]
    exact .bad (by rw [hc]; exact h)
  | cons h h2 =>
    have e1 : (cutR r).move (k + a.length) = (cutR (a ++ r)).move k := by
      rw [hc]; unfold Ct.move; simp only [Nat.add_assoc]
    rw [e1]
    refine .cons (by rw [hc]; exact h) ?_
    have e2 : (cutR (a ++ r)).to = a.length + (cutR r).to := by rw [hc]; rfl
    rw [e2, List.drop_append, List.drop_eq_nil_of_le (by omega), List.nil_append, show a.length + (cutR r).to - a.length = (cutR r).to from by omega, ← Nat.add_assoc]
    exact h2
/-- tokens moved -/
theorem Toks.shift {k : Nat} {r : B} {l : List Ct} {e : Option Nat} (h : Toks k r l e) (n : Nat) : Toks (n + k) r (l.map (Ct.move n)) (e.map (n + ·)) := by
  induction h with
  | nil h => exact .nil h
  | @bad k r h =>
    show Toks _ _ [] (some (n + (k + (cutR r).fr)))
    rw [← Nat.add_assoc]
    exact .bad h
  | @cons k r l e h _ ih =>
    rw [List.map_cons]
    have e1 : ((cutR r).move k).move n = (cutR r).move (n + k) := by unfold Ct.move; simp only [Nat.add_assoc]
    rw [e1]
    refine .cons h ?_
    rw [Nat.add_assoc]
    exact ih
/-- an error stays where it is -/
theorem Toks.wrong {c : UInt8} (hc : isSp c = true) (b : B) {k : Nat} {r : B} {l : List Ct} {e : Option Nat} (h : Toks k r l e) : ∀ p, e = some p → Toks k (r ++ c :: b) l e := by
  induction h with
  | nil h => intro p he; cases he
  | @bad k r h =>
    intro p _
    have e1 := cut_more hc b (cons_ne h (by decide))
    have : k + (cutR r).fr = k + (cutR (r ++ c :: b)).fr := by rw [e1]
    rw [this]
    exact .bad (by rw [e1]; exact h)
  | @cons k r l e h h2 ih =>
    intro p he
    have e1 := cut_more hc b (r := r) (by omega)
    have : (cutR r).move k = (cutR (r ++ c :: b)).move k := by rw [e1]
    rw [this]
    refine .cons (by rw [e1]; exact h) ?_
    rw [e1, List.drop_append_of_le_length (cut_f r).to]
    exact ih p he
/-- the tokens of a separator -/
def sepT (c : UInt8) (n : Nat) : List Ct := if isBl c then [] else [⟨kd c - 1, n, n + 1, [], nmZ0⟩]
theorem sep_tok {c : UInt8} (hc : isSp c = true) (hb : isBl c = false) (q : B) : tokB c q = ⟨kd c - 1, 0, 1, [], nmZ0⟩ ∧ 0 < kd c - 1 := by
  rcases sp_cases hc with rfl | rfl | rfl | rfl | rfl | rfl | rfl
  · cases hb
  · cases hb
  · cases hb
  · cases hb
  · exact ⟨rfl, by decide⟩
  · exact ⟨rfl, by decide⟩
  · exact ⟨rfl, by decide⟩
/-- two texts with a separator between -/
theorem Toks.join {c : UInt8} (hc : isSp c = true) {t : B} {l2 : List Ct} {e2 : Option Nat} {k : Nat} {r : B} {l : List Ct} {e : Option Nat} (h : Toks k r l e) : e = none → Toks (k + r.length + 1) t l2 e2 → Toks k (r ++ c :: t) (l ++ (sepT c (k + r.length) ++ l2)) e2 := by
  induction h with
  | @nil k r h =>
    intro _ h2
    rw [List.nil_append]
    have hall := cut_nil_all h
    unfold sepT
    cases hb : isBl c
    · obtain ⟨e1, e3⟩ := sep_tok hc hb t
      have hcut : cutR (c :: t) = ⟨kd c - 1, 0, 1, [], nmZ0⟩ := by
        unfold cutR
        rw [List.dropWhile_cons, hb]
        simp only [Bool.false_eq_true, if_false]
        rw [e1, List.takeWhile_cons, hb]
        rfl
      refine Toks.bl hall ?_
      show Toks (k + r.length) (c :: t) (⟨kd c - 1, k + r.length, k + r.length + 1, [], nmZ0⟩ :: l2) e2
      have e4 : (⟨kd c - 1, k + r.length, k + r.length + 1, [], nmZ0⟩ : Ct) = (cutR (c :: t)).move (k + r.length) := by rw [hcut]; rfl
      rw [e4]
      refine .cons (by rw [hcut]; exact e3) ?_
      rw [hcut]
      exact h2
    · show Toks k (r ++ c :: t) l2 e2
      have : r ++ c :: t = (r ++ [c]) ++ t := by simp
      rw [this]
      refine Toks.bl (by rw [List.all_append, hall]; simp [hb]) ?_
      rw [List.length_append]
      exact h2
  | bad h => intro he; cases he
  | @cons k r l e h h1 ih =>
    intro he h2
    have e1 := cut_more hc t (r := r) (by omega)
    have hle := (cut_f r).to
    rw [List.cons_append]
    have : (cutR r).move k = (cutR (r ++ c :: t)).move k := by rw [e1]
    rw [this]
    refine .cons (by rw [e1]; exact h) ?_
    have hl : k + (cutR r).to + (r.drop (cutR r).to).length = k + r.length := by rw [List.length_drop]; omega
    have := ih he (by rw [hl]; exact h2)
    rw [hl] at this
    rw [e1, List.drop_append_of_le_length hle]
    exact this
end Tk
end Go.Proofs.YtfgpjplfplbcdaaGreatDoor

/- The longest numeral of a text that is written by its parts. -/
import Derived.Test.YtbbmoaipilmmdaaGreatDoorLexNum
namespace Go.Proofs.YtbbmoaipilmmdaaGreatDoor
set_option linter.unusedVariables false
namespace Lx
/-- what can't go on a numeral -/
def Stops (l : B) : Prop := ∀ c r, l = c :: r → isH c = false ∧ ([46, 47, 120, 88] : B).contains c = false
theorem Stops.nil : Stops [] := fun c r h => by cases h
theorem Stops.cons {c : UInt8} {r : B} (h : (isH c || ([46, 47, 120, 88] : B).contains c) = false) : Stops (c :: r) := by
  intro d q e
  cases e
  rw [Bool.or_eq_false_iff] at h
  exact h
theorem Stops.fst {l : B} (h : Stops l) {cs : B} (hc : cs.all (fun c => isH c || ([46, 47, 120, 88] : B).contains c) = true) : fst cs l = false := by
  cases l with
  | nil => rfl
  | cons c r =>
    rw [fst_cons]
    cases hh : cs.contains c with
    | false => rfl
    | true =>
      have := List.all_eq_true.mp hc c (by simpa using hh)
      obtain ⟨h1, h2⟩ := h c r rfl
      rw [h1, h2] at this; cases this
theorem tk_app {t : UInt8 → Bool} {h r : B} (hh : h.all t = true) (hr : ∀ c q, r = c :: q → t c = false) : (h ++ r).takeWhile t = h ∧ (h ++ r).dropWhile t = r := by
  induction h with
  | nil =>
    rw [List.nil_append]
    cases r with
    | nil => exact ⟨rfl, rfl⟩
    | cons c q =>
      have := hr c q rfl
      exact ⟨by rw [List.takeWhile_cons, this]; rfl, by rw [List.dropWhile_cons, this]; rfl⟩
  | cons b q ih =>
    rw [List.all_cons, Bool.and_eq_true] at hh
    obtain ⟨i1, i2⟩ := ih hh.2
    rw [List.cons_append, List.takeWhile_cons, List.dropWhile_cons, hh.1]
    exact ⟨by rw [if_pos rfl, i1], by rw [if_pos rfl, i2]⟩
theorem Stops.notD {l : B} (h : Stops l) : ∀ c q, l = c :: q → isD c = false := by
  intro c q e
  have := (h c q e).1
  unfold isH at this
  rw [Bool.or_eq_false_iff, Bool.or_eq_false_iff] at this
  exact this.1.1
theorem Stops.notH {l : B} (h : Stops l) : ∀ c q, l = c :: q → isH c = false := fun c q e => (h c q e).1
theorem expoL_app {e r : B} (he : ExpoOk e) (hn : e ≠ []) (hr : ∀ c q, r = c :: q → isD c = false) : expoL (e ++ r) = e := by
  rcases he with rfl | ⟨sg, ds, rfl, hs, hd, ha⟩
  · exact absurd rfl hn
  · have k := (tk_app ha hr).1
    rcases hs with rfl | rfl | rfl
    · rw [List.nil_append]
      unfold expoL
      rw [if_neg]
      · exact k
      · cases ds with
        | nil => exact absurd rfl hd
        | cons c q =>
          rw [List.all_cons, Bool.and_eq_true] at ha
          rw [List.cons_append, fst_cons, (digit_not ha.1).1]; simp
    · unfold expoL
      rw [if_pos (by rfl)]
      show (if tkD (ds ++ r) = [] then [] else [43] ++ tkD (ds ++ r)) = _
      rw [show tkD (ds ++ r) = ds from k, if_neg hd]
    · unfold expoL
      rw [if_pos (by rfl)]
      show (if tkD (ds ++ r) = [] then [] else [45] ++ tkD (ds ++ r)) = _
      rw [show tkD (ds ++ r) = ds from k, if_neg hd]
/-- a sign ahead -/
theorem start_sign {sg l : B} (hs : sg = [] ∨ sg = [43] ∨ sg = [45]) (hl : sg = [] → fst [43, 45] l = false) :
    longestL (sg ++ l) = finSign ⟨0, decide (sg = [45]), [], [], [], [], 0⟩ Pc.zero sg.length l := by
  unfold longestL finStart
  rcases hs with rfl | rfl | rfl
  · have := hl rfl
    rw [List.nil_append]
    have h1 : fst [45] l = false := by
      cases l with
      | nil => rfl
      | cons c r => rw [fst_cons] at this ⊢; simp at this ⊢; first | exact this.2 | exact this.1
    have h2 : fst [43] l = false := by
      cases l with
      | nil => rfl
      | cons c r => rw [fst_cons] at this ⊢; simp at this ⊢; first | exact this.2 | exact this.1
    rw [h1, h2]
    rfl
  · rfl
  · rfl
/-- an exponent as it is written with its letter, or none -/
def ExpW (cs : B) (ex : B) : Prop := ex = [] ∨ ∃ c e, ex = c :: e ∧ cs.contains c = true ∧ e ≠ [] ∧ ExpoOk e
theorem fst_of {cs : B} {c : UInt8} {l : B} (h : cs.contains c = true) : fst cs (c :: l) = true := h
theorem finE_app {rd wh : Pc} {k : Nat} {e r : B} (he : ExpoOk e) (hn : e ≠ []) (hr : ∀ c q, r = c :: q → isD c = false) : finE rd wh k (e ++ r) = { rd with expo := e, stop := k + e.length } := by
  unfold finE
  rw [expoL_app he hn hr, if_neg hn]
theorem exp_app {rd : Pc} {k : Nat} {ex r : B} (hx : ExpW [101, 69] ex) (hr : Stops r) (h0 : rd.expo = []) (hk : rd.stop = k) :
    (if fst [101, 69] (ex ++ r) = true then finE rd rd (k + 1) (ex ++ r).tail else rd) = { rd with expo := ex.tail, stop := k + ex.length } := by
  rcases hx with rfl | ⟨c, e, rfl, hc, hn, he⟩
  · rw [List.nil_append, hr.fst (by decide)]
    simp only [Bool.false_eq_true, if_false, List.tail_nil, List.length_nil, Nat.add_zero]
    cases rd
    simp only at h0 hk
    subst h0; subst hk
    rfl
  · rw [List.cons_append, if_pos (fst_of hc)]
    rw [List.tail_cons, finE_app he hn hr.notD, List.tail_cons, List.length_cons]
    have : k + 1 + e.length = k + (e.length + 1) := by omega
    rw [this]
theorem notD_ex {cs ex r : B} (hx : ExpW cs ex) (hc : cs.all (fun c => !isD c) = true) (hr : Stops r) : ∀ c q, ex ++ r = c :: q → isD c = false := by
  intro c q e
  rcases hx with rfl | ⟨d, f, rfl, hd, _, _⟩
  · exact hr.notD c q e
  · cases e
    have := List.all_eq_true.mp hc c (by simpa using hd)
    simpa using this
theorem notH_ex {cs ex r : B} (hx : ExpW cs ex) (hc : cs.all (fun c => !isH c) = true) (hr : Stops r) : ∀ c q, ex ++ r = c :: q → isH c = false := by
  intro c q e
  rcases hx with rfl | ⟨d, f, rfl, hd, _, _⟩
  · exact hr.notH c q e
  · cases e
    have := List.all_eq_true.mp hc c (by simpa using hd)
    simpa using this
theorem isEmpty_ne {l : B} (h : l ≠ []) : l.isEmpty = false := by cases l with | nil => exact absurd rfl h | cons _ _ => rfl
theorem fst_app {cs h r : B} (hn : h ≠ []) (hh : h.all (fun c => !cs.contains c) = true) : fst cs (h ++ r) = false := by
  cases h with
  | nil => exact absurd rfl hn
  | cons c q =>
    rw [List.all_cons, Bool.and_eq_true] at hh
    rw [List.cons_append, fst_cons]; simpa using hh.1
theorem digits_not {h : B} (hh : h.all isD = true) : h.all (fun c => !([43, 45] : B).contains c) = true :=
  all_mono (fun b hb => by rw [(digit_not hb).1]; rfl) hh
/-- a decimal one -/
theorem longest_dec {sg head tail ex rest : B} {pt : Bool} (hs : sg = [] ∨ sg = [43] ∨ sg = [45]) (hh : head.all isD = true) (ht : tail.all isD = true)
    (hne : ¬ (head = [] ∧ tail = [])) (hpt : pt = false → tail = []) (hx : ExpW [101, 69] ex) (hr : Stops rest) :
    longestL (sg ++ (head ++ ((if pt then 46 :: tail else []) ++ (ex ++ rest)))) =
      ⟨1, decide (sg = [45]), head, tail, ex.tail, [], sg.length + head.length + (if pt then 1 + tail.length else 0) + ex.length⟩ := by
  have hxd := notD_ex hx (by decide) hr
  have hx46 : ∀ {l}, l = ex ++ rest → fst [46] l = false := by
    rintro l rfl
    rcases hx with rfl | ⟨c, e, rfl, hc, _, _⟩
    · exact hr.fst (by decide)
    · exact fst_not (fst_of (l := e ++ rest) hc) (dis [101, 69] [46] rfl)
  cases pt with
  | false =>
    have ht0 := hpt rfl
    subst ht0
    have hhn : head ≠ [] := fun h => hne ⟨h, rfl⟩
    simp only [Bool.false_eq_true, if_false, List.nil_append, Nat.add_zero]
    rw [start_sign hs (fun _ => fst_app hhn (digits_not hh))]
    obtain ⟨k1, k2⟩ := tk_app hh hxd
    have k1' : tkD (head ++ (ex ++ rest)) = head := k1
    have k2' : dkD (head ++ (ex ++ rest)) = ex ++ rest := k2
    unfold finSign
    simp only [k1', k2', Pc.has, isEmpty_ne hhn, Bool.not_false, Bool.true_or, if_true]
    unfold finDigits
    rw [hx46 rfl]
    simp only [Bool.false_eq_true, if_false]
    have := exp_app (rd := ⟨1, decide (sg = [45]), head, [], [], [], sg.length + head.length⟩) (k := sg.length + head.length) hx hr rfl rfl
    rcases hx with rfl | ⟨c, e, rfl, hc, hn, he⟩
    · rw [List.nil_append, hr.fst (by decide), hr.fst (by decide), hr.fst (by decide)]
      simp
    · rw [List.cons_append, if_pos (fst_of hc)] at this ⊢
      exact this
  | true =>
    simp only [if_true]
    have e1 : (head ++ (46 :: tail ++ (ex ++ rest))) = head ++ (46 :: (tail ++ (ex ++ rest))) := rfl
    rw [e1]
    have hf : sg = [] → fst [43, 45] (head ++ (46 :: (tail ++ (ex ++ rest)))) = false := by
      intro _
      by_cases hhn : head = []
      · subst hhn; rfl
      · exact fst_app hhn (digits_not hh)
    rw [start_sign hs hf]
    obtain ⟨k1, k2⟩ := tk_app (r := 46 :: (tail ++ (ex ++ rest))) hh (by rintro c q e; cases e; rfl)
    have k1' : tkD (head ++ (46 :: (tail ++ (ex ++ rest)))) = head := k1
    have k2' : dkD (head ++ (46 :: (tail ++ (ex ++ rest)))) = 46 :: (tail ++ (ex ++ rest)) := k2
    obtain ⟨m1, m2⟩ := tk_app ht hxd
    have m1' : tkD (tail ++ (ex ++ rest)) = tail := m1
    have m2' : dkD (tail ++ (ex ++ rest)) = ex ++ rest := m2
    have hpnt : ∀ (st : Nat) (wh : Pc), finPoint ⟨1, decide (sg = [45]), head, [], [], [], st⟩ wh (sg.length + head.length + 1) (tail ++ (ex ++ rest)) =
        ⟨1, decide (sg = [45]), head, tail, ex.tail, [], sg.length + head.length + (1 + tail.length) + ex.length⟩ := by
      intro st wh
      unfold finPoint
      simp only [m1', m2']
      rw [if_neg]
      · have := exp_app (rd := ⟨1, decide (sg = [45]), head, tail, [], [], sg.length + head.length + 1 + tail.length⟩) (k := sg.length + head.length + 1 + tail.length) hx hr rfl rfl
        rw [this]
        have : sg.length + head.length + 1 + tail.length + ex.length = sg.length + head.length + (1 + tail.length) + ex.length := by omega
        rw [this]
      · rw [has_false]; exact hne
    unfold finSign
    simp only [k1', k2']
    by_cases hhn : head = []
    · have h0 : (⟨1, decide (sg = [45]), head, [], [], [], 0⟩ : Pc).has = false := has_false.mpr ⟨hhn, rfl⟩
      rw [h0]
      simp only [Bool.false_eq_true, if_false, List.tail_cons]
      rw [if_pos (show fst [46] (46 :: (tail ++ (ex ++ rest))) = true from rfl)]
      exact hpnt _ _
    · have h0 : (⟨1, decide (sg = [45]), head, [], [], [], 0⟩ : Pc).has = true := has_true.mpr (fun h => hhn h.1)
      rw [h0]
      simp only [if_true]
      unfold finDigits
      rw [if_pos (by rfl)]
      exact hpnt _ _
/-- a hexadecimal one -/
theorem longest_hex {sg head tail ex rest : B} {pt : Bool} {x : UInt8} (hs : sg = [] ∨ sg = [43] ∨ sg = [45]) (hX : x = 120 ∨ x = 88) (hh : head.all isH = true) (ht : tail.all isH = true)
    (hne : ¬ (head = [] ∧ tail = [])) (hpt : pt = false → tail = []) (hx : ExpW [112, 80] ex) (hx0 : ex ≠ []) (hr : Stops rest) :
    longestL (sg ++ (48 :: x :: (head ++ ((if pt then 46 :: tail else []) ++ (ex ++ rest))))) =
      ⟨2, decide (sg = [45]), head, tail, ex.tail, [], sg.length + 2 + head.length + (if pt then 1 + tail.length else 0) + ex.length⟩ := by
  have hxd := notH_ex hx (by decide) hr
  obtain ⟨c, e, rfl, hc, hn, he⟩ := hx.resolve_left hx0
  have hx46 : fst [46] (c :: e ++ rest) = false := fst_not (fst_of (l := e ++ rest) hc) (dis [112, 80] [46] rfl)
  have hxp : fst [112, 80] (c :: e ++ rest) = true := fst_of hc
  rw [start_sign hs (fun _ => rfl)]
  have hxd2 : isD x = false := by rcases hX with rfl | rfl <;> rfl
  generalize hL : head ++ ((if pt then 46 :: tail else []) ++ (c :: e ++ rest)) = L
  have k1' : tkD (48 :: x :: L) = [48] := (tk_app (h := [48]) (r := x :: L) (by rfl) (by rintro d q e; cases e; exact hxd2)).1
  have k2' : dkD (48 :: x :: L) = x :: L := (tk_app (h := [48]) (r := x :: L) (by rfl) (by rintro d q e; cases e; exact hxd2)).2
  have hfx : ∀ (cs : B), cs.contains (120 : UInt8) = false → cs.contains (88 : UInt8) = false → fst cs (x :: L) = false := by
    intro cs h1 h2; rw [fst_cons]; rcases hX with rfl | rfl <;> assumption
  have hfx2 : fst [120, 88] (x :: L) = true := by rw [fst_cons]; rcases hX with rfl | rfl <;> rfl
  unfold finSign
  simp only [k1', k2', Pc.has, List.isEmpty_cons, Bool.not_false, Bool.true_or, if_true]
  unfold finDigits
  rw [hfx [46] rfl rfl, hfx [101, 69] rfl rfl, hfx [47] rfl rfl]
  simp only [Bool.false_eq_true, if_false, hfx2, decide_true, Bool.and_self, if_true, List.tail_cons, List.length_singleton]
  subst hL
  unfold finX
  cases pt with
  | false =>
    have ht0 := hpt rfl
    subst ht0
    have hhn : head ≠ [] := fun h => hne ⟨h, rfl⟩
    simp only [Bool.false_eq_true, if_false, List.nil_append, Nat.add_zero]
    obtain ⟨m1, m2⟩ := tk_app hh hxd
    have m1' : tkH (head ++ (c :: e ++ rest)) = head := m1
    have m2' : dkH (head ++ (c :: e ++ rest)) = c :: e ++ rest := m2
    rw [m1', m2', hx46, hxp]
    simp only [Bool.false_eq_true, if_false, Pc.has, isEmpty_ne hhn, Bool.not_false, Bool.true_or, Bool.and_self, if_true]
    show finE _ _ _ (e ++ rest) = _
    rw [finE_app he hn hr.notD]
    simp only [List.length_cons]
    have : sg.length + 1 + 1 + head.length + 1 + e.length = sg.length + 2 + head.length + (e.length + 1) := by omega
    rw [this]
  | true =>
    simp only [if_true]
    obtain ⟨k1, k2⟩ := tk_app (h := head) (r := 46 :: (tail ++ (c :: e ++ rest))) hh (by rintro c q e; cases e; rfl)
    have k1' : tkH (head ++ (46 :: tail ++ (c :: e ++ rest))) = head := k1
    have k2' : dkH (head ++ (46 :: tail ++ (c :: e ++ rest))) = 46 :: (tail ++ (c :: e ++ rest)) := k2
    obtain ⟨m1, m2⟩ := tk_app ht hxd
    have m1' : tkH (tail ++ (c :: e ++ rest)) = tail := m1
    have m2' : dkH (tail ++ (c :: e ++ rest)) = c :: e ++ rest := m2
    rw [k1', k2', if_pos (by rfl), List.tail_cons]
    unfold finHexPoint
    simp only [m1', m2', hxp, Bool.and_true]
    have h0 : (⟨2, decide (sg = [45]), head, tail, [], [], sg.length + 1⟩ : Pc).has = true := has_true.mpr hne
    rw [h0]
    simp only [if_true]
    show finE _ _ _ (e ++ rest) = _
    rw [finE_app he hn hr.notD]
    simp only [List.length_cons]
    have : sg.length + 1 + 1 + head.length + 1 + tail.length + 1 + e.length = sg.length + 2 + head.length + (1 + tail.length) + (e.length + 1) := by omega
    rw [this]
/-- a rational one -/
theorem longest_rat {sg head tail rest : B} (hs : sg = [] ∨ sg = [43] ∨ sg = [45]) (hh : head.all isD = true) (ht : tail.all isD = true)
    (hhn : head ≠ []) (htn : tail ≠ []) (hr : Stops rest) :
    longestL (sg ++ (head ++ (47 :: (tail ++ rest)))) = ⟨3, decide (sg = [45]), head, [], [], tail, sg.length + head.length + 1 + tail.length⟩ := by
  rw [start_sign hs (fun _ => fst_app hhn (digits_not hh))]
  obtain ⟨k1, k2⟩ := tk_app (h := head) (r := 47 :: (tail ++ rest)) hh (by rintro c q e; cases e; rfl)
  have k1' : tkD (head ++ (47 :: (tail ++ rest))) = head := k1
  have k2' : dkD (head ++ (47 :: (tail ++ rest))) = 47 :: (tail ++ rest) := k2
  have m1' : tkD (tail ++ rest) = tail := (tk_app ht hr.notD).1
  unfold finSign
  simp only [k1', k2', Pc.has, isEmpty_ne hhn, Bool.not_false, Bool.true_or, if_true]
  unfold finDigits
  rw [if_neg (show ¬ fst [46] (47 :: (tail ++ rest)) = true from fun h => by cases h), if_neg (show ¬ fst [101, 69] (47 :: (tail ++ rest)) = true from fun h => by cases h), if_pos (by rfl), List.tail_cons]
  unfold finSlash
  rw [m1', if_neg htn]
end Lx
end Go.Proofs.YtbbmoaipilmmdaaGreatDoor

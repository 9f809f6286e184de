/- Numerals as they are written: what the longest one at the beginning of a text is, by states and by kinds. -/
import Derived.KernelRfl
namespace Go.Proofs.YtbbmoaipilmmdaaGreatDoor
set_option linter.unusedVariables false
namespace Lx
def isD (b : UInt8) : Bool := decide (48 ≤ b.toNat) && decide (b.toNat ≤ 57)
def isH (b : UInt8) : Bool := isD b || (decide (97 ≤ b.toNat) && decide (b.toNat ≤ 102)) || (decide (65 ≤ b.toNat) && decide (b.toNat ≤ 70))
abbrev B := List UInt8
/-- the pieces of a numeral, as they are written -/
structure Pc where
  kind : Int
  neg : Bool
  ahead : B
  behind : B
  expo : B
  den : B
  stop : Nat
def Pc.zero : Pc := ⟨0, false, [], [], [], [], 0⟩
def tkD (l : B) : B := l.takeWhile isD
def dkD (l : B) : B := l.dropWhile isD
def tkH (l : B) : B := l.takeWhile isH
def dkH (l : B) : B := l.dropWhile isH
def Pc.has (p : Pc) : Bool := !p.ahead.isEmpty || !p.behind.isEmpty
/-- is the first byte one of these? -/
def fst (cs : B) (l : B) : Bool := match l with | c :: _ => cs.contains c | [] => false
/-- the exponent as written, behind the letter -/
def expoL (l : B) : B := if fst [43, 45] l then (if tkD l.tail = [] then [] else l.take 1 ++ tkD l.tail) else tkD l
/-- the states of the reader -/
inductive St where
  | start | sign | digits | point | e | slash | x | hexPoint | stop
deriving DecidableEq
def St.rank : St → Nat
  | .start => 8 | .sign => 7 | .digits => 6 | .x => 5 | .point => 4 | .hexPoint => 3 | .slash => 2 | .e => 1 | .stop => 0
/-- what is read in the end, from a state on: what was read, what is kept, the place, the rest of the text -/
def finE (rd wh : Pc) (k : Nat) (l : B) : Pc := if expoL l = [] then wh else { rd with expo := expoL l, stop := k + (expoL l).length }
def finSlash (rd wh : Pc) (k : Nat) (l : B) : Pc := if tkD l = [] then wh else { rd with kind := 3, den := tkD l, stop := k + (tkD l).length }
def finPoint (rd wh : Pc) (k : Nat) (l : B) : Pc :=
  let r1 : Pc := { rd with behind := tkD l }
  if r1.has = false then wh else
  let r2 : Pc := { r1 with stop := k + (tkD l).length }
  if fst [101, 69] (dkD l) then finE r2 r2 (k + (tkD l).length + 1) (dkD l).tail else r2
def finHexPoint (rd wh : Pc) (k : Nat) (l : B) : Pc :=
  let r1 : Pc := { rd with behind := tkH l }
  if (r1.has && fst [112, 80] (dkH l)) = true then finE r1 wh (k + (tkH l).length + 1) (dkH l).tail else wh
def finX (rd wh : Pc) (k : Nat) (l : B) : Pc :=
  let r1 : Pc := { rd with kind := 2, ahead := tkH l }
  if fst [46] (dkH l) then finHexPoint r1 wh (k + (tkH l).length + 1) (dkH l).tail
  else if (r1.has && fst [112, 80] (dkH l)) = true then finE r1 wh (k + (tkH l).length + 1) (dkH l).tail else wh
def finDigits (rd wh : Pc) (k : Nat) (l : B) : Pc :=
  if fst [46] l then finPoint rd wh (k + 1) l.tail
  else if fst [101, 69] l then finE rd wh (k + 1) l.tail
  else if fst [47] l then finSlash rd wh (k + 1) l.tail
  else if (decide (rd.ahead = [48]) && fst [120, 88] l) = true then finX rd wh (k + 1) l.tail
  else wh
def finSign (rd wh : Pc) (k : Nat) (l : B) : Pc :=
  let r1 : Pc := { rd with kind := 1, ahead := tkD l }
  if r1.has then
    let r2 : Pc := { r1 with stop := k + (tkD l).length }
    finDigits r2 r2 (k + (tkD l).length) (dkD l)
  else if fst [46] (dkD l) then finPoint r1 wh (k + (tkD l).length + 1) (dkD l).tail
  else wh
def finStart (rd wh : Pc) (k : Nat) (l : B) : Pc :=
  if fst [45] l then finSign { rd with neg := true } wh (k + 1) l.tail
  else if fst [43] l then finSign { rd with neg := false } wh (k + 1) l.tail
  else finSign { rd with neg := false } wh k l
def fin : St → Pc → Pc → Nat → B → Pc
  | .start => finStart | .sign => finSign | .digits => finDigits | .x => finX | .point => finPoint | .hexPoint => finHexPoint
  | .slash => finSlash | .e => finE | .stop => fun _ wh _ _ => wh
def longestL (l : B) : Pc := finStart Pc.zero Pc.zero 0 l
/-- the document's way: each kind by itself -/
def refE (cs : B) (p : Pc) (l : B) : Option Pc :=
  if fst cs l then (if expoL l.tail = [] then none else some { p with expo := expoL l.tail, stop := p.stop + 1 + (expoL l.tail).length }) else none
def refParts (t : UInt8 → Bool) (p : Pc) (l : B) : Option (Pc × B) :=
  let h := l.takeWhile t
  let r := l.dropWhile t
  if fst [46] r then
    let q := r.tail.takeWhile t
    if h = [] ∧ q = [] then none
    else some ({ p with ahead := h, behind := q, stop := p.stop + h.length + 1 + q.length }, r.tail.dropWhile t)
  else if h = [] then none else some ({ p with ahead := h, behind := [], stop := p.stop + h.length }, r)
def refDec (neg : Bool) (k : Nat) (l : B) : Option Pc :=
  match refParts isD ⟨1, neg, [], [], [], [], k⟩ l with
  | none => none
  | some (p, r) => some ((refE [101, 69] p r).getD p)
def refHex (neg : Bool) (k : Nat) (l : B) : Option Pc :=
  if (fst [48] l && fst [120, 88] l.tail) = true then
    match refParts isH ⟨2, neg, [], [], [], [], k + 2⟩ l.tail.tail with
    | none => none
    | some (p, r) => refE [112, 80] p r
  else none
def refRat (neg : Bool) (k : Nat) (l : B) : Option Pc :=
  if tkD l = [] then none
  else if fst [47] (dkD l) then
    (if tkD (dkD l).tail = [] then none else some ⟨3, neg, tkD l, [], [], tkD (dkD l).tail, k + (tkD l).length + 1 + (tkD (dkD l).tail).length⟩)
  else none
/-- the longer one -/
def better : Option Pc → Option Pc → Option Pc
  | some p, some q => if p.stop < q.stop then some q else some p
  | none, b => b
  | a, none => a
def refAll (neg : Bool) (k : Nat) (l : B) : Option Pc := better (better (refDec neg k l) (refHex neg k l)) (refRat neg k l)
def optOf (p : Pc) : Option Pc := if p.kind = 0 then none else some p
def refScanL (l : B) : Option Pc :=
  if fst [43, 45] l then refAll (fst [45] l) 1 l.tail else refAll false 0 l
theorem fst_cons (cs : B) (c : UInt8) (l : B) : fst cs (c :: l) = cs.contains c := rfl
theorem fst_nil (cs : B) : fst cs [] = false := rfl
theorem dk_head {t : UInt8 → Bool} {l : B} {c : UInt8} {r : B} (h : l.dropWhile t = c :: r) : t c = false := by
  induction l with
  | nil => simp at h
  | cons b q ih =>
    rw [List.dropWhile_cons] at h
    by_cases hb : t b
    · rw [if_pos hb] at h; exact ih h
    · rw [if_neg hb] at h
      have := (List.cons.inj h).1
      rw [← this]; simpa using hb
theorem tk_dk (t : UInt8 → Bool) (l : B) : l.takeWhile t ++ l.dropWhile t = l := List.takeWhile_append_dropWhile
theorem dk_len (t : UInt8 → Bool) (l : B) : (l.takeWhile t).length + (l.dropWhile t).length = l.length := by
  have := congrArg List.length (tk_dk t l)
  rwa [List.length_append] at this
theorem drop_dk (t : UInt8 → Bool) (l : B) : l.drop (l.takeWhile t).length = l.dropWhile t := by
  have := List.drop_left (l₁ := l.takeWhile t) (l₂ := l.dropWhile t)
  rwa [tk_dk] at this
theorem take_tk (t : UInt8 → Bool) (l : B) : l.take (l.takeWhile t).length = l.takeWhile t := by
  have := List.take_left (l₁ := l.takeWhile t) (l₂ := l.dropWhile t)
  rwa [tk_dk] at this
theorem fst_true {cs l : B} (h : fst cs l = true) : ∃ c r, l = c :: r ∧ cs.contains c = true := by
  cases l with
  | nil => simp [fst] at h
  | cons c r => exact ⟨c, r, rfl, h⟩
/-- two disjoint sets cannot both hold the first byte -/
theorem fst_not {cs ds l : B} (h : fst cs l = true) (hd : ∀ c, cs.contains c = true → ds.contains c = false) : fst ds l = false := by
  obtain ⟨c, r, rfl, hc⟩ := fst_true h
  exact hd c hc
theorem tk_nil_of {t : UInt8 → Bool} {l : B} (h : l.takeWhile t = []) : l.dropWhile t = l := by
  have := tk_dk t l
  rw [h] at this; simpa using this
theorem isEmpty_iff {l : B} : l.isEmpty = true ↔ l = [] := by cases l <;> simp
theorem has_false {p : Pc} : p.has = false ↔ p.ahead = [] ∧ p.behind = [] := by
  unfold Pc.has
  cases p.ahead <;> cases p.behind <;> simp
theorem has_true {p : Pc} : p.has = true ↔ ¬ (p.ahead = [] ∧ p.behind = []) := by
  rw [← has_false]; cases p.has <;> simp
/-- 0x ahead: the digits are a lone 0 -/
theorem hex_zero {l : B} (h : (fst [48] l && fst [120, 88] l.tail) = true) : tkD l = [48] ∧ dkD l = l.tail := by
  rw [Bool.and_eq_true] at h
  obtain ⟨c, r, rfl, hc⟩ := fst_true h.1
  have hc' : c = 48 := by simpa using hc
  obtain ⟨d, q, e, hd⟩ := fst_true h.2
  have e' : r = d :: q := e
  subst hc'; subst e'
  have hd2 : isD d = false := by
    have : d = 120 ∨ d = 88 := by simpa using hd
    rcases this with rfl | rfl <;> rfl
  have h48 : isD 48 = true := rfl
  constructor
  · unfold tkD; rw [List.takeWhile_cons, h48]; simp only [↓reduceIte]
    rw [List.takeWhile_cons, hd2]; rfl
  · unfold dkD; rw [List.dropWhile_cons, h48]; simp only [↓reduceIte]
    rw [List.dropWhile_cons, hd2]; rfl
theorem zero_hex {l : B} (h : tkD l = [48]) : fst [48] l = true ∧ dkD l = l.tail := by
  have e := tk_dk isD l
  change tkD l ++ dkD l = l at e
  rw [h] at e
  rw [← e]
  refine ⟨rfl, ?_⟩
  change _ = dkD l
  rw [e]
theorem dis (cs ds : B) (h : cs.all (fun c => !ds.contains c) = true) : ∀ c, cs.contains c = true → ds.contains c = false := by
  intro c hc
  have := List.all_eq_true.mp h c (by simpa using hc)
  simpa using this
theorem refE_lt {cs : B} {p q : Pc} {l : B} (h : refE cs p l = some q) : p.stop < q.stop := by
  unfold refE at h
  split at h
  · split at h
    · cases h
    · cases h; show p.stop < p.stop + 1 + _; omega
  · cases h
theorem refParts_lt {t : UInt8 → Bool} {p q : Pc} {l r : B} (h : refParts t p l = some (q, r)) : p.stop < q.stop := by
  unfold refParts at h
  simp only at h
  split at h
  · split at h
    · cases h
    · cases h; show p.stop < p.stop + _ + 1 + _; omega
  · split at h
    · cases h
    · rename_i hn
      cases h
      show p.stop < p.stop + _
      have : (List.takeWhile t l).length ≠ 0 := fun e => hn (List.length_eq_zero_iff.mp e)
      omega
theorem finE_ref (cs : B) (rd wh : Pc) (k : Nat) (l : B) (hk : k = rd.stop + 1) (hf : fst cs l = true) : finE rd wh k l.tail = (refE cs rd l).getD wh := by
  unfold finE refE
  rw [if_pos hf]
  split
  · rfl
  · subst hk; rfl
theorem parts_point {t : UInt8 → Bool} (p : Pc) {l : B} (h : fst [46] (l.dropWhile t) = true) (hn : ¬ (l.takeWhile t = [] ∧ (l.dropWhile t).tail.takeWhile t = [])) :
    refParts t p l = some ({ p with ahead := l.takeWhile t, behind := (l.dropWhile t).tail.takeWhile t, stop := p.stop + (l.takeWhile t).length + 1 + ((l.dropWhile t).tail.takeWhile t).length }, (l.dropWhile t).tail.dropWhile t) := by
  unfold refParts
  simp only
  rw [if_pos h, if_neg hn]
theorem parts_point_none {t : UInt8 → Bool} (p : Pc) {l : B} (h : fst [46] (l.dropWhile t) = true) (hn : l.takeWhile t = [] ∧ (l.dropWhile t).tail.takeWhile t = []) :
    refParts t p l = none := by
  unfold refParts
  simp only
  rw [if_pos h, if_pos hn]
theorem parts_plain {t : UInt8 → Bool} (p : Pc) {l : B} (h : ¬ fst [46] (l.dropWhile t) = true) (hn : ¬ l.takeWhile t = []) :
    refParts t p l = some ({ p with ahead := l.takeWhile t, behind := [], stop := p.stop + (l.takeWhile t).length }, l.dropWhile t) := by
  unfold refParts
  simp only
  rw [if_neg h, if_neg hn]
theorem parts_plain_none {t : UInt8 → Bool} (p : Pc) {l : B} (h : ¬ fst [46] (l.dropWhile t) = true) (hn : l.takeWhile t = []) :
    refParts t p l = none := by
  unfold refParts
  simp only
  rw [if_neg h, if_pos hn]
theorem dec_some {neg : Bool} {k : Nat} {l r : B} {p : Pc} (h : refParts isD ⟨1, neg, [], [], [], [], k⟩ l = some (p, r)) : refDec neg k l = some ((refE [101, 69] p r).getD p) := by
  unfold refDec; rw [h]
theorem dec_none {neg : Bool} {k : Nat} {l : B} (h : refParts isD ⟨1, neg, [], [], [], [], k⟩ l = none) : refDec neg k l = none := by
  unfold refDec; rw [h]
theorem hex_some {neg : Bool} {k : Nat} {l r : B} {p : Pc} (hc : (fst [48] l && fst [120, 88] l.tail) = true) (h : refParts isH ⟨2, neg, [], [], [], [], k + 2⟩ l.tail.tail = some (p, r)) : refHex neg k l = refE [112, 80] p r := by
  unfold refHex; rw [if_pos hc, h]
theorem hex_none {neg : Bool} {k : Nat} {l : B} (hc : (fst [48] l && fst [120, 88] l.tail) = true) (h : refParts isH ⟨2, neg, [], [], [], [], k + 2⟩ l.tail.tail = none) : refHex neg k l = none := by
  unfold refHex; rw [if_pos hc, h]
/-- without a kind of its own there is none -/
theorem refAll_eq (neg : Bool) (k : Nat) (l : B) : refAll neg k l = optOf (finSign ⟨0, neg, [], [], [], [], 0⟩ Pc.zero k l) := by
  by_cases ha : tkD l = []
  · have hdk : dkD l = l := tk_nil_of ha
    have hx : refHex neg k l = none := by
      unfold refHex
      split
      · rename_i h
        have := (hex_zero h).1
        rw [ha] at this; cases this
      · rfl
    have hr : refRat neg k l = none := by unfold refRat; rw [if_pos ha]
    unfold refAll
    rw [hx, hr]
    unfold finSign
    simp only [ha, Pc.has, List.isEmpty_nil, Bool.not_true, Bool.or_self, Bool.false_eq_true, if_false, hdk, List.length_nil, Nat.add_zero]
    have hdl : l.dropWhile isD = l := hdk
    have hal : l.takeWhile isD = [] := ha
    by_cases hp : fst [46] l = true
    · rw [if_pos hp]
      have hp' : fst [46] (l.dropWhile isD) = true := by rw [hdl]; exact hp
      unfold finPoint
      simp only [Pc.has, List.isEmpty_nil, Bool.not_true, Bool.false_or]
      by_cases hq : tkD l.tail = []
      · rw [dec_none (parts_point_none _ hp' ⟨hal, by rw [hdl]; exact hq⟩), hq]; rfl
      · have hq' : (tkD l.tail).isEmpty = false := by
          cases h : tkD l.tail with
          | nil => exact absurd h hq
          | cons _ _ => rfl
        simp only [hq', Bool.not_false, Bool.true_eq_false, if_false]
        rw [dec_some (parts_point _ hp' (fun h => hq (by have := h.2; rw [hdl] at this; exact this)))]
        simp only [hdl, hal, List.length_nil, Nat.add_zero]
        change better (better (some ((refE [101, 69] ⟨1, neg, [], tkD l.tail, [], [], k + 1 + (tkD l.tail).length⟩ (dkD l.tail)).getD ⟨1, neg, [], tkD l.tail, [], [], k + 1 + (tkD l.tail).length⟩)) none) none = _
        by_cases he : fst [101, 69] (dkD l.tail) = true
        · rw [if_pos he, finE_ref [101, 69] _ _ _ _ rfl he]
          unfold optOf
          rw [if_neg]
          · rfl
          · unfold refE
            rw [if_pos he]
            split <;> (intro h; cases h)
        · rw [if_neg he]
          unfold refE
          rw [if_neg he]
          rfl
    · rw [if_neg hp, dec_none (parts_plain_none _ (by rw [hdl]; exact hp) hal)]
      rfl
  · have ha' : (tkD l).isEmpty = false := by
      cases h : tkD l with
      | nil => exact absurd h ha
      | cons _ _ => rfl
    unfold finSign
    simp only [Pc.has, ha', Bool.not_false, Bool.true_or, if_true]
    unfold finDigits
    by_cases hp : fst [46] (dkD l) = true
    · rw [if_pos hp]
      have hx : refHex neg k l = none := by
        unfold refHex
        split
        · rename_i h
          have h2 := (hex_zero h).2
          rw [h2] at hp
          rw [Bool.and_eq_true] at h
          have := fst_not h.2 (dis [120, 88] [46] rfl)
          rw [hp] at this; cases this
        · rfl
      have hr : refRat neg k l = none := by
        unfold refRat
        rw [if_neg ha, if_neg]
        rw [fst_not hp (dis [46] [47] rfl)]; simp
      unfold refAll
      rw [hx, hr]
      rw [dec_some (parts_point _ hp (fun h => ha h.1))]
      unfold finPoint
      simp only [Pc.has, ha', Bool.not_false, Bool.true_or, Bool.true_eq_false, if_false]
      change better (better (some ((refE [101, 69] ⟨1, neg, tkD l, tkD (dkD l).tail, [], [], k + (tkD l).length + 1 + (tkD (dkD l).tail).length⟩ (dkD (dkD l).tail)).getD ⟨1, neg, tkD l, tkD (dkD l).tail, [], [], k + (tkD l).length + 1 + (tkD (dkD l).tail).length⟩)) none) none = _
      by_cases he : fst [101, 69] (dkD (dkD l).tail) = true
      · rw [if_pos he, finE_ref [101, 69] _ _ _ _ rfl he]
        unfold optOf
        rw [if_neg]
        · rfl
        · unfold refE
          rw [if_pos he]
          split <;> (intro h; cases h)
      · rw [if_neg he]
        unfold refE
        rw [if_neg he]
        rfl
    · rw [if_neg hp]
      have hd : refDec neg k l = some ((refE [101, 69] ⟨1, neg, tkD l, [], [], [], k + (tkD l).length⟩ (dkD l)).getD ⟨1, neg, tkD l, [], [], [], k + (tkD l).length⟩) := by
        rw [dec_some (parts_plain _ hp ha)]
        rfl
      by_cases he : fst [101, 69] (dkD l) = true
      · rw [if_pos he]
        have hx : refHex neg k l = none := by
          unfold refHex
          split
          · rename_i h
            have h2 := (hex_zero h).2
            rw [h2] at he
            rw [Bool.and_eq_true] at h
            have := fst_not h.2 (dis [120, 88] [101, 69] rfl)
            rw [he] at this; cases this
          · rfl
        have hr : refRat neg k l = none := by
          unfold refRat
          rw [if_neg ha, if_neg]
          rw [fst_not he (dis [101, 69] [47] rfl)]; simp
        unfold refAll
        rw [hx, hr, hd, finE_ref [101, 69] _ _ _ _ rfl he]
        unfold optOf
        rw [if_neg]
        · rfl
        · unfold refE
          rw [if_pos he]
          split <;> (intro h; cases h)
      · rw [if_neg he]
        have hd2 : refDec neg k l = some ⟨1, neg, tkD l, [], [], [], k + (tkD l).length⟩ := by
          rw [hd]; unfold refE; rw [if_neg he]; rfl
        by_cases hs : fst [47] (dkD l) = true
        · rw [if_pos hs]
          have hx : refHex neg k l = none := by
            unfold refHex
            split
            · rename_i h
              have h2 := (hex_zero h).2
              rw [h2] at hs
              rw [Bool.and_eq_true] at h
              have := fst_not h.2 (dis [120, 88] [47] rfl)
              rw [hs] at this; cases this
            · rfl
          unfold refAll
          rw [hx, hd2]
          unfold refRat finSlash
          rw [if_neg ha, if_pos hs]
          by_cases hq : tkD (dkD l).tail = []
          · rw [if_pos hq, if_pos hq]; rfl
          · rw [if_neg hq, if_neg hq]
            show (if k + (tkD l).length < k + (tkD l).length + 1 + (tkD (dkD l).tail).length then _ else _) = _
            rw [if_pos (by omega)]
            rfl
        · rw [if_neg hs]
          have hr : refRat neg k l = none := by
            unfold refRat
            rw [if_neg ha, if_neg hs]
          unfold refAll
          rw [hr, hd2]
          by_cases hz : (decide (tkD l = [48]) && fst [120, 88] (dkD l)) = true
          · rw [if_pos hz]
            rw [Bool.and_eq_true, decide_eq_true_eq] at hz
            obtain ⟨z1, z2⟩ := zero_hex hz.1
            have hz2 := hz.2
            rw [z2] at hz2
            have hc : (fst [48] l && fst [120, 88] l.tail) = true := by rw [z1, hz2]; rfl
            rw [hz.1, z2]
            unfold finX
            simp only [List.length_cons, List.length_nil]
            by_cases hpp : fst [46] (dkH l.tail.tail) = true
            · rw [if_pos hpp]
              unfold finHexPoint
              by_cases hq : tkH l.tail.tail = [] ∧ tkH (dkH l.tail.tail).tail = []
              · rw [hex_none hc (parts_point_none _ hpp hq)]
                simp only [Pc.has, hq.1, hq.2, List.isEmpty_nil, Bool.not_true, Bool.or_self, Bool.false_and, Bool.false_eq_true, if_false]
                rfl
              · rw [hex_some hc (parts_point _ hpp hq)]
                have hhas : (!(tkH l.tail.tail).isEmpty || !(tkH (dkH l.tail.tail).tail).isEmpty) = true := by
                  cases h1 : tkH l.tail.tail with
                  | cons _ _ => rfl
                  | nil =>
                    cases h2 : tkH (dkH l.tail.tail).tail with
                    | cons _ _ => rfl
                    | nil => exact absurd ⟨h1, h2⟩ hq
                simp only [Pc.has, hhas, Bool.true_and]
                change better (better _ (refE [112, 80] ⟨2, neg, tkH l.tail.tail, tkH (dkH l.tail.tail).tail, [], [], k + 2 + (tkH l.tail.tail).length + 1 + (tkH (dkH l.tail.tail).tail).length⟩ (dkH (dkH l.tail.tail).tail))) none = _
                by_cases hE : fst [112, 80] (dkH (dkH l.tail.tail).tail) = true
                · rw [if_pos hE]
                  unfold refE finE
                  rw [if_pos hE]
                  by_cases hX : expoL (dkH (dkH l.tail.tail).tail).tail = []
                  · rw [if_pos hX, if_pos hX]; rfl
                  · rw [if_neg hX, if_neg hX]
                    unfold better
                    simp only
                    rw [if_pos (by omega)]
                    rfl
                · rw [if_neg hE]
                  unfold refE
                  rw [if_neg hE]
                  rfl
            · rw [if_neg hpp]
              by_cases hq : tkH l.tail.tail = []
              · rw [hex_none hc (parts_plain_none _ hpp hq)]
                simp only [Pc.has, hq, List.isEmpty_nil, Bool.not_true, Bool.or_self, Bool.false_and, Bool.false_eq_true, if_false]
                rfl
              · rw [hex_some hc (parts_plain _ hpp hq)]
                have hhas : (!(tkH l.tail.tail).isEmpty || !([] : B).isEmpty) = true := by
                  cases h1 : tkH l.tail.tail with
                  | cons _ _ => rfl
                  | nil => exact absurd h1 hq
                simp only [Pc.has, hhas, Bool.true_and]
                change better (better _ (refE [112, 80] ⟨2, neg, tkH l.tail.tail, [], [], [], k + 2 + (tkH l.tail.tail).length⟩ (dkH l.tail.tail))) none = _
                by_cases hE : fst [112, 80] (dkH l.tail.tail) = true
                · rw [if_pos hE]
                  unfold refE finE
                  rw [if_pos hE]
                  by_cases hX : expoL (dkH l.tail.tail).tail = []
                  · rw [if_pos hX, if_pos hX]; rfl
                  · rw [if_neg hX, if_neg hX]
                    unfold better
                    simp only
                    rw [if_pos (by omega)]
                    rfl
                · rw [if_neg hE]
                  unfold refE
                  rw [if_neg hE]
                  rfl
          · rw [if_neg hz]
            have hx : refHex neg k l = none := by
              unfold refHex
              split
              · rename_i h
                obtain ⟨h1, h2⟩ := hex_zero h
                rw [Bool.and_eq_true] at h
                exfalso
                apply hz
                rw [h1, h2, h.2]; rfl
              · rfl
            rw [hx]
            rfl
theorem scan_eq (l : B) : refScanL l = optOf (longestL l) := by
  unfold refScanL longestL finStart
  by_cases h1 : fst [45] l = true
  · have : fst [43, 45] l = true := by
      obtain ⟨c, r, rfl, hc⟩ := fst_true h1
      have : c = 45 := by simpa using hc
      subst this; rfl
    rw [if_pos this, if_pos h1, h1]
    exact refAll_eq true 1 l.tail
  · have h1' : fst [45] l = false := by simpa using h1
    rw [if_neg h1]
    by_cases h2 : fst [43] l = true
    · have : fst [43, 45] l = true := by
        obtain ⟨c, r, rfl, hc⟩ := fst_true h2
        have : c = 43 := by simpa using hc
        subst this; rfl
      rw [if_pos this, if_pos h2, h1']
      exact refAll_eq false 1 l.tail
    · rw [if_neg h2, if_neg]
      · exact refAll_eq false 0 l
      · intro h
        obtain ⟨c, r, rfl, hc⟩ := fst_true h
        have : c = 43 ∨ c = 45 := by simpa using hc
        rcases this with rfl | rfl
        · exact h2 rfl
        · exact h1 rfl
end Lx
end Go.Proofs.YtbbmoaipilmmdaaGreatDoor

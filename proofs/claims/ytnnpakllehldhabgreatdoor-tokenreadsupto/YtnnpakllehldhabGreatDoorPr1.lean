import Derived.KernelRfl
/- Numerals as they are written: what the longest one at the beginning of a text is, by states and by kinds. -/
namespace Go.Proofs.YtnnpakllehldhabGreatDoor
set_option linter.unusedVariables false
namespace Lx
def isD (b : UInt8) : Bool := decide (48 ≤ b.toNat) && decide (b.toNat ≤ 57)
def isH (b : UInt8) : Bool := isD b || (decide (97 ≤ b.toNat) && decide (b.toNat ≤ 102)) || (decide (65 ≤ b.toNat) && decide (b.toNat ≤ 70))
abbrev B := List UInt8
/-- the pieces of a numeral, as they are written -/
structure Pc where
  kind : Int
  neg : Bool
  ahead : B
  behind : B
  expo : B
  den : B
  stop : Nat
def Pc.zero : Pc := ⟨0, false, [], [], [], [], 0⟩
def tkD (l : B) : B := l.takeWhile isD
def dkD (l : B) : B := l.dropWhile isD
def tkH (l : B) : B := l.takeWhile isH
def dkH (l : B) : B := l.dropWhile isH
def Pc.has (p : Pc) : Bool := !p.ahead.isEmpty || !p.behind.isEmpty
/-- is the first byte one of these? -/
def fst (cs : B) (l : B) : Bool := match l with | c :: _ => cs.contains c | [] => false
/-- the exponent as written, behind the letter -/
def expoL (l : B) : B := if fst [43, 45] l then (if tkD l.tail = [] then [] else l.take 1 ++ tkD l.tail) else tkD l
/-- the states of the reader -/
inductive St where
  | start | sign | digits | point | e | slash | x | hexPoint | stop
deriving DecidableEq
def St.rank : St → Nat
  | .start => 8 | .sign => 7 | .digits => 6 | .x => 5 | .point => 4 | .hexPoint => 3 | .slash => 2 | .e => 1 | .stop => 0
/-- what is read in the end, from a state on: what was read, what is kept, the place, the rest of the text -/
def finE (rd wh : Pc) (k : Nat) (l : B) : Pc := if expoL l = [] then wh else { rd with expo := expoL l, stop := k + (expoL l).length }
def finSlash (rd wh : Pc) (k : Nat) (l : B) : Pc := if tkD l = [] then wh else { rd with kind := 3, den := tkD l, stop := k + (tkD l).length }
def finPoint (rd wh : Pc) (k : Nat) (l : B) : Pc :=
  let r1 : Pc := { rd with behind := tkD l }
  if r1.has = false then wh else
  let r2 : Pc := { r1 with stop := k + (tkD l).length }
  if fst [101, 69] (dkD l) then finE r2 r2 (k + (tkD l).length + 1) (dkD l).tail else r2
def finHexPoint (rd wh : Pc) (k : Nat) (l : B) : Pc :=
  let r1 : Pc := { rd with behind := tkH l }
  if (r1.has && fst [112, 80] (dkH l)) = true then finE r1 wh (k + (tkH l).length + 1) (dkH l).tail else wh
def finX (rd wh : Pc) (k : Nat) (l : B) : Pc :=
  let r1 : Pc := { rd with kind := 2, ahead := tkH l }
  if fst [46] (dkH l) then finHexPoint r1 wh (k + (tkH l).length + 1) (dkH l).tail
  else if (r1.has && fst [112, 80] (dkH l)) = true then finE r1 wh (k + (tkH l).length + 1) (dkH l).tail else wh
def finDigits (rd wh : Pc) (k : Nat) (l : B) : Pc :=
  if fst [46] l then finPoint rd wh (k + 1) l.tail
  else if fst [101, 69] l then finE rd wh (k + 1) l.tail
  else if fst [47] l then finSlash rd wh (k + 1) l.tail
  else if (decide (rd.ahead = [48]) && fst [120, 88] l) = true then finX rd wh (k + 1) l.tail
  else wh
def finSign (rd wh : Pc) (k : Nat) (l : B) : Pc :=
  let r1 : Pc := { rd with kind := 1, ahead := tkD l }
  if r1.has then
    let r2 : Pc := { r1 with stop := k + (tkD l).length }
    finDigits r2 r2 (k + (tkD l).length) (dkD l)
  else if fst [46] (dkD l) then finPoint r1 wh (k + (tkD l).length + 1) (dkD l).tail
  else wh
def finStart (rd wh : Pc) (k : Nat) (l : B) : Pc :=
  if fst [45] l then finSign { rd with neg := true } wh (k + 1) l.tail
  else if fst [43] l then finSign { rd with neg := false } wh (k + 1) l.tail
  else finSign { rd with neg := false } wh k l
def fin : St → Pc → Pc → Nat → B → Pc
  | .start => finStart | .sign => finSign | .digits => finDigits | .x => finX | .point => finPoint | .hexPoint => finHexPoint
  | .slash => finSlash | .e => finE | .stop => fun _ wh _ _ => wh
def longestL (l : B) : Pc := finStart Pc.zero Pc.zero 0 l
/-- the document's way: each kind by itself -/
def refE (cs : B) (p : Pc) (l : B) : Option Pc :=
  if fst cs l then (if expoL l.tail = [] then none else some { p with expo := expoL l.tail, stop := p.stop + 1 + (expoL l.tail).length }) else none
def refParts (t : UInt8 → Bool) (p : Pc) (l : B) : Option (Pc × B) :=
  let h := l.takeWhile t
  let r := l.dropWhile t
  if fst [46] r then
    let q := r.tail.takeWhile t
    if h = [] ∧ q = [] then none
    else some ({ p with ahead := h, behind := q, stop := p.stop + h.length + 1 + q.length }, r.tail.dropWhile t)
  else if h = [] then none else some ({ p with ahead := h, behind := [], stop := p.stop + h.length }, r)
def refDec (neg : Bool) (k : Nat) (l : B) : Option Pc :=
  match refParts isD ⟨1, neg, [], [], [], [], k⟩ l with
  | none => none
  | some (p, r) => some ((refE [101, 69] p r).getD p)
def refHex (neg : Bool) (k : Nat) (l : B) : Option Pc :=
  if (fst [48] l && fst [120, 88] l.tail) = true then
    match refParts isH ⟨2, neg, [], [], [], [], k + 2⟩ l.tail.tail with
    | none => none
    | some (p, r) => refE [112, 80] p r
  else none
def refRat (neg : Bool) (k : Nat) (l : B) : Option Pc :=
  if tkD l = [] then none
  else if fst [47] (dkD l) then
    (if tkD (dkD l).tail = [] then none else some ⟨3, neg, tkD l, [], [], tkD (dkD l).tail, k + (tkD l).length + 1 + (tkD (dkD l).tail).length⟩)
  else none
/-- the longer one -/
def better : Option Pc → Option Pc → Option Pc
  | some p, some q => if p.stop < q.stop then some q else some p
  | none, b => b
  | a, none => a
def refAll (neg : Bool) (k : Nat) (l : B) : Option Pc := better (better (refDec neg k l) (refHex neg k l)) (refRat neg k l)
def optOf (p : Pc) : Option Pc := if p.kind = 0 then none else some p
def refScanL (l : B) : Option Pc :=
  if fst [43, 45] l then refAll (fst [45] l) 1 l.tail else refAll false 0 l
theorem fst_cons (cs : B) (c : UInt8) (l : B) : fst cs (c :: l) = cs.contains c := rfl
theorem dk_head {t : UInt8 → Bool} {l : B} {c : UInt8} {r : B} (h : l.dropWhile t = c :: r) : t c = false := by
  induction l with
  | nil => simp at h
  | cons b q ih =>
    rw [List.dropWhile_cons] at h
    by_cases hb : t b
    · rw [if_pos hb] at h; exact ih h
    · rw [if_neg hb] at h
      have := (List.cons.inj h).1
      rw [← this]; simpa using hb
theorem tk_dk (t : UInt8 → Bool) (l : B) : l.takeWhile t ++ l.dropWhile t = l := List.takeWhile_append_dropWhile
theorem dk_len (t : UInt8 → Bool) (l : B) : (l.takeWhile t).length + (l.dropWhile t).length = l.length := by
  have := congrArg List.length (tk_dk t l)
  rwa [List.length_append] at this
theorem drop_dk (t : UInt8 → Bool) (l : B) : l.drop (l.takeWhile t).length = l.dropWhile t := by
  have := List.drop_left (l₁ := l.takeWhile t) (l₂ := l.dropWhile t)
  rwa [tk_dk] at this
theorem take_tk (t : UInt8 → Bool) (l : B) : l.take (l.takeWhile t).length = l.takeWhile t := by
  have := List.take_left (l₁ := l.takeWhile t) (l₂ := l.dropWhile t)
  rwa [tk_dk] at this
theorem fst_true {cs l : B} (h : fst cs l = true) : ∃ c r, l = c :: r ∧ cs.contains c = true := by
  cases l with
  | nil => simp [fst] at h
  | cons c r => exact ⟨c, r, rfl, h⟩
/-- two disjoint sets cannot both hold the first byte -/
theorem fst_not {cs ds l : B} (h : fst cs l = true) (hd : ∀ c, cs.contains c = true → ds.contains c = false) : fst ds l = false := by
  obtain ⟨c, r, rfl, hc⟩ := fst_true h
  exact hd c hc
theorem tk_nil_of {t : UInt8 → Bool} {l : B} (h : l.takeWhile t = []) : l.dropWhile t = l := by
  have := tk_dk t l
  rw [h] at this; simpa using this
theorem isEmpty_iff {l : B} : l.isEmpty = true ↔ l = [] := by cases l <;> simp
theorem has_false {p : Pc} : p.has = false ↔ p.ahead = [] ∧ p.behind = [] := by
  unfold Pc.has
  cases p.ahead <;> cases p.behind <;> simp
theorem has_true {p : Pc} : p.has = true ↔ ¬ (p.ahead = [] ∧ p.behind = []) := by
  rw [← has_false]; cases p.has <;> simp
/-- 0x ahead: the digits are a lone 0 -/
theorem hex_zero {l : B} (h : (fst [48] l && fst [120, 88] l.tail) = true) : tkD l = [48] ∧ dkD l = l.tail := by
  rw [Bool.and_eq_true] at h
  obtain ⟨c, r, rfl, hc⟩ := fst_true h.1
  have hc' : c = 48 := by simpa using hc
  obtain ⟨d, q, e, hd⟩ := fst_true h.2
  have e' : r = d :: q := e
  subst hc'; subst e'
  have hd2 : isD d = false := by
    have : d = 120 ∨ d = 88 := by simpa using hd
    rcases this with rfl | rfl <;> rfl
  have h48 : isD 48 = true := rfl
  constructor
  · unfold tkD; rw [List.takeWhile_cons, h48]; simp only [↓reduceIte]
    rw [List.takeWhile_cons, hd2]; rfl
  · unfold dkD; rw [List.dropWhile_cons, h48]; simp only [↓reduceIte]
    rw [List.dropWhile_cons, hd2]; rfl
theorem zero_hex {l : B} (h : tkD l = [48]) : fst [48] l = true ∧ dkD l = l.tail := by
  have e := tk_dk isD l
  change tkD l ++ dkD l = l at e
  rw [h] at e
  rw [← e]
  refine ⟨rfl, ?_⟩
  change _ = dkD l
  rw [e]
theorem dis (cs ds : B) (h : cs.all (fun c => !ds.contains c) = true) : ∀ c, cs.contains c = true → ds.contains c = false := by
  intro c hc
  have := List.all_eq_true.mp h c (by simpa using hc)
  simpa using this
theorem refE_lt {cs : B} {p q : Pc} {l : B} (h : refE cs p l = some q) : p.stop < q.stop := by
  unfold refE at h
  split at h
  · split at h
    · cases h
    · cases h; show p.stop < p.stop + 1 + _; omega
  · cases h
theorem refParts_lt {t : UInt8 → Bool} {p q : Pc} {l r : B} (h : refParts t p l = some (q, r)) : p.stop < q.stop := by
  unfold refParts at h
  simp only at h
  split at h
  · split at h
    · cases h
    · cases h; show p.stop < p.stop + _ + 1 + _; omega
  · split at h
    · cases h
    · rename_i hn
      cases h
      show p.stop < p.stop + _
      have : (List.takeWhile t l).length ≠ 0 := fun e => hn (List.length_eq_zero_iff.mp e)
      omega
theorem finE_ref (cs : B) (rd wh : Pc) (k : Nat) (l : B) (hk : k = rd.stop + 1) (hf : fst cs l = true) : finE rd wh k l.tail = (refE cs rd l).getD wh := by
  unfold finE refE
  rw [if_pos hf]
  split
  · rfl
  · subst hk; rfl
theorem parts_point {t : UInt8 → Bool} (p : Pc) {l : B} (h : fst [46] (l.dropWhile t) = true) (hn : ¬ (l.takeWhile t = [] ∧ (l.dropWhile t).tail.takeWhile t = [])) :
    refParts t p l = some ({ p with ahead := l.takeWhile t, behind := (l.dropWhile t).tail.takeWhile t, stop := p.stop + (l.takeWhile t).length + 1 + ((l.dropWhile t).tail.takeWhile t).length }, (l.dropWhile t).tail.dropWhile t) := by
  unfold refParts
  simp only
  rw [if_pos h, if_neg hn]
theorem parts_point_none {t : UInt8 → Bool} (p : Pc) {l : B} (h : fst [46] (l.dropWhile t) = true) (hn : l.takeWhile t = [] ∧ (l.dropWhile t).tail.takeWhile t = []) :
    refParts t p l = none := by
  unfold refParts
  simp only
  rw [if_pos h, if_pos hn]
theorem parts_plain {t : UInt8 → Bool} (p : Pc) {l : B} (h : ¬ fst [46] (l.dropWhile t) = true) (hn : ¬ l.takeWhile t = []) :
    refParts t p l = some ({ p with ahead := l.takeWhile t, behind := [], stop := p.stop + (l.takeWhile t).length }, l.dropWhile t) := by
  unfold refParts
  simp only
  rw [if_neg h, if_neg hn]
theorem parts_plain_none {t : UInt8 → Bool} (p : Pc) {l : B} (h : ¬ fst [46] (l.dropWhile t) = true) (hn : l.takeWhile t = []) :
    refParts t p l = none := by
  unfold refParts
  simp only
  rw [if_neg h, if_pos hn]
theorem dec_some {neg : Bool} {k : Nat} {l r : B} {p : Pc} (h : refParts isD ⟨1, neg, [], [], [], [], k⟩ l = some (p, r)) : refDec neg k l = some ((refE [101, 69] p r).getD p) := by
  unfold refDec; rw [h]
theorem dec_none {neg : Bool} {k : Nat} {l : B} (h : refParts isD ⟨1, neg, [], [], [], [], k⟩ l = none) : refDec neg k l = none := by
  unfold refDec; rw [h]
theorem hex_some {neg : Bool} {k : Nat} {l r : B} {p : Pc} (hc : (fst [48] l && fst [120, 88] l.tail) = true) (h : refParts isH ⟨2, neg, [], [], [], [], k + 2⟩ l.tail.tail = some (p, r)) : refHex neg k l = refE [112, 80] p r := by
  unfold refHex; rw [if_pos hc, h]
theorem hex_none {neg : Bool} {k : Nat} {l : B} (hc : (fst [48] l && fst [120, 88] l.tail) = true) (h : refParts isH ⟨2, neg, [], [], [], [], k + 2⟩ l.tail.tail = none) : refHex neg k l = none := by
  unfold refHex; rw [if_pos hc, h]
/-- without a kind of its own there is none -/
theorem refAll_eq (neg : Bool) (k : Nat) (l : B) : refAll neg k l = optOf (finSign ⟨0, neg, [], [], [], [], 0⟩ Pc.zero k l) := by
  by_cases ha : tkD l = []
  · have hdk : dkD l = l := tk_nil_of ha
    have hx : refHex neg k l = none := by
      unfold refHex
      split
      · rename_i h
        have := (hex_zero h).1
        rw [ha] at this; cases this
      · rfl
    have hr : refRat neg k l = none := by unfold refRat; rw [if_pos ha]
    unfold refAll
    rw [hx, hr]
    unfold finSign
    simp only [ha, Pc.has, List.isEmpty_nil, Bool.not_true, Bool.or_self, Bool.false_eq_true, if_false, hdk, List.length_nil, Nat.add_zero]
    have hdl : l.dropWhile isD = l := hdk
    have hal : l.takeWhile isD = [] := ha
    by_cases hp : fst [46] l = true
    · rw [if_pos hp]
      have hp' : fst [46] (l.dropWhile isD) = true := by rw [hdl]; exact hp
      unfold finPoint
      simp only [Pc.has, List.isEmpty_nil, Bool.not_true, Bool.false_or]
      by_cases hq : tkD l.tail = []
      · rw [dec_none (parts_point_none _ hp' ⟨hal, by rw [hdl]; exact hq⟩), hq]; rfl
      · have hq' : (tkD l.tail).isEmpty = false := by
          cases h : tkD l.tail with
          | nil => exact absurd h hq
          | cons _ _ => rfl
        simp only [hq', Bool.not_false, Bool.true_eq_false, if_false]
        rw [dec_some (parts_point _ hp' (fun h => hq (by have := h.2; rw [hdl] at this; exact this)))]
        simp only [hdl, hal, List.length_nil, Nat.add_zero]
        change better (better (some ((refE [101, 69] ⟨1, neg, [], tkD l.tail, [], [], k + 1 + (tkD l.tail).length⟩ (dkD l.tail)).getD ⟨1, neg, [], tkD l.tail, [], [], k + 1 + (tkD l.tail).length⟩)) none) none = _
        by_cases he : fst [101, 69] (dkD l.tail) = true
        · rw [if_pos he, finE_ref [101, 69] _ _ _ _ rfl he]
          unfold optOf
          rw [if_neg]
          · rfl
          · unfold refE
            rw [if_pos he]
            split <;> (intro h; cases h)
        · rw [if_neg he]
          unfold refE
          rw [if_neg he]
          rfl
    · rw [if_neg hp, dec_none (parts_plain_none _ (by rw [hdl]; exact hp) hal)]
      rfl
  · have ha' : (tkD l).isEmpty = false := by
      cases h : tkD l with
      | nil => exact absurd h ha
      | cons _ _ => rfl
    unfold finSign
    simp only [Pc.has, ha', Bool.not_false, Bool.true_or, if_true]
    unfold finDigits
    by_cases hp : fst [46] (dkD l) = true
    · rw [if_pos hp]
      have hx : refHex neg k l = none := by
        unfold refHex
        split
        · rename_i h
          have h2 := (hex_zero h).2
          rw [h2] at hp
          rw [Bool.and_eq_true] at h
          have := fst_not h.2 (dis [120, 88] [46] rfl)
          rw [hp] at this; cases this
        · rfl
      have hr : refRat neg k l = none := by
        unfold refRat
        rw [if_neg ha, if_neg]
        rw [fst_not hp (dis [46] [47] rfl)]; simp
      unfold refAll
      rw [hx, hr]
      rw [dec_some (parts_point _ hp (fun h => ha h.1))]
      unfold finPoint
      simp only [Pc.has, ha', Bool.not_false, Bool.true_or, Bool.true_eq_false, if_false]
      change better (better (some ((refE [101, 69] ⟨1, neg, tkD l, tkD (dkD l).tail, [], [], k + (tkD l).length + 1 + (tkD (dkD l).tail).length⟩ (dkD (dkD l).tail)).getD ⟨1, neg, tkD l, tkD (dkD l).tail, [], [], k + (tkD l).length + 1 + (tkD (dkD l).tail).length⟩)) none) none = _
      by_cases he : fst [101, 69] (dkD (dkD l).tail) = true
      · rw [if_pos he, finE_ref [101, 69] _ _ _ _ rfl he]
        unfold optOf
        rw [if_neg]
        · rfl
        · unfold refE
          rw [if_pos he]
          split <;> (intro h; cases h)
      · rw [if_neg he]
        unfold refE
        rw [if_neg he]
        rfl
    · rw [if_neg hp]
      have hd : refDec neg k l = some ((refE [101, 69] ⟨1, neg, tkD l, [], [], [], k + (tkD l).length⟩ (dkD l)).getD ⟨1, neg, tkD l, [], [], [], k + (tkD l).length⟩) := by
        rw [dec_some (parts_plain _ hp ha)]
        rfl
      by_cases he : fst [101, 69] (dkD l) = true
      · rw [if_pos he]
        have hx : refHex neg k l = none := by
          unfold refHex
          split
          · rename_i h
            have h2 := (hex_zero h).2
            rw [h2] at he
            rw [Bool.and_eq_true] at h
            have := fst_not h.2 (dis [120, 88] [101, 69] rfl)
            rw [he] at this; cases this
          · rfl
        have hr : refRat neg k l = none := by
          unfold refRat
          rw [if_neg ha, if_neg]
          rw [fst_not he (dis [101, 69] [47] rfl)]; simp
        unfold refAll
        rw [hx, hr, hd, finE_ref [101, 69] _ _ _ _ rfl he]
        unfold optOf
        rw [if_neg]
        · rfl
        · unfold refE
          rw [if_pos he]
          split <;> (intro h; cases h)
      · rw [if_neg he]
        have hd2 : refDec neg k l = some ⟨1, neg, tkD l, [], [], [], k + (tkD l).length⟩ := by
          rw [hd]; unfold refE; rw [if_neg he]; rfl
        by_cases hs : fst [47] (dkD l) = true
        · rw [if_pos hs]
          have hx : refHex neg k l = none := by
            unfold refHex
            split
            · rename_i h
              have h2 := (hex_zero h).2
              rw [h2] at hs
              rw [Bool.and_eq_true] at h
              have := fst_not h.2 (dis [120, 88] [47] rfl)
              rw [hs] at this; cases this
            · rfl
          unfold refAll
          rw [hx, hd2]
          unfold refRat finSlash
          rw [if_neg ha, if_pos hs]
          by_cases hq : tkD (dkD l).tail = []
          · rw [if_pos hq, if_pos hq]; rfl
          · rw [if_neg hq, if_neg hq]
            show (if k + (tkD l).length < k + (tkD l).length + 1 + (tkD (dkD l).tail).length then _ else _) = _
            rw [if_pos (by omega)]
            rfl
        · rw [if_neg hs]
          have hr : refRat neg k l = none := by
            unfold refRat
            rw [if_neg ha, if_neg hs]
          unfold refAll
          rw [hr, hd2]
          by_cases hz : (decide (tkD l = [48]) && fst [120, 88] (dkD l)) = true
          · rw [if_pos hz]
            rw [Bool.and_eq_true, decide_eq_true_eq] at hz
            obtain ⟨z1, z2⟩ := zero_hex hz.1
            have hz2 := hz.2
            rw [z2] at hz2
            have hc : (fst [48] l && fst [120, 88] l.tail) = true := by rw [z1, hz2]; rfl
            rw [hz.1, z2]
            unfold finX
            simp only [List.length_cons, List.length_nil]
            by_cases hpp : fst [46] (dkH l.tail.tail) = true
            · rw [if_pos hpp]
              unfold finHexPoint
              by_cases hq : tkH l.tail.tail = [] ∧ tkH (dkH l.tail.tail).tail = []
              · rw [hex_none hc (parts_point_none _ hpp hq)]
                simp only [Pc.has, hq.1, hq.2, List.isEmpty_nil, Bool.not_true, Bool.or_self, Bool.false_and, Bool.false_eq_true, if_false]
                rfl
              · rw [hex_some hc (parts_point _ hpp hq)]
                have hhas : (!(tkH l.tail.tail).isEmpty || !(tkH (dkH l.tail.tail).tail).isEmpty) = true := by
                  cases h1 : tkH l.tail.tail with
                  | cons _ _ => rfl
                  | nil =>
                    cases h2 : tkH (dkH l.tail.tail).tail with
                    | cons _ _ => rfl
                    | nil => exact absurd ⟨h1, h2⟩ hq
                simp only [Pc.has, hhas, Bool.true_and]
                change better (better _ (refE [112, 80] ⟨2, neg, tkH l.tail.tail, tkH (dkH l.tail.tail).tail, [], [], k + 2 + (tkH l.tail.tail).length + 1 + (tkH (dkH l.tail.tail).tail).length⟩ (dkH (dkH l.tail.tail).tail))) none = _
                by_cases hE : fst [112, 80] (dkH (dkH l.tail.tail).tail) = true
                · rw [if_pos hE]
                  unfold refE finE
                  rw [if_pos hE]
                  by_cases hX : expoL (dkH (dkH l.tail.tail).tail).tail = []
                  · rw [if_pos hX, if_pos hX]; rfl
                  · rw [if_neg hX, if_neg hX]
                    unfold better
                    simp only
                    rw [if_pos (by omega)]
                    rfl
                · rw [if_neg hE]
                  unfold refE
                  rw [if_neg hE]
                  rfl
            · rw [if_neg hpp]
              by_cases hq : tkH l.tail.tail = []
              · rw [hex_none hc (parts_plain_none _ hpp hq)]
                simp only [Pc.has, hq, List.isEmpty_nil, Bool.not_true, Bool.or_self, Bool.false_and, Bool.false_eq_true, if_false]
                rfl
              · rw [hex_some hc (parts_plain _ hpp hq)]
                have hhas : (!(tkH l.tail.tail).isEmpty || !([] : B).isEmpty) = true := by
                  cases h1 : tkH l.tail.tail with
                  | cons _ _ => rfl
                  | nil => exact absurd h1 hq
                simp only [Pc.has, hhas, Bool.true_and]
                change better (better _ (refE [112, 80] ⟨2, neg, tkH l.tail.tail, [], [], [], k + 2 + (tkH l.tail.tail).length⟩ (dkH l.tail.tail))) none = _
                by_cases hE : fst [112, 80] (dkH l.tail.tail) = true
                · rw [if_pos hE]
                  unfold refE finE
                  rw [if_pos hE]
                  by_cases hX : expoL (dkH l.tail.tail).tail = []
                  · rw [if_pos hX, if_pos hX]; rfl
                  · rw [if_neg hX, if_neg hX]
                    unfold better
                    simp only
                    rw [if_pos (by omega)]
                    rfl
                · rw [if_neg hE]
                  unfold refE
                  rw [if_neg hE]
                  rfl
          · rw [if_neg hz]
            have hx : refHex neg k l = none := by
              unfold refHex
              split
              · rename_i h
                obtain ⟨h1, h2⟩ := hex_zero h
                rw [Bool.and_eq_true] at h
                exfalso
                apply hz
                rw [h1, h2, h.2]; rfl
              · rfl
            rw [hx]
            rfl
theorem scan_eq (l : B) : refScanL l = optOf (longestL l) := by
  unfold refScanL longestL finStart
  by_cases h1 : fst [45] l = true
  · have : fst [43, 45] l = true := by
      obtain ⟨c, r, rfl, hc⟩ := fst_true h1
      have : c = 45 := by simpa using hc
      subst this; rfl
    rw [if_pos this, if_pos h1, h1]
    exact refAll_eq true 1 l.tail
  · have h1' : fst [45] l = false := by simpa using h1
    rw [if_neg h1]
    by_cases h2 : fst [43] l = true
    · have : fst [43, 45] l = true := by
        obtain ⟨c, r, rfl, hc⟩ := fst_true h2
        have : c = 43 := by simpa using hc
        subst this; rfl
      rw [if_pos this, if_pos h2, h1']
      exact refAll_eq false 1 l.tail
    · rw [if_neg h2, if_neg]
      · exact refAll_eq false 0 l
      · intro h
        obtain ⟨c, r, rfl, hc⟩ := fst_true h
        have : c = 43 ∨ c = 45 := by simpa using hc
        rcases this with rfl | rfl
        · exact h2 rfl
        · exact h1 rfl
end Lx
end Go.Proofs.YtnnpakllehldhabGreatDoor

/- What the pieces of a numeral say. -/
namespace Go.Proofs.YtnnpakllehldhabGreatDoor
set_option linter.unusedVariables false
namespace Lx
/-- a numeral as it is kept -/
structure Nm where
  kind : Int
  neg : Bool
  num : B
  exp : Int
  den : B
/-- a small letter for a capital -/
def lowB (b : UInt8) : UInt8 := if 65 ≤ b.toNat ∧ b.toNat ≤ 90 then UInt8.ofNat (b.toNat + 32) else b
def lowF (b : UInt8) : UInt8 := if 65 ≤ b.toNat ∧ b.toNat ≤ 70 then UInt8.ofNat (b.toNat + 32) else b
def strip (l : B) : B := (l.dropWhile (fun b => [48].contains b)).map lowB
def bareR (l : B) : B := (l.dropWhile (fun b => [48].contains b)).map lowF
def stepP (n : Int) (d : UInt8) : Int := if n < 2147483648 then 10 * n + ((d.toNat : Int) - 48) else n
def stepR (n : Int) (d : UInt8) : Int := if 4294967296 < n * 10 + ((d.toNat : Int) - 48) then 4294967296 else n * 10 + ((d.toNat : Int) - 48)
/-- the digits of an exponent -/
def expD (l : B) : B := l.dropWhile (fun b => [43, 45].contains b)
def expoN (l : B) : Int := if fst [45] l then - (expD l).foldl stepP 0 else (expD l).foldl stepP 0
def heldI (e : Int) : Int := if (if e < 1073741824 then e else 1073741824) < -1073741824 then -1073741824 else (if e < 1073741824 then e else 1073741824)
def numOf (p : Pc) : Nm := ⟨p.kind, p.neg, strip (p.ahead ++ p.behind),
  if p.kind = 1 then heldI (expoN p.expo - p.behind.length) else if p.kind = 2 then heldI (expoN p.expo - 4 * p.behind.length) else 0, strip p.den⟩
/-- the document's exponent -/
def expoR (l : B) : Int := if l.contains 45 then - (l.filter isD).foldl stepR 0 else (l.filter isD).foldl stepR 0
def heldR (n : Int) : Int := if 1073741824 < n then 1073741824 else if n < -1073741824 then -1073741824 else n
/-- an exponent as written: none, or digits behind at most one sign -/
def ExpoOk (l : B) : Prop := l = [] ∨ ∃ sg ds, l = sg ++ ds ∧ (sg = [] ∨ sg = [43] ∨ sg = [45]) ∧ ds ≠ [] ∧ ds.all isD = true
structure Ok (n : Nat) (p : Pc) : Prop where
  ahead : p.ahead.all isH = true
  behind : p.behind.all isH = true
  expo : ExpoOk p.expo
  den : p.den.all isD = true
  la : p.ahead.length ≤ n
  lb : p.behind.length ≤ n
  le : p.expo.length ≤ n
  ld : p.den.length ≤ n
  st : p.stop ≤ n
  kd : p.kind = 0 ∨ p.kind = 1 ∨ p.kind = 2 ∨ p.kind = 3
theorem all_tk (t : UInt8 → Bool) (l : B) : (l.takeWhile t).all t = true := by
  induction l with
  | nil => rfl
  | cons b r ih =>
    rw [List.takeWhile_cons]
    by_cases h : t b
    · rw [if_pos h, List.all_cons, h, ih]; rfl
    · rw [if_neg h]; rfl
theorem isH_of {b : UInt8} (h : isD b = true) : isH b = true := by unfold isH; rw [h]; rfl
theorem all_mono {s t : UInt8 → Bool} (h : ∀ b, s b = true → t b = true) {l : B} (hl : l.all s = true) : l.all t = true :=
  List.all_eq_true.mpr fun b hb => h b (List.all_eq_true.mp hl b hb)
theorem allD_tk (l : B) : (tkD l).all isD = true := all_tk isD l
theorem allH_tkD (l : B) : (tkD l).all isH = true := all_mono (fun _ => isH_of) (allD_tk l)
theorem allH_tk (l : B) : (tkH l).all isH = true := all_tk isH l
theorem tkD_le (l : B) : (tkD l).length + (dkD l).length = l.length := dk_len isD l
theorem tkH_le (l : B) : (tkH l).length + (dkH l).length = l.length := dk_len isH l
theorem tail_len {cs l : B} (h : fst cs l = true) : l.tail.length + 1 = l.length := by
  obtain ⟨c, r, rfl, _⟩ := fst_true h; rfl
theorem expo_ok (l : B) : ExpoOk (expoL l) := by
  unfold expoL
  split
  · rename_i h
    split
    · exact Or.inl rfl
    · rename_i hn
      obtain ⟨c, r, rfl, hc⟩ := fst_true h
      refine Or.inr ⟨[c], tkD r, rfl, ?_, hn, allD_tk r⟩
      have : c = 43 ∨ c = 45 := by simpa using hc
      rcases this with rfl | rfl
      · exact Or.inr (Or.inl rfl)
      · exact Or.inr (Or.inr rfl)
  · by_cases hn : tkD l = []
    · exact Or.inl hn
    · exact Or.inr ⟨[], tkD l, rfl, Or.inl rfl, hn, allD_tk l⟩
theorem expo_le (l : B) : (expoL l).length ≤ l.length := by
  unfold expoL
  split
  · rename_i h
    split
    · simp
    · have h1 := tail_len h
      have h2 := tkD_le l.tail
      rw [List.length_append, List.length_take]; omega
  · have := tkD_le l; omega
theorem Ok.zero (n : Nat) : Ok n Pc.zero := ⟨rfl, rfl, Or.inl rfl, rfl, Nat.zero_le _, Nat.zero_le _, Nat.zero_le _, Nat.zero_le _, Nat.zero_le _, Or.inl rfl⟩
theorem ok_finE {n : Nat} {rd wh : Pc} {k : Nat} {l : B} (h1 : Ok n rd) (h2 : Ok n wh) (hk : k + l.length ≤ n) : Ok n (finE rd wh k l) := by
  unfold finE
  split
  · exact h2
  · have := expo_le l
    exact ⟨h1.ahead, h1.behind, expo_ok l, h1.den, h1.la, h1.lb, by show (expoL l).length ≤ n; omega, h1.ld, by show k + (expoL l).length ≤ n; omega, h1.kd⟩
theorem ok_finSlash {n : Nat} {rd wh : Pc} {k : Nat} {l : B} (h1 : Ok n rd) (h2 : Ok n wh) (hk : k + l.length ≤ n) : Ok n (finSlash rd wh k l) := by
  unfold finSlash
  split
  · exact h2
  · have := tkD_le l
    exact ⟨h1.ahead, h1.behind, h1.expo, allD_tk l, h1.la, h1.lb, h1.le, by show (tkD l).length ≤ n; omega, by show k + (tkD l).length ≤ n; omega, Or.inr (Or.inr (Or.inr rfl))⟩
theorem Ok.setBehind {n : Nat} {rd : Pc} (h1 : Ok n rd) {b : B} (hb : b.all isH = true) (hl : b.length ≤ n) : Ok n { rd with behind := b } :=
  ⟨h1.ahead, hb, h1.expo, h1.den, h1.la, hl, h1.le, h1.ld, h1.st, h1.kd⟩
theorem Ok.setStop {n : Nat} {rd : Pc} (h1 : Ok n rd) {k : Nat} (hl : k ≤ n) : Ok n { rd with stop := k } :=
  ⟨h1.ahead, h1.behind, h1.expo, h1.den, h1.la, h1.lb, h1.le, h1.ld, hl, h1.kd⟩
theorem Ok.setAhead {n : Nat} {rd : Pc} (h1 : Ok n rd) {b : B} {k : Int} (hb : b.all isH = true) (hl : b.length ≤ n) (hk : k = 1 ∨ k = 2) : Ok n { rd with kind := k, ahead := b } :=
  ⟨hb, h1.behind, h1.expo, h1.den, hl, h1.lb, h1.le, h1.ld, h1.st, by rcases hk with rfl | rfl; exact Or.inr (Or.inl rfl); exact Or.inr (Or.inr (Or.inl rfl))⟩
theorem Ok.setNeg {n : Nat} {rd : Pc} (h1 : Ok n rd) (b : Bool) : Ok n { rd with neg := b } :=
  ⟨h1.ahead, h1.behind, h1.expo, h1.den, h1.la, h1.lb, h1.le, h1.ld, h1.st, h1.kd⟩
theorem ok_finPoint {n : Nat} {rd wh : Pc} {k : Nat} {l : B} (h1 : Ok n rd) (h2 : Ok n wh) (hk : k + l.length ≤ n) : Ok n (finPoint rd wh k l) := by
  have hl := tkD_le l
  have hb := (h1.setBehind (allH_tkD l) (by omega)).setStop (k := k + (tkD l).length) (by omega)
  unfold finPoint
  simp only
  split
  · exact h2
  · split
    · rename_i hf
      have := tail_len hf
      exact ok_finE hb hb (by omega)
    · exact hb
theorem ok_finHexPoint {n : Nat} {rd wh : Pc} {k : Nat} {l : B} (h1 : Ok n rd) (h2 : Ok n wh) (hk : k + l.length ≤ n) : Ok n (finHexPoint rd wh k l) := by
  have hl := tkH_le l
  have hb := (h1.setBehind (allH_tk l) (by omega))
  unfold finHexPoint
  simp only
  split
  · rename_i hf
    rw [Bool.and_eq_true] at hf
    have := tail_len hf.2
    exact ok_finE hb h2 (by omega)
  · exact h2
theorem ok_finX {n : Nat} {rd wh : Pc} {k : Nat} {l : B} (h1 : Ok n rd) (h2 : Ok n wh) (hk : k + l.length ≤ n) : Ok n (finX rd wh k l) := by
  have hl := tkH_le l
  have hb := (h1.setAhead (k := 2) (allH_tk l) (by omega) (Or.inr rfl))
  unfold finX
  simp only
  split
  · rename_i hf
    have := tail_len hf
    exact ok_finHexPoint hb h2 (by omega)
  · split
    · rename_i hf
      rw [Bool.and_eq_true] at hf
      have := tail_len hf.2
      exact ok_finE hb h2 (by omega)
    · exact h2
theorem ok_finDigits {n : Nat} {rd wh : Pc} {k : Nat} {l : B} (h1 : Ok n rd) (h2 : Ok n wh) (hk : k + l.length ≤ n) : Ok n (finDigits rd wh k l) := by
  unfold finDigits
  split
  · rename_i hf
    have := tail_len hf
    exact ok_finPoint h1 h2 (by omega)
  · split
    · rename_i hf
      have := tail_len hf
      exact ok_finE h1 h2 (by omega)
    · split
      · rename_i hf
        have := tail_len hf
        exact ok_finSlash h1 h2 (by omega)
      · split
        · rename_i hf
          rw [Bool.and_eq_true] at hf
          have := tail_len hf.2
          exact ok_finX h1 h2 (by omega)
        · exact h2
theorem ok_finSign {n : Nat} {rd wh : Pc} {k : Nat} {l : B} (h1 : Ok n rd) (h2 : Ok n wh) (hk : k + l.length ≤ n) : Ok n (finSign rd wh k l) := by
  have hl := tkD_le l
  have hb := (h1.setAhead (k := 1) (allH_tkD l) (by omega) (Or.inl rfl))
  have hb2 := hb.setStop (k := k + (tkD l).length) (by omega)
  unfold finSign
  simp only
  split
  · exact ok_finDigits hb2 hb2 (by omega)
  · split
    · rename_i hf
      have := tail_len hf
      exact ok_finPoint hb h2 (by omega)
    · exact h2
theorem ok_longest (l : B) : Ok l.length (longestL l) := by
  unfold longestL finStart
  have hz := Ok.zero l.length
  split
  · rename_i hf
    have := tail_len hf
    exact ok_finSign (hz.setNeg true) hz (by omega)
  · split
    · rename_i hf
      have := tail_len hf
      exact ok_finSign (hz.setNeg false) hz (by omega)
    · exact ok_finSign (hz.setNeg false) hz (by omega)
/-- small letters: the same for hex digits -/
theorem low_same {b : UInt8} (h : isH b = true) : lowB b = lowF b := by
  unfold lowB lowF
  unfold isH isD at h
  simp only [Bool.or_eq_true, Bool.and_eq_true, decide_eq_true_eq] at h
  by_cases h1 : 65 ≤ b.toNat ∧ b.toNat ≤ 90
  · rw [if_pos h1, if_pos (by omega)]
  · rw [if_neg h1, if_neg (by omega)]
theorem all_dk {t s : UInt8 → Bool} {l : B} (h : l.all t = true) : (l.dropWhile s).all t = true :=
  List.all_eq_true.mpr fun b hb => List.all_eq_true.mp h b ((List.dropWhile_suffix s).subset hb)
theorem strip_same {l : B} (h : l.all isH = true) : strip l = bareR l := by
  unfold strip bareR
  apply List.map_congr_left
  intro b hb
  exact low_same (List.all_eq_true.mp (all_dk h) b hb)
/-- both ways of reckoning an exponent: the same, or both far off -/
theorem fold_same (ds : B) (h : ds.all isD = true) : ∀ n m : Int, 0 ≤ n → 0 ≤ m → n ≤ 21474836489 → m ≤ 4294967296 → ((n = m ∧ n < 2147483648) ∨ (2147483648 ≤ n ∧ 2147483648 ≤ m)) →
    0 ≤ ds.foldl stepP n ∧ ds.foldl stepP n ≤ 21474836489 ∧ 0 ≤ ds.foldl stepR m ∧ ds.foldl stepR m ≤ 4294967296 ∧ ((ds.foldl stepP n = ds.foldl stepR m ∧ ds.foldl stepP n < 2147483648) ∨ (2147483648 ≤ ds.foldl stepP n ∧ 2147483648 ≤ ds.foldl stepR m)) := by
  induction ds with
  | nil => intro n m h1 h2 h3 h4 h5; simp only [List.foldl_nil]; omega
  | cons d r ih =>
    intro n m h1 h2 h3 h4 h5
    rw [List.all_cons, Bool.and_eq_true] at h
    have hd : 48 ≤ d.toNat ∧ d.toNat ≤ 57 := by
      have := h.1; unfold isD at this; simpa using this
    simp only [List.foldl_cons]
    have hs : 0 ≤ stepP n d ∧ 0 ≤ stepR m d ∧ stepP n d ≤ 21474836489 ∧ stepR m d ≤ 4294967296 ∧ ((stepP n d = stepR m d ∧ stepP n d < 2147483648) ∨ (2147483648 ≤ stepP n d ∧ 2147483648 ≤ stepR m d)) := by
      unfold stepP stepR
      split <;> split <;> omega
    exact ih h.2 (stepP n d) (stepR m d) hs.1 hs.2.1 hs.2.2.1 hs.2.2.2.1 hs.2.2.2.2
theorem dk_none {t : UInt8 → Bool} {l : B} (h : ∀ c r, l = c :: r → t c = false) : l.dropWhile t = l := by
  cases l with
  | nil => rfl
  | cons c r => rw [List.dropWhile_cons, h c r rfl]; rfl
theorem digit_not {c : UInt8} (h : isD c = true) : ([43, 45] : B).contains c = false ∧ ([45] : B).contains c = false ∧ c ≠ 45 := by
  unfold isD at h
  simp only [Bool.and_eq_true, decide_eq_true_eq] at h
  have h1 : c ≠ 45 := by rintro rfl; simp at h
  have h2 : c ≠ 43 := by rintro rfl; simp at h
  simp [h1, h2]
theorem expD_digits {ds : B} (h : ds.all isD = true) : expD ds = ds := by
  apply dk_none
  rintro c r rfl
  rw [List.all_cons, Bool.and_eq_true] at h
  exact (digit_not h.1).1
theorem filter_digits {ds : B} (h : ds.all isD = true) : ds.filter isD = ds := List.filter_eq_self.mpr (List.all_eq_true.mp h)
theorem contains_digits {ds : B} (h : ds.all isD = true) : ds.contains 45 = false := by
  induction ds with
  | nil => rfl
  | cons c r ih =>
    rw [List.all_cons, Bool.and_eq_true] at h
    rw [List.contains_cons, ih h.2]
    have := (digit_not h.1).2.2
    simp [Ne.symm this]
theorem fst_digits {ds : B} (h : ds.all isD = true) : fst [45] ds = false := by
  cases ds with
  | nil => rfl
  | cons c r =>
    rw [List.all_cons, Bool.and_eq_true] at h
    exact (digit_not h.1).2.1
/-- the digits of a written exponent, and whether it has a minus -/
theorem expo_form {l : B} (h : ExpoOk l) : (expD l).all isD = true ∧ l.filter isD = expD l ∧ l.contains 45 = fst [45] l := by
  rcases h with rfl | ⟨sg, ds, rfl, hs, hn, hd⟩
  · exact ⟨rfl, rfl, rfl⟩
  · rcases hs with rfl | rfl | rfl
    · rw [List.nil_append, expD_digits hd, filter_digits hd, contains_digits hd, fst_digits hd]
      exact ⟨hd, rfl, rfl⟩
    · have e : expD ([43] ++ ds) = ds := by
        unfold expD
        rw [List.singleton_append, List.dropWhile_cons]
        exact expD_digits hd
      rw [e]
      refine ⟨hd, ?_, ?_⟩
      · rw [List.singleton_append, List.filter_cons]; exact filter_digits hd
      · rw [List.singleton_append, List.contains_cons, contains_digits hd]; rfl
    · have e : expD ([45] ++ ds) = ds := by
        unfold expD
        rw [List.singleton_append, List.dropWhile_cons]
        exact expD_digits hd
      rw [e]
      refine ⟨hd, ?_, ?_⟩
      · rw [List.singleton_append, List.filter_cons]; exact filter_digits hd
      · rw [List.singleton_append, List.contains_cons]; rfl
theorem expo_bound {l : B} (h : ExpoOk l) : -21474836489 ≤ expoN l ∧ expoN l ≤ 21474836489 := by
  obtain ⟨h1, h2, h3⟩ := expo_form h
  have := fold_same (expD l) h1 0 0 (by decide) (by decide) (by decide) (by decide) (Or.inl ⟨rfl, by decide⟩)
  unfold expoN
  split <;> omega
theorem expo_same {l : B} (h : ExpoOk l) {k : Int} (h0 : 0 ≤ k) (hk : k ≤ 1000000000) : heldI (expoN l - k) = heldR (expoR l - k) := by
  obtain ⟨h1, h2, h3⟩ := expo_form h
  have := fold_same (expD l) h1 0 0 (by decide) (by decide) (by decide) (by decide) (Or.inl ⟨rfl, by decide⟩)
  unfold expoN expoR
  rw [h2, h3]
  generalize List.foldl stepP 0 (expD l) = a at this
  generalize List.foldl stepR 0 (expD l) = b at this
  unfold heldI heldR
  cases fst [45] l
  · simp only [Bool.false_eq_true, if_false]
    split <;> split <;> (try split) <;> omega
  · simp only [if_true]
    split <;> split <;> (try split) <;> omega
/-- what the document makes of the pieces -/
def numR (p : Pc) : Nm := ⟨p.kind, p.neg, bareR (p.ahead ++ p.behind),
  if p.kind = 1 then heldR (expoR p.expo - p.behind.length) else if p.kind = 2 then heldR (expoR p.expo - 4 * p.behind.length) else 0, bareR p.den⟩
theorem num_same {n : Nat} {p : Pc} (h : Ok n p) (hn : n ≤ 100000000) : numOf p = numR p := by
  have e1 : strip (p.ahead ++ p.behind) = bareR (p.ahead ++ p.behind) := strip_same (by rw [List.all_append, h.ahead, h.behind]; rfl)
  have e2 : strip p.den = bareR p.den := strip_same (all_mono (fun _ => isH_of) h.den)
  have hb := h.lb
  unfold numOf numR
  rw [e1, e2, expo_same h.expo (by omega) (by omega), expo_same h.expo (by omega) (by omega)]
end Lx
end Go.Proofs.YtnnpakllehldhabGreatDoor

/- The longest numeral of a text that is written by its parts. -/
namespace Go.Proofs.YtnnpakllehldhabGreatDoor
set_option linter.unusedVariables false
namespace Lx
/-- what can't go on a numeral -/
def Stops (l : B) : Prop := ∀ c r, l = c :: r → isH c = false ∧ ([46, 47, 120, 88] : B).contains c = false
theorem Stops.nil : Stops [] := fun c r h => by cases h
theorem Stops.cons {c : UInt8} {r : B} (h : (isH c || ([46, 47, 120, 88] : B).contains c) = false) : Stops (c :: r) := by
  intro d q e
  cases e
  rw [Bool.or_eq_false_iff] at h
  exact h
theorem Stops.fst {l : B} (h : Stops l) {cs : B} (hc : cs.all (fun c => isH c || ([46, 47, 120, 88] : B).contains c) = true) : fst cs l = false := by
  cases l with
  | nil => rfl
  | cons c r =>
    rw [fst_cons]
    cases hh : cs.contains c with
    | false => rfl
    | true =>
      have := List.all_eq_true.mp hc c (by simpa using hh)
      obtain ⟨h1, h2⟩ := h c r rfl
      rw [h1, h2] at this; cases this
theorem isEmpty_ne {l : B} (h : l ≠ []) : l.isEmpty = false := by cases l with | nil => exact absurd rfl h | cons _ _ => rfl
end Lx
end Go.Proofs.YtnnpakllehldhabGreatDoor

/- Layer 18: tokens of a text, by numbers alone. -/
namespace Go.Proofs.YtnnpakllehldhabGreatDoor
set_option linter.unusedVariables false
open Lx
namespace Tk
def isBl (c : UInt8) : Bool := c == 32 || c == 9 || c == 10 || c == 13
def isLt (c : UInt8) : Bool := (decide (65 ≤ c.toNat) && decide (c.toNat ≤ 90)) || (decide (97 ≤ c.toNat) && decide (c.toNat ≤ 122))
/-- the kind of a byte -/
def kd (c : UInt8) : Int := if isBl c then 1 else if isLt c then 2 else if c = 40 then 3 else if c = 41 then 4 else if c = 44 then 5 else 0
def isK (k : Int) (c : UInt8) : Bool := kd c == k
/-- a capital for a small letter -/
def upB (c : UInt8) : UInt8 := if 97 ≤ c.toNat then c - 32 else c
def nmZ0 : Nm := ⟨0, false, [], 0, []⟩
/-- a token, or a wrong place (kind -1: the place is fr) -/
structure Ct where
  kind : Int
  fr : Nat
  to : Nat
  word : B
  num : Nm
def Ct.move (k : Nat) (c : Ct) : Ct := { c with fr := k + c.fr, to := k + c.to }
def Ct.bad (k : Nat) : Ct := ⟨-1, k, 0, [], nmZ0⟩
/-- may this stand behind a word or a number? -/
def shutB : B → Bool
  | [] => true
  | c :: _ => isBl c || c == 44 || c == 40 || c == 41
/-- a word or number, if it is shut -/
def shutC (r : B) (t : Ct) : Ct := if shutB (r.drop t.to) then t else Ct.bad t.to
/-- the token that begins at a byte -/
def tokB (c : UInt8) (q : B) : Ct :=
  if isLt c then shutC (c :: q) ⟨1, 0, ((c :: q).takeWhile isLt).length, ((c :: q).takeWhile isLt).map upB, nmZ0⟩
  else if c = 40 then ⟨2, 0, 1, [], nmZ0⟩
  else if c = 41 then ⟨3, 0, 1, [], nmZ0⟩
  else if c = 44 then ⟨4, 0, 1, [], nmZ0⟩
  else
    let p := longestL ((c :: q).take 65536)
    if p.kind = 0 then Ct.bad 0 else shutC (c :: q) ⟨5, 0, p.stop, [], numOf p⟩
/-- the token at the beginning of a rest of a text -/
def cutR (r : B) : Ct :=
  match r.dropWhile isBl with
  | [] => ⟨0, r.length, r.length, [], nmZ0⟩
  | c :: q => (tokB c q).move (r.takeWhile isBl).length
/-- all tokens of a rest that begins at place k, ahead of the end; or the wrong place -/
inductive Toks : Nat → B → List Ct → Option Nat → Prop
  | nil {k : Nat} {r : B} : (cutR r).kind = 0 → Toks k r [] none
  | bad {k : Nat} {r : B} : (cutR r).kind = -1 → Toks k r [] (some (k + (cutR r).fr))
  | cons {k : Nat} {r : B} {l : List Ct} {e : Option Nat} : 0 < (cutR r).kind → Toks (k + (cutR r).to) (r.drop (cutR r).to) l e → Toks k r ((cutR r).move k :: l) e
end Tk
end Go.Proofs.YtnnpakllehldhabGreatDoor

/- Layer 18: what stands at a place: facts. -/
namespace Go.Proofs.YtnnpakllehldhabGreatDoor
set_option linter.unusedVariables false
open Lx
namespace Tk
/-- a numeral that is none or has bytes -/
def Po (p : Pc) : Prop := p.kind ≠ 0 → 0 < p.stop
theorem po_finE {rd wh : Pc} {k : Nat} {l : B} (hk : 0 < k) (h : Po wh) : Po (finE rd wh k l) := by
  unfold finE
  split
  · exact h
  · intro _; show 0 < k + _; omega
theorem po_finSlash {rd wh : Pc} {k : Nat} {l : B} (hk : 0 < k) (h : Po wh) : Po (finSlash rd wh k l) := by
  unfold finSlash
  split
  · exact h
  · intro _; show 0 < k + _; omega
theorem po_finPoint {rd wh : Pc} {k : Nat} {l : B} (hk : 0 < k) (h : Po wh) : Po (finPoint rd wh k l) := by
  unfold finPoint
  simp only
  split
  · exact h
  · have h2 : Po { rd with behind := tkD l, stop := k + (tkD l).length } := fun _ => by show 0 < k + _; omega
    split
    · exact po_finE (by omega) h2
    · exact h2
theorem po_finHexPoint {rd wh : Pc} {k : Nat} {l : B} (hk : 0 < k) (h : Po wh) : Po (finHexPoint rd wh k l) := by
  unfold finHexPoint
  simp only
  split
  · exact po_finE (by omega) h
  · exact h
theorem po_finX {rd wh : Pc} {k : Nat} {l : B} (hk : 0 < k) (h : Po wh) : Po (finX rd wh k l) := by
  unfold finX
  simp only
  split
  · exact po_finHexPoint (by omega) h
  · split
    · exact po_finE (by omega) h
    · exact h
theorem po_finDigits {rd wh : Pc} {k : Nat} {l : B} (hk : 0 < k) (h : Po wh) : Po (finDigits rd wh k l) := by
  unfold finDigits
  split
  · exact po_finPoint (by omega) h
  · split
    · exact po_finE (by omega) h
    · split
      · exact po_finSlash (by omega) h
      · split
        · exact po_finX (by omega) h
        · exact h
theorem po_finSign {rd wh : Pc} {k : Nat} {l : B} (hb : rd.behind = []) (h : Po wh) : Po (finSign rd wh k l) := by
  unfold finSign
  simp only
  split
  · rename_i hh
    have hn : 0 < (tkD l).length := by
      rw [has_true] at hh
      apply Nat.pos_of_ne_zero
      intro e
      exact hh ⟨List.length_eq_zero_iff.mp e, hb⟩
    exact po_finDigits (by omega) (fun _ => by show 0 < k + _; omega)
  · split
    · exact po_finPoint (by omega) h
    · exact h
theorem longest_pos (l : B) : (longestL l).kind ≠ 0 → 0 < (longestL l).stop := by
  unfold longestL finStart
  have z : Po Pc.zero := fun h => absurd rfl h
  split
  · exact po_finSign rfl z
  · split
    · exact po_finSign rfl z
    · exact po_finSign rfl z
theorem longest_le (l : B) : (longestL l).stop ≤ l.length := (ok_longest l).st
/-- what may stand behind a word or a number -/
def isSp (c : UInt8) : Bool := isBl c || c == 44 || c == 40 || c == 41
theorem sp_cases {c : UInt8} (h : isSp c = true) : c = 32 ∨ c = 9 ∨ c = 10 ∨ c = 13 ∨ c = 44 ∨ c = 40 ∨ c = 41 := by
  unfold isSp isBl at h
  simp only [Bool.or_eq_true, beq_iff_eq] at h
  rcases h with (((((h | h) | h) | h) | h) | h) | h <;> simp [h]
theorem kd_cases (c : UInt8) : kd c = 0 ∨ kd c = 1 ∨ kd c = 2 ∨ kd c = 3 ∨ kd c = 4 ∨ kd c = 5 := by
  unfold kd
  split; · simp
  split; · simp
  split; · simp
  split; · simp
  split <;> simp
/-- the facts of a cut -/
structure CutF (r : B) (c : Ct) : Prop where
  kinds : c.kind = -1 ∨ c.kind = 0 ∨ c.kind = 1 ∨ c.kind = 2 ∨ c.kind = 3 ∨ c.kind = 4 ∨ c.kind = 5
  fr : c.fr ≤ r.length
  to : c.to ≤ r.length
  up : 0 < c.kind → c.fr < c.to
  nil : c.kind = 0 → c.fr = r.length ∧ c.to = r.length ∧ c.word = [] ∧ c.num = nmZ0
  bad : c.kind = -1 → c.fr < r.length
theorem shutC_len {r : B} {t : Ct} (h : shutB (r.drop t.to) = false) : t.to < r.length := by
  apply Decidable.byContradiction
  intro hc
  rw [List.drop_eq_nil_of_le (by omega)] at h
  cases h
theorem shutC_f {r : B} {t : Ct} (hk : 0 < t.kind) (hk5 : t.kind = 1 ∨ t.kind = 5) (hf : t.fr = 0) (ht : 0 < t.to) (hl : t.to ≤ r.length) : CutF r (shutC r t) := by
  unfold shutC
  by_cases h : shutB (r.drop t.to) = true
  · rw [if_pos h]
    exact ⟨by omega, by omega, hl, fun _ => by omega, fun e => by omega, fun e => by omega⟩
  · rw [if_neg h]
    have := shutC_len (r := r) (t := t) (by simpa using h)
    exact ⟨Or.inl rfl, by show t.to ≤ _; omega, Nat.zero_le _, fun e => by exact absurd e (by show ¬ (0 : Int) < -1; omega), fun e => by exact absurd e (by show ¬ (-1 : Int) = 0; omega), fun _ => this⟩
theorem tokB_f (c : UInt8) (q : B) : CutF (c :: q) (tokB c q) ∧ (tokB c q).kind ≠ 0 := by
  have one : ∀ k : Int, (k = 2 ∨ k = 3 ∨ k = 4) → CutF (c :: q) ⟨k, 0, 1, [], nmZ0⟩ := fun k hk =>
    ⟨by show k = -1 ∨ k = 0 ∨ k = 1 ∨ k = 2 ∨ k = 3 ∨ k = 4 ∨ k = 5; omega, Nat.zero_le _, by show 1 ≤ (c :: q).length; simp, fun _ => by show 0 < 1; omega, fun e => by have : k = 0 := e; omega, fun e => by have : k = -1 := e; omega⟩
  unfold tokB
  split
  · rename_i h
    have hp : 0 < ((c :: q).takeWhile isLt).length := by rw [List.takeWhile_cons, if_pos h]; simp
    have hl := dk_len isLt (c :: q)
    have hs := shutC_f (r := c :: q) (t := ⟨1, 0, ((c :: q).takeWhile isLt).length, ((c :: q).takeWhile isLt).map upB, nmZ0⟩) (by show (0 : Int) < 1; omega) (Or.inl rfl) rfl hp (by show ((c :: q).takeWhile isLt).length ≤ _; omega)
    refine ⟨hs, ?_⟩
    unfold shutC
    split
    · show (1 : Int) ≠ 0; omega
    · show (-1 : Int) ≠ 0; omega
  · split
    · exact ⟨one 2 (by omega), by show (2 : Int) ≠ 0; omega⟩
    · split
      · exact ⟨one 3 (by omega), by show (3 : Int) ≠ 0; omega⟩
      · split
        · exact ⟨one 4 (by omega), by show (4 : Int) ≠ 0; omega⟩
        · simp only
          split
          · exact ⟨⟨Or.inl rfl, Nat.zero_le _, Nat.zero_le _, fun e => by exact absurd e (by show ¬ (0 : Int) < -1; omega), fun e => by exact absurd e (by show ¬ (-1 : Int) = 0; omega), fun _ => by show 0 < (c :: q).length; simp⟩, by show (-1 : Int) ≠ 0; omega⟩
          · rename_i hk
            have h1 := longest_pos _ hk
            have h2 := longest_le ((c :: q).take 65536)
            have h3 : ((c :: q).take 65536).length ≤ (c :: q).length := by rw [List.length_take]; omega
            refine ⟨shutC_f (t := ⟨5, 0, (longestL ((c :: q).take 65536)).stop, [], numOf (longestL ((c :: q).take 65536))⟩) (by show (0 : Int) < 5; omega) (Or.inr rfl) rfl h1 (by show (longestL ((c :: q).take 65536)).stop ≤ _; omega), ?_⟩
            unfold shutC
            split
            · show (5 : Int) ≠ 0; omega
            · show (-1 : Int) ≠ 0; omega
theorem cut_f (r : B) : CutF r (cutR r) := by
  unfold cutR
  split
  · exact ⟨Or.inr (Or.inl rfl), Nat.le_refl _, Nat.le_refl _, fun e => by exact absurd e (by show ¬ (0 : Int) < 0; omega), fun _ => ⟨rfl, rfl, rfl, rfl⟩, fun e => by exact absurd e (by show ¬ (0 : Int) = -1; omega)⟩
  · rename_i c q he
    obtain ⟨hf, h0⟩ := tokB_f c q
    have hl := dk_len isBl r
    rw [he] at hl
    have a := hf.fr
    have b := hf.to
    refine ⟨hf.kinds, by show _ + (tokB c q).fr ≤ _; omega, by show _ + (tokB c q).to ≤ _; omega, fun e => ?_, fun e => absurd e h0, fun e => ?_⟩
    · have := hf.up e
      show _ + (tokB c q).fr < _ + (tokB c q).to; omega
    · have := hf.bad e
      show _ + (tokB c q).fr < _; omega
theorem Toks.len {k : Nat} {r : B} {l : List Ct} {e : Option Nat} (h : Toks k r l e) : l.length ≤ r.length := by
  induction h with
  | nil _ => simp
  | bad _ => simp
  | @cons k r l e hp _ ih =>
    have f := cut_f r
    have h1 := f.up hp
    have h2 := f.to
    rw [List.length_drop] at ih
    rw [List.length_cons]; omega
end Tk
end Go.Proofs.YtnnpakllehldhabGreatDoor

/- Layer 10: what Cut tells of a text of digits. -/
namespace Go.Proofs.YtnnpakllehldhabGreatDoor
set_option linter.unusedVariables false
namespace Lx
theorem trim_all (cs l : B) : (l.dropWhile (fun b => cs.contains b)) = [] ↔ ∀ b ∈ l, cs.contains b = true := by
  induction l with
  | nil => simp
  | cons c r ih =>
    rw [List.dropWhile_cons]
    by_cases h : cs.contains c = true
    · rw [if_pos h, ih]
      constructor
      · intro hr b hb
        rcases List.mem_cons.mp hb with rfl | hb
        · exact h
        · exact hr b hb
      · exact fun hr b hb => hr b (List.mem_cons_of_mem _ hb)
    · rw [if_neg h]
      constructor
      · intro e; cases e
      · intro hr; exact absurd (hr c (List.mem_cons_self ..)) h
end Lx
end Go.Proofs.YtnnpakllehldhabGreatDoor

/- Layer 18: texts laid one behind the other, by numbers alone. -/
namespace Go.Proofs.YtnnpakllehldhabGreatDoor
set_option linter.unusedVariables false
set_option linter.unusedSimpArgs false
open Lx
namespace Tk
theorem tk_more {t : UInt8 → Bool} {c : UInt8} (hc : t c = false) (b : B) : ∀ a : B, (a ++ c :: b).takeWhile t = a.takeWhile t ∧ (a ++ c :: b).dropWhile t = a.dropWhile t ++ c :: b
  | [] => by simp [List.takeWhile_cons, List.dropWhile_cons, hc]
  | x :: a => by
    obtain ⟨h1, h2⟩ := tk_more hc b a
    cases hx : t x
    · simp [List.takeWhile_cons, List.dropWhile_cons, hx]
    · simp [List.takeWhile_cons, List.dropWhile_cons, hx, h1, h2]
section
variable {c : UInt8} (hc : isSp c = true) (b : B)
include hc
theorem sp_D : isD c = false := by
  rcases sp_cases hc with rfl | rfl | rfl | rfl | rfl | rfl | rfl <;> rfl
theorem sp_H : isH c = false := by
  rcases sp_cases hc with rfl | rfl | rfl | rfl | rfl | rfl | rfl <;> rfl
theorem sp_lt : isLt c = false := by
  rcases sp_cases hc with rfl | rfl | rfl | rfl | rfl | rfl | rfl <;> rfl
theorem fst_more (cs : B) (hcs : cs.all (fun x => !isSp x) = true) (a : B) : fst cs (a ++ c :: b) = fst cs a := by
  cases a with
  | nil =>
    show cs.contains c = false
    cases h : cs.contains c with
    | false => rfl
    | true =>
      have := List.all_eq_true.mp hcs c (by simpa using h)
      rw [hc] at this; cases this
  | cons x a => rfl
omit hc in
theorem tail_more {cs a : B} (h : fst cs a = true) : (a ++ c :: b).tail = a.tail ++ c :: b := by
  obtain ⟨x, r, rfl, _⟩ := fst_true h
  rfl
theorem tkD_more (a : B) : tkD (a ++ c :: b) = tkD a := (tk_more (sp_D hc) b a).1
theorem dkD_more (a : B) : dkD (a ++ c :: b) = dkD a ++ c :: b := (tk_more (sp_D hc) b a).2
theorem tkH_more (a : B) : tkH (a ++ c :: b) = tkH a := (tk_more (sp_H hc) b a).1
theorem dkH_more (a : B) : dkH (a ++ c :: b) = dkH a ++ c :: b := (tk_more (sp_H hc) b a).2
theorem expo_more (a : B) : expoL (a ++ c :: b) = expoL a := by
  unfold expoL
  rw [fst_more hc b [43, 45] rfl]
  split
  · rename_i h
    rw [tail_more b h, tkD_more hc]
    obtain ⟨x, r, rfl, _⟩ := fst_true h
    rfl
  · exact tkD_more hc b a
theorem finE_more (rd wh : Pc) (k : Nat) (a : B) : finE rd wh k (a ++ c :: b) = finE rd wh k a := by
  unfold finE
  rw [expo_more hc]
theorem finSlash_more (rd wh : Pc) (k : Nat) (a : B) : finSlash rd wh k (a ++ c :: b) = finSlash rd wh k a := by
  unfold finSlash
  rw [tkD_more hc]
theorem finPoint_more (rd wh : Pc) (k : Nat) (a : B) : finPoint rd wh k (a ++ c :: b) = finPoint rd wh k a := by
  unfold finPoint
  simp only
  rw [tkD_more hc, dkD_more hc, fst_more hc b [101, 69] rfl]
  split
  · rfl
  · split
    · rename_i h
      rw [tail_more b h, finE_more hc]
    · rfl
theorem finHexPoint_more (rd wh : Pc) (k : Nat) (a : B) : finHexPoint rd wh k (a ++ c :: b) = finHexPoint rd wh k a := by
  unfold finHexPoint
  simp only
  rw [tkH_more hc, dkH_more hc, fst_more hc b [112, 80] rfl]
  split
  · rename_i h
    rw [Bool.and_eq_true] at h
    rw [tail_more b h.2, finE_more hc]
  · rfl
theorem finX_more (rd wh : Pc) (k : Nat) (a : B) : finX rd wh k (a ++ c :: b) = finX rd wh k a := by
  unfold finX
  simp only
  rw [tkH_more hc, dkH_more hc, fst_more hc b [112, 80] rfl, fst_more hc b [46] rfl]
  split
  · rename_i h
    rw [tail_more b h, finHexPoint_more hc]
  · split
    · rename_i h
      rw [Bool.and_eq_true] at h
      rw [tail_more b h.2, finE_more hc]
    · rfl
theorem finDigits_more (rd wh : Pc) (k : Nat) (a : B) : finDigits rd wh k (a ++ c :: b) = finDigits rd wh k a := by
  unfold finDigits
  rw [fst_more hc b [46] rfl, fst_more hc b [101, 69] rfl, fst_more hc b [47] rfl, fst_more hc b [120, 88] rfl]
  split
  · rename_i h
    rw [tail_more b h, finPoint_more hc]
  · split
    · rename_i h
      rw [tail_more b h, finE_more hc]
    · split
      · rename_i h
        rw [tail_more b h, finSlash_more hc]
      · split
        · rename_i h
          rw [Bool.and_eq_true] at h
          rw [tail_more b h.2, finX_more hc]
        · rfl
theorem finSign_more (rd wh : Pc) (k : Nat) (a : B) : finSign rd wh k (a ++ c :: b) = finSign rd wh k a := by
  unfold finSign
  simp only
  rw [tkD_more hc, dkD_more hc, fst_more hc b [46] rfl]
  split
  · rw [finDigits_more hc]
  · split
    · rename_i h
      rw [tail_more b h, finPoint_more hc]
    · rfl
theorem longest_more (a : B) : longestL (a ++ c :: b) = longestL a := by
  unfold longestL finStart
  rw [fst_more hc b [45] rfl, fst_more hc b [43] rfl]
  split
  · rename_i h
    rw [tail_more b h, finSign_more hc]
  · split
    · rename_i h
      rw [tail_more b h, finSign_more hc]
    · rw [finSign_more hc]
theorem longest_cut (n : Nat) (a : B) : longestL ((a ++ c :: b).take n) = longestL (a.take n) := by
  by_cases h : n ≤ a.length
  · rw [List.take_append_of_le_length h]
  · obtain ⟨m, rfl⟩ : ∃ m, n = a.length + (m + 1) := ⟨n - a.length - 1, by omega⟩
    rw [List.take_append, List.take_of_length_le (by omega : a.length ≤ a.length + (m + 1)), show a.length + (m + 1) - a.length = m + 1 from by omega, List.take_succ_cons]
    exact longest_more hc _ a
theorem shut_more (a : B) : shutB (a ++ c :: b) = shutB a := by
  cases a with
  | nil => exact hc
  | cons x a => rfl
theorem shutC_more {a : B} {t : Ct} (h : t.to ≤ a.length) : shutC (a ++ c :: b) t = shutC a t := by
  unfold shutC
  rw [List.drop_append_of_le_length h, shut_more hc]
theorem tokB_more (x : UInt8) (q : B) : tokB x (q ++ c :: b) = tokB x q := by
  unfold tokB
  have e : ∀ p : UInt8 → Bool, p c = false → (x :: (q ++ c :: b)).takeWhile p = (x :: q).takeWhile p := fun p hp => (tk_more hp b (x :: q)).1
  split
  · rw [e _ (sp_lt hc)]
    have hl := dk_len isLt (x :: q)
    exact shutC_more hc b (a := x :: q) (by show ((x :: q).takeWhile isLt).length ≤ _; omega)
  · split
    · rfl
    · split
      · rfl
      · split
        · rfl
        · have e2 : longestL ((x :: (q ++ c :: b)).take 65536) = longestL ((x :: q).take 65536) := longest_cut hc b 65536 (x :: q)
          rw [e2]
          simp only
          split
          · rfl
          · have h2 := longest_le ((x :: q).take 65536)
            have h3 : ((x :: q).take 65536).length ≤ (x :: q).length := by rw [List.length_take]; omega
            exact shutC_more hc b (a := x :: q) (by show (longestL ((x :: q).take 65536)).stop ≤ _; omega)
end
theorem dropW_more {t : UInt8 → Bool} (a x : B) {y : UInt8} {q : B} (h : a.dropWhile t = y :: q) : (a ++ x).dropWhile t = y :: (q ++ x) ∧ (a ++ x).takeWhile t = a.takeWhile t := by
  induction a with
  | nil => simp at h
  | cons b a ih =>
    cases hb : t b
    · rw [List.dropWhile_cons, hb] at h
      simp at h
      obtain ⟨rfl, rfl⟩ := h
      simp [List.dropWhile_cons, List.takeWhile_cons, hb]
    · rw [List.dropWhile_cons, hb] at h
      simp at h
      obtain ⟨h1, h2⟩ := ih h
      simp [List.dropWhile_cons, List.takeWhile_cons, hb, h1, h2]
theorem cutR_nonil {r : B} (h : (cutR r).kind ≠ 0) : ∃ y q, r.dropWhile isBl = y :: q ∧ cutR r = (tokB y q).move (r.takeWhile isBl).length := by
  unfold cutR at *
  split at h
  · exact absurd rfl h
  · rename_i y q he
    exact ⟨y, q, he, rfl⟩
/-- more behind a separator changes no token that is there -/
theorem cut_more {c : UInt8} (hc : isSp c = true) (b : B) {r : B} (h : (cutR r).kind ≠ 0) : cutR (r ++ c :: b) = cutR r := by
  obtain ⟨y, q, h1, h2⟩ := cutR_nonil h
  obtain ⟨h3, h4⟩ := dropW_more r (c :: b) h1
  rw [h2]
  unfold cutR
  rw [h3]
  simp only
  rw [tokB_more hc b y q, h4]
theorem cons_ne {r : B} {k : Int} (h : (cutR r).kind = k) (hk : k ≠ 0) : (cutR r).kind ≠ 0 := by rw [h]; exact hk
/-- an error stays where it is -/
theorem Toks.wrong {c : UInt8} (hc : isSp c = true) (b : B) {k : Nat} {r : B} {l : List Ct} {e : Option Nat} (h : Toks k r l e) : ∀ p, e = some p → Toks k (r ++ c :: b) l e := by
  induction h with
  | nil h => intro p he; cases he
  | @bad k r h =>
    intro p _
    have e1 := cut_more hc b (cons_ne h (by decide))
    have : k + (cutR r).fr = k + (cutR (r ++ c :: b)).fr := by rw [e1]
    rw [this]
    exact .bad (by rw [e1]; exact h)
  | @cons k r l e h h2 ih =>
    intro p he
    have e1 := cut_more hc b (r := r) (by omega)
    have : (cutR r).move k = (cutR (r ++ c :: b)).move k := by rw [e1]
    rw [this]
    refine .cons (by rw [e1]; exact h) ?_
    rw [e1, List.drop_append_of_le_length (cut_f r).to]
    exact ih p he
end Tk
end Go.Proofs.YtnnpakllehldhabGreatDoor


import Derived.KernelRfl
/- Numerals as they are written: what the longest one at the beginning of a text is, by states and by kinds. -/
namespace Go.Proofs.YtjnmgjcmagnkeabGreatDoor
set_option linter.unusedVariables false
namespace Lx
def isD (b : UInt8) : Bool := decide (48 ≤ b.toNat) && decide (b.toNat ≤ 57)
def isH (b : UInt8) : Bool := isD b || (decide (97 ≤ b.toNat) && decide (b.toNat ≤ 102)) || (decide (65 ≤ b.toNat) && decide (b.toNat ≤ 70))
abbrev B := List UInt8
/-- the pieces of a numeral, as they are written -/
structure Pc where
  kind : Int
  neg : Bool
  ahead : B
  behind : B
  expo : B
  den : B
  stop : Nat
def Pc.zero : Pc := ⟨0, false, [], [], [], [], 0⟩
def tkD (l : B) : B := l.takeWhile isD
def dkD (l : B) : B := l.dropWhile isD
def tkH (l : B) : B := l.takeWhile isH
def dkH (l : B) : B := l.dropWhile isH
def Pc.has (p : Pc) : Bool := !p.ahead.isEmpty || !p.behind.isEmpty
/-- is the first byte one of these? -/
def fst (cs : B) (l : B) : Bool := match l with | c :: _ => cs.contains c | [] => false
/-- the exponent as written, behind the letter -/
def expoL (l : B) : B := if fst [43, 45] l then (if tkD l.tail = [] then [] else l.take 1 ++ tkD l.tail) else tkD l
/-- the states of the reader -/
inductive St where
  | start | sign | digits | point | e | slash | x | hexPoint | stop
deriving DecidableEq
def St.rank : St → Nat
  | .start => 8 | .sign => 7 | .digits => 6 | .x => 5 | .point => 4 | .hexPoint => 3 | .slash => 2 | .e => 1 | .stop => 0
/-- what is read in the end, from a state on: what was read, what is kept, the place, the rest of the text -/
def finE (rd wh : Pc) (k : Nat) (l : B) : Pc := if expoL l = [] then wh else { rd with expo := expoL l, stop := k + (expoL l).length }
def finSlash (rd wh : Pc) (k : Nat) (l : B) : Pc := if tkD l = [] then wh else { rd with kind := 3, den := tkD l, stop := k + (tkD l).length }
def finPoint (rd wh : Pc) (k : Nat) (l : B) : Pc :=
  let r1 : Pc := { rd with behind := tkD l }
  if r1.has = false then wh else
  let r2 : Pc := { r1 with stop := k + (tkD l).length }
  if fst [101, 69] (dkD l) then finE r2 r2 (k + (tkD l).length + 1) (dkD l).tail else r2
def finHexPoint (rd wh : Pc) (k : Nat) (l : B) : Pc :=
  let r1 : Pc := { rd with behind := tkH l }
  if (r1.has && fst [112, 80] (dkH l)) = true then finE r1 wh (k + (tkH l).length + 1) (dkH l).tail else wh
def finX (rd wh : Pc) (k : Nat) (l : B) : Pc :=
  let r1 : Pc := { rd with kind := 2, ahead := tkH l }
  if fst [46] (dkH l) then finHexPoint r1 wh (k + (tkH l).length + 1) (dkH l).tail
  else if (r1.has && fst [112, 80] (dkH l)) = true then finE r1 wh (k + (tkH l).length + 1) (dkH l).tail else wh
def finDigits (rd wh : Pc) (k : Nat) (l : B) : Pc :=
  if fst [46] l then finPoint rd wh (k + 1) l.tail
  else if fst [101, 69] l then finE rd wh (k + 1) l.tail
  else if fst [47] l then finSlash rd wh (k + 1) l.tail
  else if (decide (rd.ahead = [48]) && fst [120, 88] l) = true then finX rd wh (k + 1) l.tail
  else wh
def finSign (rd wh : Pc) (k : Nat) (l : B) : Pc :=
  let r1 : Pc := { rd with kind := 1, ahead := tkD l }
  if r1.has then
    let r2 : Pc := { r1 with stop := k + (tkD l).length }
    finDigits r2 r2 (k + (tkD l).length) (dkD l)
  else if fst [46] (dkD l) then finPoint r1 wh (k + (tkD l).length + 1) (dkD l).tail
  else wh
def finStart (rd wh : Pc) (k : Nat) (l : B) : Pc :=
  if fst [45] l then finSign { rd with neg := true } wh (k + 1) l.tail
  else if fst [43] l then finSign { rd with neg := false } wh (k + 1) l.tail
  else finSign { rd with neg := false } wh k l
def fin : St → Pc → Pc → Nat → B → Pc
  | .start => finStart | .sign => finSign | .digits => finDigits | .x => finX | .point => finPoint | .hexPoint => finHexPoint
  | .slash => finSlash | .e => finE | .stop => fun _ wh _ _ => wh
def longestL (l : B) : Pc := finStart Pc.zero Pc.zero 0 l
/-- the document's way: each kind by itself -/
def refE (cs : B) (p : Pc) (l : B) : Option Pc :=
  if fst cs l then (if expoL l.tail = [] then none else some { p with expo := expoL l.tail, stop := p.stop + 1 + (expoL l.tail).length }) else none
theorem fst_cons (cs : B) (c : UInt8) (l : B) : fst cs (c :: l) = cs.contains c := rfl
theorem tk_dk (t : UInt8 → Bool) (l : B) : l.takeWhile t ++ l.dropWhile t = l := List.takeWhile_append_dropWhile
theorem dk_len (t : UInt8 → Bool) (l : B) : (l.takeWhile t).length + (l.dropWhile t).length = l.length := by
  have := congrArg List.length (tk_dk t l)
  rwa [List.length_append] at this
theorem drop_dk (t : UInt8 → Bool) (l : B) : l.drop (l.takeWhile t).length = l.dropWhile t := by
  have := List.drop_left (l₁ := l.takeWhile t) (l₂ := l.dropWhile t)
  rwa [tk_dk] at this
theorem take_tk (t : UInt8 → Bool) (l : B) : l.take (l.takeWhile t).length = l.takeWhile t := by
  have := List.take_left (l₁ := l.takeWhile t) (l₂ := l.dropWhile t)
  rwa [tk_dk] at this
theorem fst_true {cs l : B} (h : fst cs l = true) : ∃ c r, l = c :: r ∧ cs.contains c = true := by
  cases l with
  | nil => simp [fst] at h
  | cons c r => exact ⟨c, r, rfl, h⟩
/-- two disjoint sets cannot both hold the first byte -/
theorem fst_not {cs ds l : B} (h : fst cs l = true) (hd : ∀ c, cs.contains c = true → ds.contains c = false) : fst ds l = false := by
  obtain ⟨c, r, rfl, hc⟩ := fst_true h
  exact hd c hc
theorem isEmpty_iff {l : B} : l.isEmpty = true ↔ l = [] := by cases l <;> simp
theorem has_false {p : Pc} : p.has = false ↔ p.ahead = [] ∧ p.behind = [] := by
  unfold Pc.has
  cases p.ahead <;> cases p.behind <;> simp
theorem has_true {p : Pc} : p.has = true ↔ ¬ (p.ahead = [] ∧ p.behind = []) := by
  rw [← has_false]; cases p.has <;> simp
theorem dis (cs ds : B) (h : cs.all (fun c => !ds.contains c) = true) : ∀ c, cs.contains c = true → ds.contains c = false := by
  intro c hc
  have := List.all_eq_true.mp h c (by simpa using hc)
  simpa using this
end Lx
end Go.Proofs.YtjnmgjcmagnkeabGreatDoor

/- What the pieces of a numeral say. -/
namespace Go.Proofs.YtjnmgjcmagnkeabGreatDoor
set_option linter.unusedVariables false
namespace Lx
/-- a numeral as it is kept -/
structure Nm where
  kind : Int
  neg : Bool
  num : B
  exp : Int
  den : B
/-- a small letter for a capital -/
def lowB (b : UInt8) : UInt8 := if 65 ≤ b.toNat ∧ b.toNat ≤ 90 then UInt8.ofNat (b.toNat + 32) else b
def strip (l : B) : B := (l.dropWhile (fun b => [48].contains b)).map lowB
def stepP (n : Int) (d : UInt8) : Int := if n < 2147483648 then 10 * n + ((d.toNat : Int) - 48) else n
def stepR (n : Int) (d : UInt8) : Int := if 4294967296 < n * 10 + ((d.toNat : Int) - 48) then 4294967296 else n * 10 + ((d.toNat : Int) - 48)
/-- the digits of an exponent -/
def expD (l : B) : B := l.dropWhile (fun b => [43, 45].contains b)
def expoN (l : B) : Int := if fst [45] l then - (expD l).foldl stepP 0 else (expD l).foldl stepP 0
def heldI (e : Int) : Int := if (if e < 1073741824 then e else 1073741824) < -1073741824 then -1073741824 else (if e < 1073741824 then e else 1073741824)
def numOf (p : Pc) : Nm := ⟨p.kind, p.neg, strip (p.ahead ++ p.behind),
  if p.kind = 1 then heldI (expoN p.expo - p.behind.length) else if p.kind = 2 then heldI (expoN p.expo - 4 * p.behind.length) else 0, strip p.den⟩
/-- an exponent as written: none, or digits behind at most one sign -/
def ExpoOk (l : B) : Prop := l = [] ∨ ∃ sg ds, l = sg ++ ds ∧ (sg = [] ∨ sg = [43] ∨ sg = [45]) ∧ ds ≠ [] ∧ ds.all isD = true
structure Ok (n : Nat) (p : Pc) : Prop where
  ahead : p.ahead.all isH = true
  behind : p.behind.all isH = true
  expo : ExpoOk p.expo
  den : p.den.all isD = true
  la : p.ahead.length ≤ n
  lb : p.behind.length ≤ n
  le : p.expo.length ≤ n
  ld : p.den.length ≤ n
  st : p.stop ≤ n
  kd : p.kind = 0 ∨ p.kind = 1 ∨ p.kind = 2 ∨ p.kind = 3
theorem all_tk (t : UInt8 → Bool) (l : B) : (l.takeWhile t).all t = true := by
  induction l with
  | nil => rfl
  | cons b r ih =>
    rw [List.takeWhile_cons]
    by_cases h : t b
    · rw [if_pos h, List.all_cons, h, ih]; rfl
    · rw [if_neg h]; rfl
theorem isH_of {b : UInt8} (h : isD b = true) : isH b = true := by unfold isH; rw [h]; rfl
theorem all_mono {s t : UInt8 → Bool} (h : ∀ b, s b = true → t b = true) {l : B} (hl : l.all s = true) : l.all t = true :=
  List.all_eq_true.mpr fun b hb => h b (List.all_eq_true.mp hl b hb)
theorem allD_tk (l : B) : (tkD l).all isD = true := all_tk isD l
theorem allH_tkD (l : B) : (tkD l).all isH = true := all_mono (fun _ => isH_of) (allD_tk l)
theorem allH_tk (l : B) : (tkH l).all isH = true := all_tk isH l
theorem tkD_le (l : B) : (tkD l).length + (dkD l).length = l.length := dk_len isD l
theorem tkH_le (l : B) : (tkH l).length + (dkH l).length = l.length := dk_len isH l
theorem tail_len {cs l : B} (h : fst cs l = true) : l.tail.length + 1 = l.length := by
  obtain ⟨c, r, rfl, _⟩ := fst_true h; rfl
theorem expo_ok (l : B) : ExpoOk (expoL l) := by
  unfold expoL
  split
  · rename_i h
    split
    · exact Or.inl rfl
    · rename_i hn
      obtain ⟨c, r, rfl, hc⟩ := fst_true h
      refine Or.inr ⟨[c], tkD r, rfl, ?_, hn, allD_tk r⟩
      have : c = 43 ∨ c = 45 := by simpa using hc
      rcases this with rfl | rfl
      · exact Or.inr (Or.inl rfl)
      · exact Or.inr (Or.inr rfl)
  · by_cases hn : tkD l = []
    · exact Or.inl hn
    · exact Or.inr ⟨[], tkD l, rfl, Or.inl rfl, hn, allD_tk l⟩
theorem expo_le (l : B) : (expoL l).length ≤ l.length := by
  unfold expoL
  split
  · rename_i h
    split
    · simp
    · have h1 := tail_len h
      have h2 := tkD_le l.tail
      rw [List.length_append, List.length_take]; omega
  · have := tkD_le l; omega
theorem Ok.zero (n : Nat) : Ok n Pc.zero := ⟨rfl, rfl, Or.inl rfl, rfl, Nat.zero_le _, Nat.zero_le _, Nat.zero_le _, Nat.zero_le _, Nat.zero_le _, Or.inl rfl⟩
theorem ok_finE {n : Nat} {rd wh : Pc} {k : Nat} {l : B} (h1 : Ok n rd) (h2 : Ok n wh) (hk : k + l.length ≤ n) : Ok n (finE rd wh k l) := by
  unfold finE
  split
  · exact h2
  · have := expo_le l
    exact ⟨h1.ahead, h1.behind, expo_ok l, h1.den, h1.la, h1.lb, by show (expoL l).length ≤ n; omega, h1.ld, by show k + (expoL l).length ≤ n; omega, h1.kd⟩
theorem ok_finSlash {n : Nat} {rd wh : Pc} {k : Nat} {l : B} (h1 : Ok n rd) (h2 : Ok n wh) (hk : k + l.length ≤ n) : Ok n (finSlash rd wh k l) := by
  unfold finSlash
  split
  · exact h2
  · have := tkD_le l
    exact ⟨h1.ahead, h1.behind, h1.expo, allD_tk l, h1.la, h1.lb, h1.le, by show (tkD l).length ≤ n; omega, by show k + (tkD l).length ≤ n; omega, Or.inr (Or.inr (Or.inr rfl))⟩
theorem Ok.setBehind {n : Nat} {rd : Pc} (h1 : Ok n rd) {b : B} (hb : b.all isH = true) (hl : b.length ≤ n) : Ok n { rd with behind := b } :=
  ⟨h1.ahead, hb, h1.expo, h1.den, h1.la, hl, h1.le, h1.ld, h1.st, h1.kd⟩
theorem Ok.setStop {n : Nat} {rd : Pc} (h1 : Ok n rd) {k : Nat} (hl : k ≤ n) : Ok n { rd with stop := k } :=
  ⟨h1.ahead, h1.behind, h1.expo, h1.den, h1.la, h1.lb, h1.le, h1.ld, hl, h1.kd⟩
theorem Ok.setAhead {n : Nat} {rd : Pc} (h1 : Ok n rd) {b : B} {k : Int} (hb : b.all isH = true) (hl : b.length ≤ n) (hk : k = 1 ∨ k = 2) : Ok n { rd with kind := k, ahead := b } :=
  ⟨hb, h1.behind, h1.expo, h1.den, hl, h1.lb, h1.le, h1.ld, h1.st, by rcases hk with rfl | rfl; exact Or.inr (Or.inl rfl); exact Or.inr (Or.inr (Or.inl rfl))⟩
theorem Ok.setNeg {n : Nat} {rd : Pc} (h1 : Ok n rd) (b : Bool) : Ok n { rd with neg := b } :=
  ⟨h1.ahead, h1.behind, h1.expo, h1.den, h1.la, h1.lb, h1.le, h1.ld, h1.st, h1.kd⟩
theorem ok_finPoint {n : Nat} {rd wh : Pc} {k : Nat} {l : B} (h1 : Ok n rd) (h2 : Ok n wh) (hk : k + l.length ≤ n) : Ok n (finPoint rd wh k l) := by
  have hl := tkD_le l
  have hb := (h1.setBehind (allH_tkD l) (by omega)).setStop (k := k + (tkD l).length) (by omega)
  unfold finPoint
  simp only
  split
  · exact h2
  · split
    · rename_i hf
      have := tail_len hf
      exact ok_finE hb hb (by omega)
    · exact hb
theorem ok_finHexPoint {n : Nat} {rd wh : Pc} {k : Nat} {l : B} (h1 : Ok n rd) (h2 : Ok n wh) (hk : k + l.length ≤ n) : Ok n (finHexPoint rd wh k l) := by
  have hl := tkH_le l
  have hb := (h1.setBehind (allH_tk l) (by omega))
  unfold finHexPoint
  simp only
  split
  · rename_i hf
    rw [Bool.and_eq_true] at hf
    have := tail_len hf.2
    exact ok_finE hb h2 (by omega)
  · exact h2
theorem ok_finX {n : Nat} {rd wh : Pc} {k : Nat} {l : B} (h1 : Ok n rd) (h2 : Ok n wh) (hk : k + l.length ≤ n) : Ok n (finX rd wh k l) := by
  have hl := tkH_le l
  have hb := (h1.setAhead (k := 2) (allH_tk l) (by omega) (Or.inr rfl))
  unfold finX
  simp only
  split
  · rename_i hf
    have := tail_len hf
    exact ok_finHexPoint hb h2 (by omega)
  · split
    · rename_i hf
      rw [Bool.and_eq_true] at hf
      have := tail_len hf.2
      exact ok_finE hb h2 (by omega)
    · exact h2
theorem ok_finDigits {n : Nat} {rd wh : Pc} {k : Nat} {l : B} (h1 : Ok n rd) (h2 : Ok n wh) (hk : k + l.length ≤ n) : Ok n (finDigits rd wh k l) := by
  unfold finDigits
  split
  · rename_i hf
    have := tail_len hf
    exact ok_finPoint h1 h2 (by omega)
  · split
    · rename_i hf
      have := tail_len hf
      exact ok_finE h1 h2 (by omega)
    · split
      · rename_i hf
        have := tail_len hf
        exact ok_finSlash h1 h2 (by omega)
      · split
        · rename_i hf
          rw [Bool.and_eq_true] at hf
          have := tail_len hf.2
          exact ok_finX h1 h2 (by omega)
        · exact h2
theorem ok_finSign {n : Nat} {rd wh : Pc} {k : Nat} {l : B} (h1 : Ok n rd) (h2 : Ok n wh) (hk : k + l.length ≤ n) : Ok n (finSign rd wh k l) := by
  have hl := tkD_le l
  have hb := (h1.setAhead (k := 1) (allH_tkD l) (by omega) (Or.inl rfl))
  have hb2 := hb.setStop (k := k + (tkD l).length) (by omega)
  unfold finSign
  simp only
  split
  · exact ok_finDigits hb2 hb2 (by omega)
  · split
    · rename_i hf
      have := tail_len hf
      exact ok_finPoint hb h2 (by omega)
    · exact h2
theorem ok_longest (l : B) : Ok l.length (longestL l) := by
  unfold longestL finStart
  have hz := Ok.zero l.length
  split
  · rename_i hf
    have := tail_len hf
    exact ok_finSign (hz.setNeg true) hz (by omega)
  · split
    · rename_i hf
      have := tail_len hf
      exact ok_finSign (hz.setNeg false) hz (by omega)
    · exact ok_finSign (hz.setNeg false) hz (by omega)
theorem all_dk {t s : UInt8 → Bool} {l : B} (h : l.all t = true) : (l.dropWhile s).all t = true :=
  List.all_eq_true.mpr fun b hb => List.all_eq_true.mp h b ((List.dropWhile_suffix s).subset hb)
/-- both ways of reckoning an exponent: the same, or both far off -/
theorem fold_same (ds : B) (h : ds.all isD = true) : ∀ n m : Int, 0 ≤ n → 0 ≤ m → n ≤ 21474836489 → m ≤ 4294967296 → ((n = m ∧ n < 2147483648) ∨ (2147483648 ≤ n ∧ 2147483648 ≤ m)) →
    0 ≤ ds.foldl stepP n ∧ ds.foldl stepP n ≤ 21474836489 ∧ 0 ≤ ds.foldl stepR m ∧ ds.foldl stepR m ≤ 4294967296 ∧ ((ds.foldl stepP n = ds.foldl stepR m ∧ ds.foldl stepP n < 2147483648) ∨ (2147483648 ≤ ds.foldl stepP n ∧ 2147483648 ≤ ds.foldl stepR m)) := by
  induction ds with
  | nil => intro n m h1 h2 h3 h4 h5; simp only [List.foldl_nil]; omega
  | cons d r ih =>
    intro n m h1 h2 h3 h4 h5
    rw [List.all_cons, Bool.and_eq_true] at h
    have hd : 48 ≤ d.toNat ∧ d.toNat ≤ 57 := by
      have := h.1; unfold isD at this; simpa using this
    simp only [List.foldl_cons]
    have hs : 0 ≤ stepP n d ∧ 0 ≤ stepR m d ∧ stepP n d ≤ 21474836489 ∧ stepR m d ≤ 4294967296 ∧ ((stepP n d = stepR m d ∧ stepP n d < 2147483648) ∨ (2147483648 ≤ stepP n d ∧ 2147483648 ≤ stepR m d)) := by
      unfold stepP stepR
      split <;> split <;> omega
    exact ih h.2 (stepP n d) (stepR m d) hs.1 hs.2.1 hs.2.2.1 hs.2.2.2.1 hs.2.2.2.2
theorem dk_none {t : UInt8 → Bool} {l : B} (h : ∀ c r, l = c :: r → t c = false) : l.dropWhile t = l := by
  cases l with
  | nil => rfl
  | cons c r => rw [List.dropWhile_cons, h c r rfl]; rfl
theorem digit_not {c : UInt8} (h : isD c = true) : ([43, 45] : B).contains c = false ∧ ([45] : B).contains c = false ∧ c ≠ 45 := by
  unfold isD at h
  simp only [Bool.and_eq_true, decide_eq_true_eq] at h
  have h1 : c ≠ 45 := by rintro rfl; simp at h
  have h2 : c ≠ 43 := by rintro rfl; simp at h
  simp [h1, h2]
theorem expD_digits {ds : B} (h : ds.all isD = true) : expD ds = ds := by
  apply dk_none
  rintro c r rfl
  rw [List.all_cons, Bool.and_eq_true] at h
  exact (digit_not h.1).1
theorem filter_digits {ds : B} (h : ds.all isD = true) : ds.filter isD = ds := List.filter_eq_self.mpr (List.all_eq_true.mp h)
theorem contains_digits {ds : B} (h : ds.all isD = true) : ds.contains 45 = false := by
  induction ds with
  | nil => rfl
  | cons c r ih =>
    rw [List.all_cons, Bool.and_eq_true] at h
    rw [List.contains_cons, ih h.2]
    have := (digit_not h.1).2.2
    simp [Ne.symm this]
theorem fst_digits {ds : B} (h : ds.all isD = true) : fst [45] ds = false := by
  cases ds with
  | nil => rfl
  | cons c r =>
    rw [List.all_cons, Bool.and_eq_true] at h
    exact (digit_not h.1).2.1
/-- the digits of a written exponent, and whether it has a minus -/
theorem expo_form {l : B} (h : ExpoOk l) : (expD l).all isD = true ∧ l.filter isD = expD l ∧ l.contains 45 = fst [45] l := by
  rcases h with rfl | ⟨sg, ds, rfl, hs, hn, hd⟩
  · exact ⟨rfl, rfl, rfl⟩
  · rcases hs with rfl | rfl | rfl
    · rw [List.nil_append, expD_digits hd, filter_digits hd, contains_digits hd, fst_digits hd]
      exact ⟨hd, rfl, rfl⟩
    · have e : expD ([43] ++ ds) = ds := by
        unfold expD
        rw [List.singleton_append, List.dropWhile_cons]
        exact expD_digits hd
      rw [e]
      refine ⟨hd, ?_, ?_⟩
      · rw [List.singleton_append, List.filter_cons]; exact filter_digits hd
      · rw [List.singleton_append, List.contains_cons, contains_digits hd]; rfl
    · have e : expD ([45] ++ ds) = ds := by
        unfold expD
        rw [List.singleton_append, List.dropWhile_cons]
        exact expD_digits hd
      rw [e]
      refine ⟨hd, ?_, ?_⟩
      · rw [List.singleton_append, List.filter_cons]; exact filter_digits hd
      · rw [List.singleton_append, List.contains_cons]; rfl
theorem expo_bound {l : B} (h : ExpoOk l) : -21474836489 ≤ expoN l ∧ expoN l ≤ 21474836489 := by
  obtain ⟨h1, h2, h3⟩ := expo_form h
  have := fold_same (expD l) h1 0 0 (by decide) (by decide) (by decide) (by decide) (Or.inl ⟨rfl, by decide⟩)
  unfold expoN
  split <;> omega
end Lx
end Go.Proofs.YtjnmgjcmagnkeabGreatDoor

/- The longest numeral of a text that is written by its parts. -/
namespace Go.Proofs.YtjnmgjcmagnkeabGreatDoor
set_option linter.unusedVariables false
namespace Lx
/-- what can't go on a numeral -/
def Stops (l : B) : Prop := ∀ c r, l = c :: r → isH c = false ∧ ([46, 47, 120, 88] : B).contains c = false
theorem Stops.nil : Stops [] := fun c r h => by cases h
theorem Stops.cons {c : UInt8} {r : B} (h : (isH c || ([46, 47, 120, 88] : B).contains c) = false) : Stops (c :: r) := by
  intro d q e
  cases e
  rw [Bool.or_eq_false_iff] at h
  exact h
theorem Stops.fst {l : B} (h : Stops l) {cs : B} (hc : cs.all (fun c => isH c || ([46, 47, 120, 88] : B).contains c) = true) : fst cs l = false := by
  cases l with
  | nil => rfl
  | cons c r =>
    rw [fst_cons]
    cases hh : cs.contains c with
    | false => rfl
    | true =>
      have := List.all_eq_true.mp hc c (by simpa using hh)
      obtain ⟨h1, h2⟩ := h c r rfl
      rw [h1, h2] at this; cases this
theorem tk_app {t : UInt8 → Bool} {h r : B} (hh : h.all t = true) (hr : ∀ c q, r = c :: q → t c = false) : (h ++ r).takeWhile t = h ∧ (h ++ r).dropWhile t = r := by
  induction h with
  | nil =>
    rw [List.nil_append]
    cases r with
    | nil => exact ⟨rfl, rfl⟩
    | cons c q =>
      have := hr c q rfl
      exact ⟨by rw [List.takeWhile_cons, this]; rfl, by rw [List.dropWhile_cons, this]; rfl⟩
  | cons b q ih =>
    rw [List.all_cons, Bool.and_eq_true] at hh
    obtain ⟨i1, i2⟩ := ih hh.2
    rw [List.cons_append, List.takeWhile_cons, List.dropWhile_cons, hh.1]
    exact ⟨by rw [if_pos rfl, i1], by rw [if_pos rfl, i2]⟩
theorem Stops.notD {l : B} (h : Stops l) : ∀ c q, l = c :: q → isD c = false := by
  intro c q e
  have := (h c q e).1
  unfold isH at this
  rw [Bool.or_eq_false_iff, Bool.or_eq_false_iff] at this
  exact this.1.1
theorem Stops.notH {l : B} (h : Stops l) : ∀ c q, l = c :: q → isH c = false := fun c q e => (h c q e).1
theorem expoL_app {e r : B} (he : ExpoOk e) (hn : e ≠ []) (hr : ∀ c q, r = c :: q → isD c = false) : expoL (e ++ r) = e := by
  rcases he with rfl | ⟨sg, ds, rfl, hs, hd, ha⟩
  · exact absurd rfl hn
  · have k := (tk_app ha hr).1
    rcases hs with rfl | rfl | rfl
    · rw [List.nil_append]
      unfold expoL
      rw [if_neg]
      · exact k
      · cases ds with
        | nil => exact absurd rfl hd
        | cons c q =>
          rw [List.all_cons, Bool.and_eq_true] at ha
          rw [List.cons_append, fst_cons, (digit_not ha.1).1]; simp
    · unfold expoL
      rw [if_pos (by rfl)]
      show (if tkD (ds ++ r) = [] then [] else [43] ++ tkD (ds ++ r)) = _
      rw [show tkD (ds ++ r) = ds from k, if_neg hd]
    · unfold expoL
      rw [if_pos (by rfl)]
      show (if tkD (ds ++ r) = [] then [] else [45] ++ tkD (ds ++ r)) = _
      rw [show tkD (ds ++ r) = ds from k, if_neg hd]
/-- a sign ahead -/
theorem start_sign {sg l : B} (hs : sg = [] ∨ sg = [43] ∨ sg = [45]) (hl : sg = [] → fst [43, 45] l = false) :
    longestL (sg ++ l) = finSign ⟨0, decide (sg = [45]), [], [], [], [], 0⟩ Pc.zero sg.length l := by
  unfold longestL finStart
  rcases hs with rfl | rfl | rfl
  · have := hl rfl
    rw [List.nil_append]
    have h1 : fst [45] l = false := by
      cases l with
      | nil => rfl
      | cons c r => rw [fst_cons] at this ⊢; simp at this ⊢; first | exact this.2 | exact this.1
    have h2 : fst [43] l = false := by
      cases l with
      | nil => rfl
      | cons c r => rw [fst_cons] at this ⊢; simp at this ⊢; first | exact this.2 | exact this.1
    rw [h1, h2]
    rfl
  · rfl
  · rfl
/-- an exponent as it is written with its letter, or none -/
def ExpW (cs : B) (ex : B) : Prop := ex = [] ∨ ∃ c e, ex = c :: e ∧ cs.contains c = true ∧ e ≠ [] ∧ ExpoOk e
theorem fst_of {cs : B} {c : UInt8} {l : B} (h : cs.contains c = true) : fst cs (c :: l) = true := h
theorem finE_app {rd wh : Pc} {k : Nat} {e r : B} (he : ExpoOk e) (hn : e ≠ []) (hr : ∀ c q, r = c :: q → isD c = false) : finE rd wh k (e ++ r) = { rd with expo := e, stop := k + e.length } := by
  unfold finE
  rw [expoL_app he hn hr, if_neg hn]
theorem exp_app {rd : Pc} {k : Nat} {ex r : B} (hx : ExpW [101, 69] ex) (hr : Stops r) (h0 : rd.expo = []) (hk : rd.stop = k) :
    (if fst [101, 69] (ex ++ r) = true then finE rd rd (k + 1) (ex ++ r).tail else rd) = { rd with expo := ex.tail, stop := k + ex.length } := by
  rcases hx with rfl | ⟨c, e, rfl, hc, hn, he⟩
  · rw [List.nil_append, hr.fst (by decide)]
    simp only [Bool.false_eq_true, if_false, List.tail_nil, List.length_nil, Nat.add_zero]
    cases rd
    simp only at h0 hk
    subst h0; subst hk
    rfl
  · rw [List.cons_append, if_pos (fst_of hc)]
    rw [List.tail_cons, finE_app he hn hr.notD, List.tail_cons, List.length_cons]
    have : k + 1 + e.length = k + (e.length + 1) := by omega
    rw [this]
theorem notD_ex {cs ex r : B} (hx : ExpW cs ex) (hc : cs.all (fun c => !isD c) = true) (hr : Stops r) : ∀ c q, ex ++ r = c :: q → isD c = false := by
  intro c q e
  rcases hx with rfl | ⟨d, f, rfl, hd, _, _⟩
  · exact hr.notD c q e
  · cases e
    have := List.all_eq_true.mp hc c (by simpa using hd)
    simpa using this
theorem notH_ex {cs ex r : B} (hx : ExpW cs ex) (hc : cs.all (fun c => !isH c) = true) (hr : Stops r) : ∀ c q, ex ++ r = c :: q → isH c = false := by
  intro c q e
  rcases hx with rfl | ⟨d, f, rfl, hd, _, _⟩
  · exact hr.notH c q e
  · cases e
    have := List.all_eq_true.mp hc c (by simpa using hd)
    simpa using this
theorem isEmpty_ne {l : B} (h : l ≠ []) : l.isEmpty = false := by cases l with | nil => exact absurd rfl h | cons _ _ => rfl
theorem fst_app {cs h r : B} (hn : h ≠ []) (hh : h.all (fun c => !cs.contains c) = true) : fst cs (h ++ r) = false := by
  cases h with
  | nil => exact absurd rfl hn
  | cons c q =>
    rw [List.all_cons, Bool.and_eq_true] at hh
    rw [List.cons_append, fst_cons]; simpa using hh.1
theorem digits_not {h : B} (hh : h.all isD = true) : h.all (fun c => !([43, 45] : B).contains c) = true :=
  all_mono (fun b hb => by rw [(digit_not hb).1]; rfl) hh
/-- a decimal one -/
theorem longest_dec {sg head tail ex rest : B} {pt : Bool} (hs : sg = [] ∨ sg = [43] ∨ sg = [45]) (hh : head.all isD = true) (ht : tail.all isD = true)
    (hne : ¬ (head = [] ∧ tail = [])) (hpt : pt = false → tail = []) (hx : ExpW [101, 69] ex) (hr : Stops rest) :
    longestL (sg ++ (head ++ ((if pt then 46 :: tail else []) ++ (ex ++ rest)))) =
      ⟨1, decide (sg = [45]), head, tail, ex.tail, [], sg.length + head.length + (if pt then 1 + tail.length else 0) + ex.length⟩ := by
  have hxd := notD_ex hx (by decide) hr
  have hx46 : ∀ {l}, l = ex ++ rest → fst [46] l = false := by
    rintro l rfl
    rcases hx with rfl | ⟨c, e, rfl, hc, _, _⟩
    · exact hr.fst (by decide)
    · exact fst_not (fst_of (l := e ++ rest) hc) (dis [101, 69] [46] rfl)
  cases pt with
  | false =>
    have ht0 := hpt rfl
    subst ht0
    have hhn : head ≠ [] := fun h => hne ⟨h, rfl⟩
    simp only [Bool.false_eq_true, if_false, List.nil_append, Nat.add_zero]
    rw [start_sign hs (fun _ => fst_app hhn (digits_not hh))]
    obtain ⟨k1, k2⟩ := tk_app hh hxd
    have k1' : tkD (head ++ (ex ++ rest)) = head := k1
    have k2' : dkD (head ++ (ex ++ rest)) = ex ++ rest := k2
    unfold finSign
    simp only [k1', k2', Pc.has, isEmpty_ne hhn, Bool.not_false, Bool.true_or, if_true]
    unfold finDigits
    rw [hx46 rfl]
    simp only [Bool.false_eq_true, if_false]
    have := exp_app (rd := ⟨1, decide (sg = [45]), head, [], [], [], sg.length + head.length⟩) (k := sg.length + head.length) hx hr rfl rfl
    rcases hx with rfl | ⟨c, e, rfl, hc, hn, he⟩
    · rw [List.nil_append, hr.fst (by decide), hr.fst (by decide), hr.fst (by decide)]
      simp
    · rw [List.cons_append, if_pos (fst_of hc)] at this ⊢
      exact this
  | true =>
    simp only [if_true]
    have e1 : (head ++ (46 :: tail ++ (ex ++ rest))) = head ++ (46 :: (tail ++ (ex ++ rest))) := rfl
    rw [e1]
    have hf : sg = [] → fst [43, 45] (head ++ (46 :: (tail ++ (ex ++ rest)))) = false := by
      intro _
      by_cases hhn : head = []
      · subst hhn; rfl
      · exact fst_app hhn (digits_not hh)
    rw [start_sign hs hf]
    obtain ⟨k1, k2⟩ := tk_app (r := 46 :: (tail ++ (ex ++ rest))) hh (by rintro c q e; cases e; rfl)
    have k1' : tkD (head ++ (46 :: (tail ++ (ex ++ rest)))) = head := k1
    have k2' : dkD (head ++ (46 :: (tail ++ (ex ++ rest)))) = 46 :: (tail ++ (ex ++ rest)) := k2
    obtain ⟨m1, m2⟩ := tk_app ht hxd
    have m1' : tkD (tail ++ (ex ++ rest)) = tail := m1
    have m2' : dkD (tail ++ (ex ++ rest)) = ex ++ rest := m2
    have hpnt : ∀ (st : Nat) (wh : Pc), finPoint ⟨1, decide (sg = [45]), head, [], [], [], st⟩ wh (sg.length + head.length + 1) (tail ++ (ex ++ rest)) =
        ⟨1, decide (sg = [45]), head, tail, ex.tail, [], sg.length + head.length + (1 + tail.length) + ex.length⟩ := by
      intro st wh
      unfold finPoint
      simp only [m1', m2']
      rw [if_neg]
      · have := exp_app (rd := ⟨1, decide (sg = [45]), head, tail, [], [], sg.length + head.length + 1 + tail.length⟩) (k := sg.length + head.length + 1 + tail.length) hx hr rfl rfl
        rw [this]
        have : sg.length + head.length + 1 + tail.length + ex.length = sg.length + head.length + (1 + tail.length) + ex.length := by omega
        rw [this]
      · rw [has_false]; exact hne
    unfold finSign
    simp only [k1', k2']
    by_cases hhn : head = []
    · have h0 : (⟨1, decide (sg = [45]), head, [], [], [], 0⟩ : Pc).has = false := has_false.mpr ⟨hhn, rfl⟩
      rw [h0]
      simp only [Bool.false_eq_true, if_false, List.tail_cons]
      rw [if_pos (show fst [46] (46 :: (tail ++ (ex ++ rest))) = true from rfl)]
      exact hpnt _ _
    · have h0 : (⟨1, decide (sg = [45]), head, [], [], [], 0⟩ : Pc).has = true := has_true.mpr (fun h => hhn h.1)
      rw [h0]
      simp only [if_true]
      unfold finDigits
      rw [if_pos (by rfl)]
      exact hpnt _ _
/-- a hexadecimal one -/
theorem longest_hex {sg head tail ex rest : B} {pt : Bool} {x : UInt8} (hs : sg = [] ∨ sg = [43] ∨ sg = [45]) (hX : x = 120 ∨ x = 88) (hh : head.all isH = true) (ht : tail.all isH = true)
    (hne : ¬ (head = [] ∧ tail = [])) (hpt : pt = false → tail = []) (hx : ExpW [112, 80] ex) (hx0 : ex ≠ []) (hr : Stops rest) :
    longestL (sg ++ (48 :: x :: (head ++ ((if pt then 46 :: tail else []) ++ (ex ++ rest))))) =
      ⟨2, decide (sg = [45]), head, tail, ex.tail, [], sg.length + 2 + head.length + (if pt then 1 + tail.length else 0) + ex.length⟩ := by
  have hxd := notH_ex hx (by decide) hr
  obtain ⟨c, e, rfl, hc, hn, he⟩ := hx.resolve_left hx0
  have hx46 : fst [46] (c :: e ++ rest) = false := fst_not (fst_of (l := e ++ rest) hc) (dis [112, 80] [46] rfl)
  have hxp : fst [112, 80] (c :: e ++ rest) = true := fst_of hc
  rw [start_sign hs (fun _ => rfl)]
  have hxd2 : isD x = false := by rcases hX with rfl | rfl <;> rfl
  generalize hL : head ++ ((if pt then 46 :: tail else []) ++ (c :: e ++ rest)) = L
  have k1' : tkD (48 :: x :: L) = [48] := (tk_app (h := [48]) (r := x :: L) (by rfl) (by rintro d q e; cases e; exact hxd2)).1
  have k2' : dkD (48 :: x :: L) = x :: L := (tk_app (h := [48]) (r := x :: L) (by rfl) (by rintro d q e; cases e; exact hxd2)).2
  have hfx : ∀ (cs : B), cs.contains (120 : UInt8) = false → cs.contains (88 : UInt8) = false → fst cs (x :: L) = false := by
    intro cs h1 h2; rw [fst_cons]; rcases hX with rfl | rfl <;> assumption
  have hfx2 : fst [120, 88] (x :: L) = true := by rw [fst_cons]; rcases hX with rfl | rfl <;> rfl
  unfold finSign
  simp only [k1', k2', Pc.has, List.isEmpty_cons, Bool.not_false, Bool.true_or, if_true]
  unfold finDigits
  rw [hfx [46] rfl rfl, hfx [101, 69] rfl rfl, hfx [47] rfl rfl]
  simp only [Bool.false_eq_true, if_false, hfx2, decide_true, Bool.and_self, if_true, List.tail_cons, List.length_singleton]
  subst hL
  unfold finX
  cases pt with
  | false =>
    have ht0 := hpt rfl
    subst ht0
    have hhn : head ≠ [] := fun h => hne ⟨h, rfl⟩
    simp only [Bool.false_eq_true, if_false, List.nil_append, Nat.add_zero]
    obtain ⟨m1, m2⟩ := tk_app hh hxd
    have m1' : tkH (head ++ (c :: e ++ rest)) = head := m1
    have m2' : dkH (head ++ (c :: e ++ rest)) = c :: e ++ rest := m2
    rw [m1', m2', hx46, hxp]
    simp only [Bool.false_eq_true, if_false, Pc.has, isEmpty_ne hhn, Bool.not_false, Bool.true_or, Bool.and_self, if_true]
    show finE _ _ _ (e ++ rest) = _
    rw [finE_app he hn hr.notD]
    simp only [List.length_cons]
    have : sg.length + 1 + 1 + head.length + 1 + e.length = sg.length + 2 + head.length + (e.length + 1) := by omega
    rw [this]
  | true =>
    simp only [if_true]
    obtain ⟨k1, k2⟩ := tk_app (h := head) (r := 46 :: (tail ++ (c :: e ++ rest))) hh (by rintro c q e; cases e; rfl)
    have k1' : tkH (head ++ (46 :: tail ++ (c :: e ++ rest))) = head := k1
    have k2' : dkH (head ++ (46 :: tail ++ (c :: e ++ rest))) = 46 :: (tail ++ (c :: e ++ rest)) := k2
    obtain ⟨m1, m2⟩ := tk_app ht hxd
    have m1' : tkH (tail ++ (c :: e ++ rest)) = tail := m1
    have m2' : dkH (tail ++ (c :: e ++ rest)) = c :: e ++ rest := m2
    rw [k1', k2', if_pos (by rfl), List.tail_cons]
    unfold finHexPoint
    simp only [m1', m2', hxp, Bool.and_true]
    have h0 : (⟨2, decide (sg = [45]), head, tail, [], [], sg.length + 1⟩ : Pc).has = true := has_true.mpr hne
    rw [h0]
    simp only [if_true]
    show finE _ _ _ (e ++ rest) = _
    rw [finE_app he hn hr.notD]
    simp only [List.length_cons]
    have : sg.length + 1 + 1 + head.length + 1 + tail.length + 1 + e.length = sg.length + 2 + head.length + (1 + tail.length) + (e.length + 1) := by omega
    rw [this]
end Lx
end Go.Proofs.YtjnmgjcmagnkeabGreatDoor

/- the scales of layer 12: counts of two to the (i - 1076) as counts of ten to the (ryT i - 400): the fraction ryN i / ryD i, and the power of five, rounded up, that stands for it; one check of all scales tells that the cut product is the exact one's floor. -/
namespace Go.Proofs.YtjnmgjcmagnkeabGreatDoor
set_option linter.unusedVariables false
namespace Ry
def ryB (n : Nat) : Nat := Nat.log2 (5 ^ n) + 1
def ryU (i : Nat) : Nat := if 348 ≤ i then (if ryB (i - 348) ≤ 128 then 5 ^ (i - 348) * 2 ^ (128 - ryB (i - 348)) else 5 ^ (i - 348) / 2 ^ (ryB (i - 348) - 128)) else 2 ^ (ryB (348 - i) + 127) / 5 ^ (348 - i)
def ryX (i : Nat) : Nat := if 348 ≤ i then ryB (i - 348) + 872 else 873 - ryB (348 - i)
def ryW (i : Nat) : Bool := Nat.ble 348 i && Nat.ble i 403
def ryK (i : Nat) : Nat := (i * 315653 + 800912) / 1048576
/-- the exponent of ten, and 400 more -/
def ryT (i : Nat) : Nat := ryK (i + 124) + 37
def ryN (i : Nat) : Nat := 2 ^ (i - (ryT i + 676)) * 5 ^ (400 - ryT i)
def ryD (i : Nat) : Nat := 2 ^ (ryT i + 676 - i) * 5 ^ (ryT i - 400)
/-- the power of five, rounded up -/
def ryV (i : Nat) : Nat := if ryW (748 - ryT i) = true then ryU (748 - ryT i) else ryU (748 - ryT i) + 1
/-- how far it is shifted -/
def ryS (i : Nat) : Nat := ryT i + 1676 - i - ryX (748 - ryT i)
/-- of scales: two denominators next to one another, below and above -/
def ryF : List Nat := [
15774614585814146106599816789135604996464956080302569066461205690071336521686467049654074840764096977062195410067727984225770327061637434515726558378822693307587157369495820321189448775645947928665263773631539088571296624507551106805744850455736688692020569662477460842885386588066804063332339430957586905180712584692323805260022616890546901807027744244780944995015852800911944290193782011182701767033434262825491199889765655377092974760401101088865903318902703441867732635145444556461502608166350571469836809871094387156020214178442566160011473390916318362785740973854470475289479554656453624084127662751634373687049079255139401363303874442147706877354451131297981593933516,
15166156774727132185145576276986926298676101515864062763320647840812770849416000310334638018069074077208628879852587367138711878002721966755482838182887677277061060456317831220748622480342088177628078137944049085872788846435581687193373700635196398012376750087522796397199474169141187450415374359037198448023304660305329744354697470521727774299719133343784019812068587843907697380968477476906504911414028075007396097937655207814439471140065447419511996126916713592949358872499580689279702171006533170010787924651187403624772191385876745964964906054416265205629273854356262953384388768719378603091287170720443987615990339660479877589006943482944109039550101034866583213055879,
13938583969665967721181529449519004177281410114168684391410534208726329074385725563033137851751805147829982545832107560542778881449057225029809381552115584141255120914210373484674076127409976330502144990137239612775746804513170152248011567305863712453211880632688067673794624853073405491624241402654385493634318731939751665327328651660521405610502750016171838868817122976435100654828110183240378642531366673118774110564934252747927941479657872576372858750930963605249016479885252826294526187242570184335064406353632455047195865115360249814759018700747796503603890475211371441843113341905507227972189165373185839864703809253713947702126951235896445924802687569871861076426472,
41828334831692147948703734484073453484210192405001253269836491921209554720896635201983822365004531523498827653437677233894776248392042028682701732140668174121607411956331850074378671909873173844851478163742644153954368805512663277461801577503396857279268180326488306272930327093577147569364070155886963104272156362901925116373188285383754222870832279752106499666978332053083063792226400394234655541135761345973283337881896495798055321478448529668466657207553384499244629563692436609608144576265155919706078655561918997644644013543128756704777925511511988335414262105578302763132479249897482443803089490851304627869948027335976691850532999624560511773875275797405380762862099,
72848387795396882160253896394461102047686580030816452295377514383803658465878728016054509672590452532627414249914666962044035971032883925441064250549913077575637184995389872682047018769084869535484854857074069623146547061732444005890107807030101853280698794309075523159921068973536083209038250734089621638153385557150106133605930656617412036007853138686617702763221619519096886585419271722549129739971829023238590677888054578173912421948874893343851742379319806661602341706414667321736059790507318146729730902020033076070959343206763283649060849704083450748692332603956412450959086469257028385888958969265961453821142762149328272100511219630249003240926382059664940455282742,
6676244739389751457400654823436657588058071461482244926187496997335487710576258005557910050599508129089628455289910152689523546780898562028171829028219219060819509467456918449543642421943860831583810437670005816797634132808049273673614860277015617824368253770695180989380487651285014994311914170981463792572447215626324172786852462191948568910619425270599616068938688764023568405145226058949746297283568312054413458557886325811223220361939435799355635969643967765442810739985281371915053846416335652100878545491990586260507122327686058779831281284461063504549253607087228233562108016373383932127447792047753310403427034990023747032205634120191660071308611594504004245557163,
65893473630197407647274004917727286611837467847518476242846615934330554760602597091477102659019113365350314363721846233950062437175844602692746054760675831354950418328435284756378088124095674299541410172613538935873200149569031820476514463438261576060533179229587850839800313329395420503279985850620098213918113122852219476188078387545555547162816923213669526001425555809337182407902140966532390065817233929588195974680638076737370607415509811350479153008662018095772141591373488904051760961328001333073204535934647685242111478563405003305867290617546120731904855918831107212250486743978633100885044391389172863154913381808401696929338764092097968775402847382995954536767397,
65559859689612961377610495180439032300726998379989543994490547505336804090095626127453456181998159624513621953696085876520930866833423456859432999849216721849569971841375100710280275552263745219743074292515566815169555855848097730247891431910518249953545819317794833722203881190510825178862728351713354398492096476373477211604448558447232085973375823496247068152304135459096767829864129190199744653146079843684124518999614373106892863394047880472844297828082449230168603588949167221146079497466754685545457190773881374054696243729882480660194075291199660487782184144053112067627180641598212632304226529209045977469470273299997245857300066449701593890272810920418902014959586,
43276174898018183427756053237450313463896268437545148173434139102407214744824754050839054797902332048034739692692944978499224986158875514321635601039782727751478647768003893993427611022881621202099048877920550243277059761353895429777229242034987462378046360156291905916718578164063399566685075315637705133189940228092041826268557108709169547594926696878529336255140245633997390937821897505758666869273211111352176025890510333958583075764287072553557634024858514853466969870913071269017612673360525697653869349893049287811909644475026132888237154908237093339855900071703242236339164373201657734968847333725111642191281133776884493613270485839690500433882535764490291000209672,
67607710857613067226378764809319877859079474049045174789523270255399163424121682061280604105430298368494034203252278761182222121266995656209573805591379878584215168245454269165184068311686967961676632358449920759736030448978816865108909480326583387062241730160608662129471123001526138304191894429902210196094274479818356546200025163096130445671177880755933970999025787088197927213562322297795480288541184224988824510911779580537338192261417191627167610133648478621123308119560385707492351540667742986437398132514941830523279547677959044196843317435489465188274530642748445485704857782158243496796357532310004862997534732459003690431694965396451478924476819475455045512139701,
94306219605210786415417900680405771780085735329825640239272663117337485823779655084048790279476098126382751596458809665325594504707579837420389939886805774637556327420794385069876405125425368178612712930064681577865739516426738282012166529642347150028342965179221509982171438148213045746084434376407318566669732676984843373334842300483677661922330284117419086652946731893064253101274176916867620381091996595123753489478958015270097453503779060089063975645648543645672571555653897648608555010433997829381999302786657943297336618129706678480232997337421162604478786766276200125257359716194306477901729060714568966383487445713516134377669668810422507310595821469606336043896799,
96378752486088669073882661928169625542842891460085428864198418452540960211748537073186393182824646921953817818029599992358516720587763277872751967452035641054383441828714227896058061866614984791287277051667370215097504223545291578022920924774666589177456011449348486776543961401550641214194783175936951641089121259563562692593007033872646492778424756644197842471109712790984519068002485980626439553520374944676816249451832962448263773302634530982524541763946536427504812136083640162538810470367214648314202370146033796457260856279864931977534702014482427726824446426008030520611217007155406310329514860582124964212378789448143311384804465465006713292086439468896737651159232,
74261555262537252877531807497218150135214070181005226339624802134347609540088402565110203133386979900397697952865943665312761543780008604115122704165062254505918865739943353520393260358555341113844739489449508639435645199645072683616314294386964516053448487421623209034328329720813401153924490074377332977133688328081833044189038399518734661155110141733929919964152399122450260289861364035181507006724557748441270680999991599458100883264244637034106782263821044368275963312796321846620770566012037747076252239260477889459452423125989601184376053511230216513595382045208925870923262442091748641737946744690823911804542888079050664477890696006533721226105296778841568590221127,
96728469930465791536689114813647361339402570240126994753120241114990227408781391625932285621096300179303853534209470642592120031119213329349191723932732265388121620795405930864760821037545586995793312636459559836024525136775933933481398291266693532698963087261548683071049705636827691403753620333547748952479041930724406538570186441138658572842959732736519567338913639644906287806759991078796491852099744860261571272519724959677800270984696040286551527218379305077705920874392777849143102630794438883717897034896752089405373325797259869890555043948667817239091839897167792520713273475119215396768548130542234173159754100200610225333332703655749566847026299238551409480865831,
71310774575300535658567282895663514746724721996630706598272069551514279489813309816601671615990235876037194416821051584805344411058695947711544364207682152647162284539162574604461562462911793892384658225315861586103592606212170776111411118704154273750669588264839633470589289259332499019356006361565930832229213478873066105928819700202222287228127776254239553970231361575761693172188090690617287331015508287912677730901445197263755327968490298503667428708937176541332084421523232264851925112354710956145482706419931080903111168130920433096710565798830334469683799115981693182610323914950340145538741663478678285391071161385237985683430530934174752818506903929774999575576073,
45471246204714491759609768487102073232046397613600619177614802839054461566616730914264835959527565148859269039991116430217694755524485681542242689225293583183324789081695146748443433531165636166072603569167349051729851650634639412842940554604043773668093040842607866867805118078626236041798975687300731937409780056643046029198879367639250882144509007532346785317984191161204560840160858596097031675732668266843957338475507707677330138863886743212175699240295697699971141491852254762614301338296786346257522815066824306371111557839150456878744112600684241169225538523779820565005405474431023074348345727930917809028433173316814726213860135071232514749476819300692630206836039,
79065991557335327142148097915549577430188971888821053456955198396483808411261558588819738770561837341768464884227710341889191583738221897026290916849409996432943181317117650007667862547790022310536524035624621086464472831694305453045877041893698097846917851984589311717795536859644365420128061459301138407343261069270776482146475425760257770856115826034717937881874386107658610656016436362138578543372845045214261367947111020440424753006557897692174484888473985306312305029049368848204881107158685676766842036226986286726470110559711660700466601396416175289873234046563457466481498513630201615481054936499919155700858504928704303505034437421857632623253864590076999721934113,
42067541250545746942021654855631729386279779001507702569093136414147061066231593710562800066465961176440307878801064001340199961934803846458827542768983781226201658398324190241201781607376075098135453342549460918260340871875163078045182611203438397190850712441740106534981858649092180194209929889555012862389059083328844394137396046651507575640060624072621554038532162732520936260917311639170581179524633707949593752116430247414550927754284970194134751370711206701086620711739283940093084059613224101816067956623679427945161532523742822146157390777808032392456624095932511849235492132876583137590925777614910118946186679512125150353876755219234504900439308512140215884930221,
26251126353421069245381283178464837283119905062679007064380214319220909663776738804650004430122509955418776563300070141833869747275386007463452236270814801195666667382648027449325671682233134668029330025217630452138048598454899567406116503613929306715998919868780201109895039472292437454629907720670940895636651883608475169374468820288424326615076467072362217227798704420804893697260516021861107512675119125868582360031631127678954423558216336137826829217445506120620029059255838985189258846063010726966221162466275849231431668350792817864865438478421149644219242173219012185168058181065196954775862456319043380144246569779021487006992255437699192750181672997332234638454716,
32320723013612082431927453365650606234574959552682422834340328180091326980482812182688710010209876107808148582617033586435668662955880596938968876036333253403494261344110212869962328052634056038715010140189708257334597414642988423198420033106635550376191088373740980444188519602339584496667533008548471754426673340429099468015588859510204391733493500327084457889231937867374152246713641399594984380715880695420691211918123322654195176371368851381860303134534059297752140100165808685196016001834439247465642615090511510445879337170006668841268328898515039213932723073023487834689884917048620119284977827156330074187783244941034687692399132530071881114664440959081399142870633,
39742364445269792977042793235910980616601039310325190572481779165735844899111253963061779538413562237357008515756335391099359039937199212744133371492638720891573348335303115501626487979862463855663846633612851484995207226087431747330807345112304727014058413255078390821237346257155751413045542055330683878567150833816116328736955766702732569918253973669660012453729687068513884304308908521544961618942523193418977949937963157430710610749546695343513936208709489860190035850826613207821111566144051893084103364032570743247717332071810846897882496518561379545398051430061012381959038874190034708990960206755998206625212977391834539136749632642665427041788958062265748942282908,
28752896118825920663829731560296727195140277890239571487275590862686654911037481110193813037186765857337284519917360488926593589016082780662949187075055712171178162800589887290693467532472792217392249105724073761883943614776772324745757786658171325287522300518968868335397421984809959477204737870287539632299833739520487834498942459112945317917596433891172885099808119389456565129856355235766862375835303788902771172121221771936821469684221597697930224615789349195725924117107849945167799000061227670217491266057006226984810833838616640718028139665564206452301930663763681757429140151511834131281065798753386713847160023550144762556875101276666906981078585439830044699886635,
38740203208955991732087471044073710749033843608760708482971549986250153624430439842466098686132796284415021176079223148147308536360870216276387961534325337121484849953660420869120252464099021960782549760296581281815460567141520407469428631955726577173882260014813811018466495902212756230371098031986399822789815020956410279897053612179297505987028168514039788224413148974319223891099684330231552482544279039949466381632889215332178654379094381487629670654938203821396186149953584204511669351998331069660691838644383406517410253080877530696585493411816698744865298822098672420972830687753811146677297186042897951157554478825692058166077192940167182179661891945070763117746460,
47040254208544793814393653175761591832259090945094988124719170404223062958124090410167781145111589665523604799186367502361749730985625869012881247375743597107426310725385595388526855426040666198327431540799463500256982672566432114419278604426906847412800381419806785055947066963316877607406562786863897085057931400222522611652745546831316713454444118955557069968087950535717078806779136005656033242559717344816149627582761399748444787792575497380398615693105880388092462604191383653729993304410528687136378361045411768449793224234561612752645867731881994587210648775846484565035433781895401316074832959420694456157480063695669965495821361748701072198684295196149766754325695,
91958576846089482422946469990900365887448944314285143136871101052220341132045642168387380796791461108626844258582864292867848532491730163155254446336019711586243502294548035637907529000899819900616583287575593350415285395185332352387970916703754674858849676037779483220646225363192092402382132161800747303356453744144974672726994156328135177633085216156818131357269330167554056540671690174363333104073288934195035151882435713533208645232973997915664322009383234658705485756232573291868835884699133290446483984401198314368221222080675920847356694742244078509548376081268113703976667757081823293941829955794694152928645530847620637400558811054047855429324878416892777489500391,
92509181103000217394762937976917022055761338923958473818055061562161392304811321236241554812316098580718531066556766071251067457091612500311913102359099115377330582843383121823491481301904889254855467709926140861832934326619158694992364654090935512977560672864624574215807048134310305234866835033536872997056432241475610849950278047488007154689434397639984385857784498324066889917363123664467395890925140689810930120155218665112963977238024966361654325414354439882546459553069430508981048112075735691162094357815453826577878204564438758764049501980702822164854673528605400303039221095136240860509131831281655353262785185098077730984122615158342582630931770972999942077492101,
93325772858500262705795258726459283368570453343063695939672954570487894879189644408491071619265972404017034756266187777071083659310468176722207603388849862940670088308165110884967767835650719091254252535098066788061126293568101638022419840233490206819078924654459535962868467347941546837297967310861951309306600113721569008555172525624954480735735846002541454043019785074627100720346746121660279669456666171458631324403699134478537605627138263569151085025901528257832731550594698482002364034803041129808574255298935951008982603755475268263507032123972086399568342197604801944215411575908844018756855905335665170225931364185886911726598096001809939130321617268495943782591737,
96266866026964695711160596209951311669663197639827446503688134965064317542685763007976120129052553901576413286231727383652022361953798266826706470977937122489968638170427531652438718990253610872975142332123519812069070647154791845935584208854193516249522517376210993965619198290838933612288471140065729815522678178022425302499201770007417740189193844503052761529050176780896511701355001022045362877536713648504688737054739619818228787353539111864667548226344700614257554672651000005571306505152902517454404902834969674708682081258425735964291272738629754530874867902546518519427848036922551511939548396791921650662158396535945029636580327816761667815093435681570006015352259,
75927880447712834141743506355088918568234736693570223525479676844717078418184221620840821766801288036190469917403122515667538766862195651485541962684329672721827702605520778913838814276505329110934343656373080035094045389848148850736115998459572701867892917703044390419591392096456486495431845493317976705827759240807537152225404578042523519337132204087488282450256432934147581187567208889044156377113396354555137354024928431337490324402517583883585450617982668176198737167169955234970839844848898899302996980164590464606114371701839598476004129079353271122333520545335482920080786803756501460048169357779003620431744999169388056486556595322258648300860669120445491065108113,
58234488586833044015849886087447412334071345701058490673106790719016946523682433459785454338900752732023119631149927277395837450299366840192331057096144036029163531554375307929854766315763716049175148156864249032330342154942598737118693678668574733213094813023653445072316359182639594253814394560514275269778761867008092362089404908170183880233487867937685821225668747304638348843117627644910465651449064575291514967363766314260141862042209030776131753204684519887379228171765889998094360490036266116823062451402629221106114435205489123399203889273252532985595925895453786421394334442177173002053621795801173494923046583234053302015562414820284761389895625861457074379922301,
66773838594649176498180677207081537498678483008662517506237833971429283097723186490402813578572004802533990259376317169958924218858764767958728994124025010219033350251722905289867733948998016257201466313741080709030561908173991025188655813695942176892232827970139444551634439614044156082172056116599112373298804040667816772719082559642512832164101548992696712990679563857273199398286376244367794676602750351060371917152042881691111799622800388723295016849587909175493483793024786519245980143643098645764271491495382746787504391355304434093940730250493643049479745648146305737557706635786888857250531604222569630341954892827168762907984001553153595007597157311103883851367985,
57852111014216428636329994664623675141954842257084266050135811007423288292647518218995536875571001990269821373852784976475612119615141546068146870781132863863689890224238720416806161721032336006756711451041635615047839961872384944326057771857591104584953433847252228676558683617359658207583440035528462056222354882996534199532981464780135250071466803779838675801597765706417503283172902817997935829508917907225566466692662406489647012127204874000966352344872111126157029610130498958783538167474798825636056894045574225369953128201531467530250188029744526587827429284954873796458003680217276442989075887166290480153804970482859065262037821708163108199268554126302196491847115,
35695417197851114080051903385498293762128580760022639938574660423830572539714793471032851513170722732895269268793447088933351681495676946327721440981672730626237605478605788655019712021040910518261016546505414724605028933802782791945817265285614085210783890628332689459671625385212556415207815073602670661109744508905860773561757245373014898883453529663711146016755959862539745499177394150620884584396108075517828348203201892247067995853972530688748576079761163721477742166510425195526830098092733510101288487003279837136872687870653858260247761770032973530743598892594460380305138525902361699307542174830753927315181769771352199086725781274013649535962890605649603928733609,
14044835438452074029917390375425316554320037264962225937239830395243958975713436559754190726311374810709772791880274796117284690327842907335979962509544428528746799552548770854557062662686547238502498702432032155518488789862573753019408444234881340962489920414861352605942831256608993907235803668087854802542440548317795273825374677811987520083754059932299441924674553955702331937474985716927067493495389718408156188689455588880225413497924697453489671927213205785530095760701735985337740229691025680537279154627171863589548001785440990779595181496460344749539087361011221147151269575779643470186736983210044002383213845927068997074295327381831208525458340617015069869867732,
17117786681533044006140737873674402118772726326603876186294993876386511112840335140081476015912998472264562665068501527551699151098076900049170825154746261290633615915574177178977234073027273893513848239003737646484725223095612264295032853861090885485637837276712371799313580481387742308716508241309334107007727782470891562674790876648025766786126873623950040781296496801832002154043424495179944168620928791427733540353653378406802456373807909771626461086181542675761622128554838840971296693764524196778812399457698029337639483408587680937250990079056155956700554087753921029711635238890907908090694924658714976692972753521144170323431721163160526306514717483718448117418473,
97082160753029914147632063885426879725835823861914506081085657677810089786301885269166783865321347239662133396924575053502140509119582248453217314670680136695205303511040442038332602321787941551413498690247594018864885730204024669336979615713306405239690247033989976171318667589714163105002129081600921422682456466168073354807747865468073157772074432801710370029005829581809781709583745685814171792431597676227220953132504681818246498373872815334939459144637472633422487442238393686313616705496515288346544163831082231029390421723672154808272554610645071797287417417901046629741402239971305696714381621274243458614822463625899314213330907040648526183688453911160361640884644,
88330750360856433779543026974107754464915168159221733901869996169556398073062884355306186878125832022255823382594107131825759383148807190362595030819073034630951042398915587076617291910547464489342773757344576011922448374726640914439094690259368360967210082899059062978725935411361510037017598836537976267681371479796148822188282232120266601592134909182930698527448878720401879289590106710126071707172989942927483973809584477686561219540460146901978996011345877467460676117668250274917978375964197599719595978058853525465307146550155516835842151265294021364105790201976815962839187637952921280680080443737477061238079536437516338288734482547246573834205372954460846822080476,
99483120134993450188764119629892171059983955450779915125727624020903804771098743808281051012420661306952186637541831035040428935358960365389577812638960071828186597228973310915014277170576847579519721941995257612355099564393545130289525871046100302711873884327921174260230072407110740139923679841173531689511577255084590486107194390502577524704559221484944455962993538175100989883064390441626945274564344005553788061207872530427204419853272085577865941149698308055876579400203442846731472986494687082241377852480135118504271560918664247873633446955718492105926325814724845145708762025236036192453541179828991656182614724231017620367272226051154218013511991620267934389794228,
18133137708928762671291250505819848480965716819653308902590323643248681416102043540166471337039584129802885927642082574965200073652319911321827740676387425633532605674479708453792346973909558171671104270909719015620847922805095573008925416074314913941403262556843891729666662545596013254924998933378725401180577474631014062861183115576577032354019034247093776307762168358065229578189279191957490351259237639986561046087764038836008665947969778117921665056985070063339543196634071633644189782042050994560953304403212340478385933727608793460910679064639035911949110425536556257422058793503476351372858939276051731706264562767833216489653155591604352087352945104224384287379133,
98482480832747919193781310763755863997383828495404517663486762738281746937299698706747166256936706405801632786609853339933151954156974278753166853265345744588363524419439033980626547307302687938265634243494232098534586583064172994558133108520593361014727776039579108064254076601634560191622862730712269355274446193914846742485788241060063767413236917984197521039818204104192852277301069658459920364420724017867208942607929933533041370614479978116252181310229105123743168817965140999752527003565663622222679082940846851609952013739532161956744498030381464429579602448029770025840383443972950206429444125397440886103026248324647896511087308754605328492811242738037936206239950,
61514804697149196918088796283460119782266656322118599204122151441506165966561112965969419759154909093065249050884406418587444473761646786362503259993392953603459044346070091704340108450755039289552784430599457259087804715482420269509805467295045825915816487784103255242382687287431001015953631251187477880808194760241851849742203140936709242144684382654367614325512718531251106328445033608262988746341419187251635996314783260612031780149874914987674458354322386187367816918873130640923754517167265488741422724498214951327070902093450916546231507302892813156239065448419204080861917298698369064500418608460917747653710114134970998260063695442529414156693160735651495072533131,
95377579916119767002731668646253214689497275790683302483989336372205607547749431281351312642175658850617577650776109329212061824232934431143892044786867196449410347854073336071259750468770075206737799464572425182600054198476963434872496376593694567797707724006953923859576326092647117552300991476213871194120979997367992826417791553877696918524212172588913045777866403606938119337842466675628879372012218047187007983257843869205320362014684879651884849626339063109985395725222021313286476470284611086907228550205515893523208242697349022964300101396147245311321468454130353793322768455392610285346571867405740811723454607190176312235139330532930891789505876820545594574046083,
25413782269158652705388558564158984759539263529140199002125862269176593933470765122855870981596263802862257278641949635175687334165334024673609719158096608303046376120396756369437108010622424110826840974093039687335915492021063888528135612292391363324323153133087951421315721067156579903717490038326489719473711451752163803451578944225876783817284060324292241928927302915660484734582442214985262198436440265799722110975771472661048523687374031274992741127687123497384990396804365934162460509931540314766284497487599087245291472947996734959331237602260950283165314206342372710860731945735024139623680974869492198708911806743860777840893784241754386353117931677307234326470833,
37658918854961572978368638332437148964467097609410003765249574821703732296748738774297125639244117211373334663170130045478936674496723140415589186342159133267628514827620266419196500523710129594670046087686128524340856080685361838453883384063050200558589671919618976532585273096724128608774735581172665796678904915038717534148492112869783263306486394990036422669589353360373617772169316828527521784891743995146111306004492365835817953340484391705130733323617989145019598038794130368553035646084450264280809471553250036793188673946374553123792981592234610800910029038701135417665673800684916886914546710028905920739676723054242263456926315413223401005357729539200574622764954,
664636774745874044776910290221067986667837625273914731563326472910621077329491627381688630206366297500788979004922722383329976943641894613903583189081050198357720543856885486852214312161044608847316807595516034575034675482889031792353244460760984919148066235291515830650762247727320866045378771796796736272479237938716006552475110571091314339874274672816513536903916913484848756540604952429416670311955704680807489149890286347001262388637277380652067348123310660441989289233945293234766792343995795156053551417790904686321115180601009627805456880561660471835201247000295523,
0,
0,
0,
0,
0,
0,
0,
0,
0,
0,
0,
0,
0,
78084581939566154797725724079249307015020101996036881472242417878857547334859260962952127153500747154832174918446772133881803707519210503417922864972906153865450532803690511688167103414978225617422989465963232303886614576378166122587267602621688163172149503127325485469694429937520661028638612760843344952780460993364384719611277100475591939586855780559480180668636367254071805930597752490093109911297805446531139201602801284695152903013901755723177814280763896437502168012858846444326038180515422193184945248117100563305424647110458175968020901051795287315544922727700376527867973065389425252832997347683935488909434915344156614160934721703709947857864868718575884234129408,
89946162169237061983202831899937826604446476877118168063615189969125081338800892158210725109714244448898199426376545155699252690161780944847333029939697472559372918608440987541981687846874085106688722213719567043850728243937912003380325629982224963453133228946889024238793210901406696721544490026980923202697617570943055716528414360851454624606559339704170581448658958563246851406540247416108603953888211846531304868060718545469625634451937469649433543478725933005336178963822070465209109843535955941467745685616337922921672495813023868937361526006585188304024073073140886891940747558623759902771137705256144400135215449432875265927200918004191596320668954825693158462345746,
100450332249086414362168450337337401846481386518060909509810731229160159884006321143228599574377895556333276570742716504444930170923592762441064488414628331093109100753274435393165287940515136240962566328587301905216547161682775013608146176552275822447027510561855908237199079501421760615224519593698548641837710309871842463491912317632899768924549686531349259482824639344368212608902665496215553547324030555341270688467512000258205201593555982044724657466498802535637071118650895087557076527184371707443351243537936000875077568311468698858017347021612876872301508224498826245308321201099535638090147653085064886290187871567096740094833184327927640823604850397355820524529425,
80446928798255182699408575205449416348543158560202017698864913298353984287149437968203399079569829919915939762214039490059879989245793845515857520289396155460733128831159032985775818656678797729321042708416369839684758556025016097955368337337543912811348237910296462824949810503964061146508733873508360888410903384067549162530235454294349510350632162084682290852149281818202921833152785225740518191281039052649691025417702035208819958200564787063254387449073724588333552965631597500386051048133685416153637208508207574329123683107400022455186643129530171783526993895969276341343911680711650255374909816935991808317128417447665335789657625036664601041112219627460173078205291,
94176635450326929436946375805403327125137199689669120238753672221042348084580135931019170614018084080579167818632644289761602934772534803167904636391629141088765342137550237588779859975539388329730979681312282151688215124882785625758336680163006479573330273363451813119940681846654556129046432303616588624073410657851606473475460804654742110643099056716942554089824939297429015002621773879646902755212569688921069015348350041143438097133142333862348882927357769962016358373045127698894984751005350156368812348585683771869451310329324352397944919229490761102087272986541976826147647806663268707472116704714884058994990180252063385373678008261335739769487674856094841794076895,
94958625254902770564913648397944125152505699911150486337553385831259571279097234423879890019627773252631925580411943973178743325153436314759026967204718059269176044781371950558656740988836347541565563724657907370215536323052057448381542798620668667855275095431491274086027980288812980652310907243426203301296364941248871518693594403415849060767275154726893859072193774295415981112668733776107230443835167703234369911772471261415174520748266825692256362434888378104929711412971160612940869227666040752229246129333675789047069324568194757791098785169529994396602518226587077343149945826823032406685128977073811651119430771818403195134378097651393068861243721039699896641258585,
87023374769736845756150870730123472706070253959272198972108703643293089472764204304639178104411377337844844384819488131841700516945833740774572244621858786983849844681580809867580930505732326724336864030392022145439615465373132794481430680840772603010443348801332675632868581581678243074636898416111187586242915326486709862867756041303057195477838927279877783919833648105295031796106916594121290342105201366841348675782997739086320566151144977995541667557816269702181194580656639709046518901347481703433264034818117236292607050847693007111133712256019780222411173403808897627778455812588642936159341610018860822755093956774750149050857774449379536888768768307106087154386252,
693700340889635966595477040525178505749851839405611006481634164954482364428311483206130783117418687543269115839121298602768998504655885580518628209177564861278088203728760315589496956527613829170709091799947253420082300089376553265573389660519566286711928300721069523301350578006863444404937387565629623577453758568260486654382325821550557730442046745986355552028713915833310322841223934861545897535332300502723250138617724431434612931882207949117080417456166633627402368259416661597106276739234539270208463561927233294657224319681420722910218321381947732194087198133416107376147845765730854889984841373101050149946729100518738611102733402996399564045966893918677043238103,
91965096935337270715580412052313403411471844483850118173754951212971841363450321042487605216601336202628291238481870847097093586865199459742511595451324700275599142600251468468448098856428275641328338690684022426520465734960115708599175121949832758767099602062761331973073664018123653943632580745448789716607356082793821893771071315342422381709949059164941184322124386422483383341759169608008561735035432645401601117372019035312224578886318520141756487701755786224569461136578166703837904879295565847510170574790836267955939470166912765970810345495144650080211668194203571501723173867978873046454092107661781686447149690839713289331207019800198346227412640795572099435824645,
80501075869126273284007250825281512730003458053479323405551082576186967029327592631849335019300029561152874355646504063690384553489675717802507960999004929208338473291910713669252569919756951436070269735116673030289845978154928136678927445937716112267232651293676639302815881196269342299233173726496407975252211874245079043086266659083664361366500488865754280296011735104045419370487935786756553855690292235620661477105857099138182759924649721239561360305586549394342876971394038474969758932937921459156648758058806698092927686771192667679157407677411911374628626869730928407384123200098838175704127480821535994047494082740159419137529304669030305500410409725206102028844056,
46251049268241093262067994215134027576902374706831425010445392140903336694765662318228468095704528862666888318437461598976294652137165881007824642255510435033122120396604209260782072113327135604139060438944813435213120195092100998901668359905278498145487170977440933014200028990773627364802653498359053304793514908690396792265887098298506952886521114388054019554675831493270799751255628399244551242755023293656795880090809204199996864677304876983527274886239065582983962756620219667455870458117849057795552061694317676510761339103622543056034390406359099428577427511756908435113389645319993032909637931876811656071997340430185124752302191484032786977477874450949776666899056,
81472638908794965623983420188607180063544865101174799915737966978077052486987278812883059859122982790655339347931266660334766182630862398873719954859551986076257027267726542283702995759433176666547889562006610519026502447995346520323243359256732151797559937447498252739282177828260112245612456301222863651666839562008545268225835573186183697220217853644553181587395614634986669198359151332047725917878980898728649633161919911989888237968965405958322215311920281528522934075016792056845445619559135204732647127734258284848423154032236160386725935286928163345187334819029071471663561635456828491075056880949674462316315063984151164672668822826118625929139094354610116044823883,
46027573799857109590281077355238744493506409718500035377563498402965079993022619336818408307572361479367054866709869790962277542802470238074266508280489752633214877940279690348711890495959717875515170592495532126811203911996582127116755201956972608912038666823553897512208521143274573839779996869276432943274268054992307214138056388273759610292177377329080616038411095146028144425946460892084704013146350593670501293512416808946880082853865563565057654959882352555139399167201509524667513333221150179161582201697024502255091931184138804135570407519322072673826085098229967334402447509316542243453452898469633221795008097154217917622948425036255058151859854068009116378353699,
90024794654295577785844287003813344831415030272295412536654861687527457842957018745743669538108829885121743729902150966296645635031203972077446418881966580220618870277484113554077206905958039516775352569460059102688706474363937094426972953623660836978019273016023249909484258467341012611276110890634227707175789691977141322023383098969453575661107487443631388976894664453645617433629397725665295440021626485496197043819335102410943655544389540248331640701176227393165243948919633769681627926251860082978994978310554609959631541671272209039390036714659359773539382491923571294518658455702709372283067944840874945828246310002267523561723778652627992156407106624024458899997784,
91058393653045193026318808467650237539776413108474144636091490531113614774746328754052863940892268381918966478518495706386505510065417385811706787037685346784204318056109342332314970422322794940521955656248054509692654841855013288105711518520423475177652700139758569304624167403603510660161163446915169259158133326484651845537420745025592658038055652391336979877879094261064658870200431757282610324337189330817815427337889026866298431809273436225302799344251535585613063176979732120869245107285472103406805347306646998493631066946878553843671248795649963043899912423909575303977889096845516656959486816735772764630843952810881603664441896716864694289359659300595668438176471,
24129388801345808343246530259714794511161704135019375928980321948844552294170474037111246504605995714620350521703803935565061351781373512760157825930625492220068538980474763626222651359666434100583084401735861005776789932518337092829232311460447999615517681088383578206058945118529729832530728241160134149793931772156659465088971614479624250919619977895610472043208071666364334581759985040291701156784066676423471013962795385895779881980694559914369507409952203309637408258218355040147234093904189082465826776149899059099035789027238609508183976570995655306147844929724372077416010188943969833974181616610525786003289806537934953214017984733572202063969383051336216251674913,
91249054485315864804747819940433342029297837544549361164034615726201163087340121486338723060371286914757390299020887082114883530675139286010864020883510719282455705682796742073194557950680003305768951691544601300237841453597486560461923154528696004327987218700640993168035356632950619221871182352208435851442919443042034082394241098647878931479650922650742182369246632991177271935119522737513987999575938785676861300798769510017500795493313260868326744253747638967268622876181197295931302077462855385291291819938003456499168670029898914120539979100406087461002907529529741849047967308788046628678382650770695222384252846147386699136061451306205449432663317583458117243701872,
58234554269767555130791039175735759607171030062400482716601427460099855720410661681999604758509867742315842548821375792629558606192016215465085283030107281368858581078836519818884609760864448409876880851883035978154187980037041211426011260840252407971494287591017885746650438506064591235770908339003051887156006664176671185386047951780774142124892574214915790049780728772182218358031889583674518540155128636824577582163727749906962497776222546650141645411871241218839986962680472539222350765141472699959150352802095290334132365441469055663355457169458990441236221122894226717061581202567525963949251328250315139152424909027228317471404192347475605613040172487408769816214741,
91736697447816131803845913232581864387788817038214139367957673363700997152098978226551469235020106383123394400412300141759095775573705266240296275141906401874933176915892734778861813620600306258680146434316646455378841092248542216015863011240079104020732578753067288423247402553751259673426980665696838049674300113938187729672460361737076137601858748224744141215867486230618799780469496769403797489485633572645998262009331496835133116810539835387196810800670688232878101536679398409717568776530474275461216578028493184515253903688105387811430864805509823169857302899088940388171412617412251369574288739858302234682873674501672685182441540515990943266966898309972134798094109,
2037460510971274374080329641785007179250470332985936833500245845434143921757654660089843334422253344490259439340657222976219586576152433404576535106626854328789913758088397581560697099627585151233460601398825553422757891213962229054607287219543030769831168450801134202675446673726110460131717131761575796809796697438502328005587382612849821253087919145540345277218617001979261988035112208253054145739516499364099169570840548337291175716915509220094986399199204528254012919883736748278357217653463869434893549683618985375555761459422193296060939113555260714775027825734548727163512937215638093237884561781574180697947656074444033382280793531977119267051360900891360784030023,
100242316862481828493251797277006344076497259266441493473043809670657198502107490147886310598513468688728493834670458394825647866426175682526828844956796266081142239822847190585028202301630532768663812615139739759849223020904881928772877260447537924849418863742755191695132512001035291211803897395855106061953020760128328404044282431100085500964574373290530826443868709035069623545486756538774720473255796104660634300432749960374351837190671790807497714011760978444297898280009320491332264306902803145111278960452740849428377524835337487633849845498887844671882749081708989000728050032709401747563166556211996118636673342968700810751415916743097337697229792775991087808545121,
73545535168312255393130432486532604744183517240856609339573299698086612708995841920126385495286174777344285911934486757172684204465092908877149265212279243818975428602667403353642673931712660547593956858298471943863764369030343717201942439276981694005558303124778800574951423602519210546182452175241196832146615769097251587920663548919279076999878651355476343889056371377640543046187770361384725635558360250238281468777109504098890217465222635061248445905642744427243823533646637060989450427390580467934404347282634817602987856467417743550783937182965414320302321547843531234340932062386584461293634305028130926084848542153869629550462504467171091040628110049673547154707362,
22271124951858501401174100705476807623551450155437260978209899626795958301425011205945226533244159629118639272819708720764708610789224427372849520187519191296918881724874540339857214892923737650506953958968297875513635396259481626472414308258572796335940566536604683045957146285243956779447404538011813994543731509160787379391150607116022030478726576465523742049516873024786172673267949759076087415745447255996159188815084457373878015366396034345749853086504362076409350107871203617945803262977700473915713945417746707591296142976232349534382028565579067705221655339377511032893843598420978000155484283927783750731924921317899677690429762624350190694095590958554603809956266,
50255582438765193380991359568899266099312217203251474789370071302619126345809035822501532145064835718224892514900288730425030040894946858131101749450121996665788169710921455854175427846473138941751058178391139140895081847362834942296661323819944983267307750928588853200955758762121215826231094617585016725246971667566483566464512568610246719072306371801824135040482130063843544190766565964559726767575895738521891210375945457452926362721692550296935204659763439769073752465156396438844941716850526898947420829652901486412466531362798156826236139578213416374248174954239153300095890914887168868987961470284527117914955088179003766600375341318520330007455864864115411245640488,
57928751072446866496912853997788488926049663815987577852758998945487075448270122581505844603993887779716578524544311494816039397964305690695900125851402662280747445901288099114144888593049688586875767995218069067921091380313441453001626764000416301196769811241998972874031140275955322931590552105988720273117830149871104962508208890058264898328357787895146363550641267846049918299428301867598705120507230454438011449609718774109974535365388222090047291860797903136304502836801935302495355494308312852018166860783512291930958475447802334229323999925720292483091537522833147915471340512231776591631073537389181915329674888646599821215997456975312206291232976736263813018933136,
92533414735801021245703275677946991715622636984591058223774175981190264260311696582785012484999231638554105517092595628230650778020633946299510777897137983936401559966715246337489593728420671274270650055297924588345439272597363569639060932888427969723028256714175874521198497515384856748206194313452913566562355231705742560099927026323827306571074711741154865551840559441923648192150625277601520742993485996289294411862444206477645275975781568067311444955052189104476317530916365401981884825055245680208033003668021986561815463135322299118566660463134842187187088925489768138998131247086280976493342927007400484528106712041679123643288865392227203274339059567047556463025509,
15970220551452594514008243552675677111370456459527524032122837922129579223441784015637084013446610391577679153859042500478615673494957017866065211606432804756656094505289450206097743543457971087594077944766343288893833174511555672166828324498638170845168529220945557259934718497804231826440735259988709525762018051436689399791506288124539028482807039475257490462764964970039101032917595072561478707480676060426915630039457634077304506000784844507879610898127694479354145017523680330186910204473560126359739662287366857285987326404837429413335892371594447004055176885828646739179205043010392798224463802811632830182258541014062784004045375695140259504669255974757752311005433,
52481540823577330660254377314147965161946554552477432181375284232370113878850379592294535432575642973667682258974710906524035131645475050229292751120199254693794658541856012132497306733084727680359850423969076140578351207093345588459344717441278473386005629912307062347621659356107606738226391240447165350116978383410001154700653059161673972710510662085409904490864570512310380491790469842447788235348850818025867791610285559038476926487289231288554518977518928798414768417384583007112853315444570205437266890571753017899823905606262018708615992694159384596324107536555542831454566734267515132063674004022586780049501392877561436260166454275200406379188399988131020286919326,
16366225315590583213620535826750981066085937650906193037835679991286736697952677860941663158673742355883677889645004602194726339462373260121058624576423895026788149030869902249110785551692367285951801195350788766180022453862861456239882670805519717986800033249041924776487270067656874938223482388698738962073254317865879999872830564818085293053078689914335782309341907649393670130630471915094750042655975066674130511556196270266855542242001566892192466546696171113894195282025015472698221850209417034556574465111941327926142662840500871229744032846571108193515723668119803928468328255697070530640865892833977055488961646396614209446418386161943402587991064288540499978905438,
22600812828427474000360874847676838483335642612387155426911109531121164409565586273407175501474115060374346988014244193934538679188370854677646181189894759344493876941152495521740116398781081636113425024295610365734711787685623788185889146245548781678180455033041781624092468904784733832709343791304855405418478809007315314824961826344418898559839912194426458073749460080305422983554523207700000861635806248850159132777237135476304251135382415378209448907935943703269335656671104645429180944312097353746743667489143777522651408027500020472018461156335986876535526667095424930428025756999212428530835648372091718372826028056407888532577414134982864609475035808716886101288984,
101373822721103852027648328216705881739460126093385022509133394574133501257911121625463934759976961954257921679457796526121848396366047605038582844143485494634042307915299420795335035226732628527206183279868174894486638171181054370642218209425169079370806276339704114755945764494533044104418721603437581315395748571975197129223704133694414467394827758605632749974160489065030824019402259772388889030497523559671315679048430457639181347220067724884575785976339413322785209526763851624844243620637816590239081555010484278622674966085013158152059878972090958716405222632820480208304408922833909236999294678132818290358166416308961291998762511070427955032670551841894630392902299,
76023129599218356369920968210885336699766137589882282345036092274734106307462398026115957023528784164953566054736831808920089044493986500865681617774942529314236480981890161095612519659752459954597145170181641827122384840247040055931855288568348830164859423924708444767288594913215688958986115986284620006368759038192417986599526139685419853825340743641423107826213002980433411387756057228940731610740243389002156433465758277983973447980322472166964085968633186715793297974564663384818454046371006420741877493942115078620244609155453515004183993994756875448765251624428708013668904210791879893317774571193668798039683896816496049821826588473853138849756274167527166172855377,
100882782373817986442332679295934768718346615215395483269862952698123418001514548181638931993864893145335357931820635293778109786726615066371036546399104491528084761008507430916948464541454911251881808109256372808163611487615531742776352373108487700724062539752732936293185089003000357825264259172613403799104452322700419227861064611074823941798170483763097244940888514604709333352313999698438685178268598796705709438949925148499998857974841021625944254968868368431564111310137703930417596751184614135261022658462989450738848857909421614644782477408180071924977431244220307530543643724134837234136832418469013451796456613176443482336888426515432708695302429344793230317173377,
32016142932004796889451808969376458808822026117068750571108573006000303624786181933038828576774535144983772962480246205793121213409204073969091058049397708021634757688117673766076540236313290677715824380549161995728428558906421460299354220045099778436302399892267881111948757298663381306659404220257893944105342287029338579470730466874177590849261398211246431832118834125389801961025697304674193872513783523140191557693636339959897590280930044106091063607847692658940015412231738581555796612917804688681693902368945585847140704278603153280480668401504462199260293596773554279438711596896368494093748810922880706343148109657169526427109603817155414246689028896334027486511977,
11324588081442126409807584391784284989893295085789065152710558613497871032873994570856998660991277152804617233858755930335675298466493566336025306295416537900967949947478168816685072564077644377670112053266852184141615619021700509206515040831180802881227682834275170259959130404166822138485702502558017165846377459990792137901565135390252547467418746465653503989250667259022713967631135933673031565191072726166455689773764621884420580292699825302063921577762244337590476509179630441683644742593220914137096156934895830689714047657541541801263940235074410197053959145797198669598880289148175748904550466045929987798512588736780466199132316582490027763555278747257265206458455,
59875424450403818043766715247604449753387352641338157780935565390812306181365705767524625822289731260395439103996732860821221075558674265261168548355925901588742071541984824834071690543379376647611462555384116657783691847904453568315651776909374119558622902469121672130210092149890823691017271399256748835111293482762184202986080414786015169411710220873005323882476529001283064980042564745697478309061399933612812992979434260023479738722620081674009926523298837415666753273332479124917597967813543004425437405164295757652203078678492911755723132685135856200306807152080361130229727400239688592479690116218566275215086745451548436223197503098316743050762999495545830591675886,
60508043372739462860170473518065548693195071965853723427892461974860347928149467584852765451574157990774574383848784684028399632727739959972022807193366095429815598600837494178958546844810644781221295917060260260769567972998783719701701104694417746197318144569643886023102243558105188102527212408574965273719657428626918249449451407812724384842762301063362536028589957207213871892715087868097620966893169254885089549360244193130715243690128354242602174038416489394289546067463139810508299046409728510579089328244502170865490228773257324571773718199280290550025375156377848468786101285892917640383801406319347399415034024571033162121302164450853065633213541660959814840692224,
72308812276539009827744524104907982785517947702128362919930649397825543373568863692139816083366278371758250728317418582956167580000874686030511688299137246678500909496569905012165395081148814888481015275372887555441421915195091764914020429044803386007921281720283138323606463876832139628350929727667522319058974738961831261695657158362180406731657108097056234919620862451295558507488516501684856065118780542313520976299087911115062344009956463654962706776413221995573472426165810682905752746272327302866573780456610383364645902779713103257909359490095736789163118096654022126172526478379750414881372261982998884447153106577937815776468520001443820798231709399769325405897696,
76506826375064223178250927164288036358299021091989438128165701578740675916361663577908032798258775424742980862167160124894922657593161993160459455763739928074671931077735546063003732386384606854974384915035072583152418567428936818600133385288604635391617056162536343725004957922724694815741129578685934253415514524860216056981688505454262184756590237147446441123379056054285274954295439260709035394953054066992230664946671298737681059971084591483216227002740449380140894114325373931407265225755362900692535079160927804881607981674060489255922308123252927856941577600017557317131655143404196127047714206807961402768686391114284589539571401482377723272600415676213914147165748,
83925412544553613342892978250880067212763326871388497019616175919169350813694391835869439487984309638179212425640982418111131510041803838287971755930308452003887752655692474754247264706501692829188043296230796528446048607531136292650257481279598776542268205130661920473948797343152040357662687729829721322326246070403457850232307976790262705884558054698557943129674377077295399596159094068119983172939391954097403228997041152330532474788508348125744543924613170770671092740745856981470758945057729615142548468593692421792594403593755698615121020142372035356970214747025157183822560783879179798273207702476081432435058919305991682519875378738873020817374774299057695574466749,
20804979141533287835805810543337660445886484680898099690851399623143650066598001269595256834973240875079304773144559999877312106685187157795273713519510132458826474105115418524301379310308837859540484026409325564761649530890917083837903672551070036852976088653507511462167152018609911916714286356513190126205002558238778706497929943684371360430707170534701059254253454308696204776573139143098335230188844004029584275904047764918378918928426059154096360990853640056948707930435298660524331394131995589961188351947179869206405324310208832394531231735218874444845732209485269027920735281366931122594098995275232418698340970866190679566150582924214716489511211960574718352647485,
96722734403322148027587280409500312876520886123476549657507139195887597565564339371816998055115650040373971974410236505736682449284022210518401777410243975853554979130994742549002632757013000728943424439062148894972613679433899737843778329200195673405310101312883049646483226240480870946226768966375953480506286854520203189046589462583753441278474993697687903221200844357851606349964737515461697629304725531941423504108586242214090063767294063063704834611873648597080987113422839263878076146422161046735542202481173657886531466752295960270732589577697936472917038430584632087598744589715810034859779316928262690898442647477835678864373215466530634143118254292411675959653806,
14395819846060438638847137980576384277425266215080182817805269980352485270323431817216265714696948112645321057121591800897581841965701602457607598199449318836540562008040738926715001782920728565932300790798629133451761406122960767964945381500776685721203162781287097240904110436990597684247407120732532666773654628244823994202135577832435977646761127154996896146393346055712046102103590077526258197209514959770950602505912218790880519166628335589575757961459985371157151319020655462065748828997900818358588769266647377853431097626709390997265629469619119359253223698166792083468531222540620359033390729617423674456511778857014167723458774832534062822719140962383648768748777,
59686786348707902532654349974483479484204859011129017308267999952789900582762011610126570216677329471910487902180022879339410284642420595092246240409788899702806672945412617552757857529820431832774207202567002029601399327519267523924995240228403236242627819911048218261927237978784302923872081390008006802137034854246622380916540691834695483656446098167861414327086358398773018431438714952406716107801214889141624520949498159087379247953157714095287591909888994135096132020517214317216030681801608315263351462972784133319908758025779808088941852973315448271734885307692764497451245088017928958350112179929367410070210169819667497696043736073892970659043883916500879616196983,
9008760083330238586335884307481501360254337501078003422441579008377781464882062488135505638406193756720484608751530657889748112566762098787986107775543796098369761316631619780723527245630145171568246827]
def ryP (i : Nat) : Nat := (ryF.getD (i / 20) 0) / 2 ^ (112 * (i % 20)) % 2 ^ 112
def allR (f : Nat → Bool) : Nat → Bool
  | 0 => true
  | n + 1 => f n && allR f n
theorem allR_at {f : Nat → Bool} {k : Nat} (h : allR f k = true) {i : Nat} (hi : i < k) : f i = true := by
  induction k with
  | zero => omega
  | succ k ih =>
    have h' : (f k && allR f k) = true := h
    rw [Bool.and_eq_true] at h'
    by_cases e : i = k
    · rw [e]; exact h'.1
    · exact ih h'.2 (by omega)
/-- N, D, V, 2^S, k, k' -/
def farB (N D V P k k' : Nat) : Bool :=
  Nat.ble (N * P) (V * D) && (Nat.blt (2 ^ 55 * (V * D - N * P)) P || (Nat.beq ((k' * N / D + 1) * k) (k * N / D * k' + 1) && (Nat.ble 1 k && (Nat.blt (2 ^ 55) (k + k') && Nat.blt (2 ^ 55 * (V * D - N * P)) (((k' * N / D + 1) * D - k' * N) * P)))))
def chkA (i : Nat) : Bool := farB (ryN i) (ryD i) (ryV i) (2 ^ ryS i) (ryP i % 2 ^ 56) (ryP i / 2 ^ 56)
def chkB (i : Nat) : Bool := Nat.ble (10 * ryD i) (ryN i) && (Nat.blt (ryN i) (100 * ryD i) && (Nat.ble 121 (ryS i) && (Nat.ble (ryS i) 124 && (Nat.beq (ryN i * 10 ^ ryT i * 2 ^ 1076) (ryD i * 2 ^ i * 10 ^ 400) && (Nat.ble 75 (ryT i) && (Nat.ble (ryT i) 690 && (Nat.beq (ryT i + 1676) (ryS i + i + ryX (748 - ryT i)) && (Nat.ble (2 ^ 127) (ryV i) && Nat.blt (ryV i) (2 ^ 128)))))))))
theorem chkA_all : allR chkA 2046 = true := by kernel_rfl
theorem chkB_all : allR chkB 2046 = true := by kernel_rfl
end Ry
end Go.Proofs.YtjnmgjcmagnkeabGreatDoor

/- the numbers of layer 12: floors by scales, the span, digits taken away, the nearest. -/
namespace Go.Proofs.YtjnmgjcmagnkeabGreatDoor
set_option linter.unusedVariables false
namespace Ry
/-- two fractions next to one another: nothing of less than k + k' lies nearer above than the upper one -/
theorem farey {N D h k h' k' c m C : Int} (u : h' * k = h * k' + 1) (hk : 1 ≤ k) (hk' : 0 ≤ k') (al : h * D ≤ k * N) (be : k' * N ≤ h' * D) (hC : C < k + k') (c0 : 0 ≤ c) (cC : c ≤ C) (hm : c * N < m * D) : h' * D - k' * N ≤ m * D - c * N := by
  have e1 : c = k * (h' * c - k' * m) + k' * (k * m - h * c) := by grind
  have e2 : m * D - c * N = (k * m - h * c) * (h' * D - k' * N) - (h' * c - k' * m) * (k * N - h * D) := by grind
  generalize h' * c - k' * m = a at *
  generalize k * m - h * c = b at *
  have ha : 0 ≤ k * N - h * D := by omega
  have hb : 0 ≤ h' * D - k' * N := by omega
  generalize k * N - h * D = α at *
  generalize h' * D - k' * N = β at *
  have hp : 0 < b * β - a * α := by omega
  by_cases q : b ≤ 0
  · exfalso
    have h1 : b * β ≤ 0 := Int.mul_nonpos_of_nonpos_of_nonneg q hb
    have h2 : a * α < 0 := by omega
    have h3 : a ≤ -1 := by
      by_cases z : 0 ≤ a
      · have := Int.mul_nonneg z ha; omega
      · omega
    have h4 : k * a ≤ k * (-1) := Int.mul_le_mul_of_nonneg_left h3 (by omega)
    have h5 : k' * b ≤ 0 := Int.mul_nonpos_of_nonneg_of_nonpos hk' q
    omega
  · by_cases z : 1 ≤ a
    · exfalso
      have h4 : k * 1 ≤ k * a := Int.mul_le_mul_of_nonneg_left z (by omega)
      have h5 : k' * 1 ≤ k' * b := Int.mul_le_mul_of_nonneg_left (show 1 ≤ b by omega) hk'
      omega
    · have h1 : a * α ≤ 0 := Int.mul_nonpos_of_nonpos_of_nonneg (by omega) ha
      have h2 : 1 * β ≤ b * β := Int.mul_le_mul_of_nonneg_right (by omega) hb
      omega
/-- what the check tells of a scale -/
theorem far_floor {N D V P k k' : Nat} (hD : 0 < D) (hP : 0 < P) (h : farB N D V P k k' = true) {c : Nat} (hc : c ≤ 2 ^ 55) : c * V / P = c * N / D := by
  unfold farB at h
  rw [Bool.and_eq_true, Bool.or_eq_true, Bool.and_eq_true, Bool.and_eq_true, Bool.and_eq_true] at h
  obtain ⟨h1, h2⟩ := h
  have h1 : N * P ≤ V * D := Nat.le_of_ble_eq_true h1
  have key : ∀ m, c * N < m * D → c * V < m * P := by
    intro m hm
    have hg : c * (V * D - N * P) < (m * D - c * N) * P := by
      rcases h2 with h2 | ⟨u, hk, hC, hb⟩
      · have h2 := Nat.blt_eq.mp h2
        have a1 : c * (V * D - N * P) ≤ 2 ^ 55 * (V * D - N * P) := Nat.mul_le_mul_right _ hc
        have a2 : 1 * P ≤ (m * D - c * N) * P := Nat.mul_le_mul_right _ (by omega)
        omega
      · have hb := Nat.blt_eq.mp hb
        have hC := Nat.blt_eq.mp hC
        have hk := Nat.le_of_ble_eq_true hk
        have u := Nat.eq_of_beq_eq_true u
        have a1 : c * (V * D - N * P) ≤ 2 ^ 55 * (V * D - N * P) := Nat.mul_le_mul_right _ hc
        have al : k * N / D * D ≤ k * N := Nat.div_mul_le_self _ _
        have be : k' * N < (k' * N / D + 1) * D := by
          have := Nat.lt_div_mul_add (a := k' * N) hD
          rw [Nat.add_mul, Nat.one_mul]; exact this
        generalize k * N / D = f at *
        generalize k' * N / D + 1 = f' at *
        have fa := farey (N := N) (D := D) (h := f) (k := k) (h' := f') (k' := k') (c := c) (m := m) (C := 2 ^ 55) (by exact_mod_cast u) (by omega) (by omega) (by exact_mod_cast al) (by exact_mod_cast Nat.le_of_lt be) (by omega) (by omega) (by omega) (by exact_mod_cast hm)
        have fb : f' * D - k' * N ≤ m * D - c * N := by
          have e1 : ((f' * D - k' * N : Nat) : Int) = (f' : Int) * D - k' * N := by rw [Int.ofNat_sub (Nat.le_of_lt be)]; simp
          have e2 : ((m * D - c * N : Nat) : Int) = (m : Int) * D - c * N := by rw [Int.ofNat_sub (Nat.le_of_lt hm)]; simp
          omega
        have := Nat.mul_le_mul_right P fb
        omega
    have e1 : c * (V * D - N * P) = c * V * D - c * N * P := by rw [Nat.mul_sub, Nat.mul_assoc, Nat.mul_assoc]
    have e2 : (m * D - c * N) * P = m * P * D - c * N * P := by rw [Nat.sub_mul, Nat.mul_right_comm]
    rw [e1, e2] at hg
    have l1 : c * V * D < m * P * D := by omega
    exact Nat.lt_of_mul_lt_mul_right l1
  have q1 : c * N < (c * N / D + 1) * D := by
    have := Nat.lt_div_mul_add (a := c * N) hD
    rw [Nat.add_mul, Nat.one_mul]; exact this
  have q2 := key _ q1
  have q3 : c * N / D * D ≤ c * N := Nat.div_mul_le_self _ _
  generalize c * N / D = f at *
  have q4 : f * P * D ≤ c * V * D := by
    have a1 := Nat.mul_le_mul_right P q3
    have a2 := Nat.mul_le_mul_left c h1
    have e1 : f * P * D = f * D * P := Nat.mul_right_comm _ _ _
    have e2 : c * N * P = c * (N * P) := Nat.mul_assoc _ _ _
    have e3 : c * V * D = c * (V * D) := Nat.mul_assoc _ _ _
    omega
  have q5 : f * P ≤ c * V := Nat.le_of_mul_le_mul_right q4 hD
  have r1 := (Nat.le_div_iff_mul_le hP).mpr q5
  have r2 := (Nat.div_lt_iff_lt_mul hP).mpr q2
  omega
structure ScF (i : Nat) : Prop where
  lo : 10 * ryD i ≤ ryN i
  hi : ryN i < 100 * ryD i
  s0 : 121 ≤ ryS i
  s1 : ryS i ≤ 124
  eq : ryN i * 10 ^ ryT i * 2 ^ 1076 = ryD i * 2 ^ i * 10 ^ 400
  t0 : 75 ≤ ryT i
  t1 : ryT i ≤ 690
  sx : ryT i + 1676 = ryS i + i + ryX (748 - ryT i)
  v0 : 2 ^ 127 ≤ ryV i
  v1 : ryV i < 2 ^ 128
theorem scale_facts {i : Nat} (h : i < 2046) : ScF i := by
  have c := allR_at chkB_all h
  unfold chkB at c
  simp only [Bool.and_eq_true] at c
  obtain ⟨c1, c2, c3, c4, c5, c6, c7, c8, c9, c10⟩ := c
  exact ⟨Nat.le_of_ble_eq_true c1, Nat.blt_eq.mp c2, Nat.le_of_ble_eq_true c3, Nat.le_of_ble_eq_true c4, Nat.eq_of_beq_eq_true c5, Nat.le_of_ble_eq_true c6, Nat.le_of_ble_eq_true c7, Nat.eq_of_beq_eq_true c8, Nat.le_of_ble_eq_true c9, Nat.blt_eq.mp c10⟩
theorem ryD_pos (i : Nat) : 0 < ryD i := by unfold ryD; exact Nat.mul_pos (Nat.pow_pos (by omega)) (Nat.pow_pos (by omega))
theorem scale_floor {i : Nat} (h : i < 2046) {c : Nat} (hc : c ≤ 2 ^ 55) : c * ryV i / 2 ^ ryS i = c * ryN i / ryD i :=
  far_floor (ryD_pos i) (Nat.pow_pos (by omega)) (allR_at chkA_all h) hc
/-! the span: Ls t L y: y is not below L (t: L itself goes) -/
def Ls (t : Bool) (L y : Nat) : Prop := if t = true then L ≤ y else L < y
def leN (t : Bool) (L D : Nat) : Nat := if (t && decide (L % D = 0)) = true then L / D else L / D + 1
def grN (t : Bool) (H D : Nat) : Nat := if (!t && decide (H % D = 0)) = true then H / D - 1 else H / D
theorem leN_is {t : Bool} {L D : Nat} (hD : 0 < D) (y : Nat) : Ls t L (y * D) ↔ leN t L D ≤ y := by
  unfold Ls leN
  have e := Nat.div_add_mod L D
  have l := Nat.mod_lt L hD
  have a1 : L ≤ y * D ↔ (if L % D = 0 then L / D else L / D + 1) ≤ y := by
    constructor
    · intro h
      split
      · rename_i z
        have : L / D * D ≤ y * D := by rw [Nat.mul_comm]; omega
        exact Nat.le_of_mul_le_mul_right this hD
      · rename_i z
        have : L / D * D < y * D := by rw [Nat.mul_comm]; omega
        exact Nat.lt_of_mul_lt_mul_right this
    · intro h
      split at h
      · rename_i z
        have := Nat.mul_le_mul_right D h
        rw [Nat.mul_comm] at this; omega
      · have := Nat.mul_le_mul_right D h
        rw [Nat.add_mul, Nat.mul_comm] at this; omega
  have a2 : L < y * D ↔ L / D + 1 ≤ y := by
    constructor
    · intro h
      have : L / D * D < y * D := by rw [Nat.mul_comm]; omega
      exact Nat.lt_of_mul_lt_mul_right this
    · intro h
      have := Nat.mul_le_mul_right D h
      rw [Nat.add_mul, Nat.mul_comm] at this; omega
  cases t
  · simpa using a2
  · rw [if_pos rfl, a1]; simp
theorem grN_is {t : Bool} {H D : Nat} (hD : 0 < D) (hH : 0 < H) (y : Nat) : Ls t (y * D) H ↔ y ≤ grN t H D := by
  unfold Ls grN
  have e := Nat.div_add_mod H D
  have l := Nat.mod_lt H hD
  have a1 : y * D ≤ H ↔ y ≤ H / D := (Nat.le_div_iff_mul_le hD).symm
  have a2 : y * D < H ↔ y ≤ (if H % D = 0 then H / D - 1 else H / D) := by
    split
    · rename_i z
      have p : 0 < H / D := by
        rcases Nat.eq_zero_or_pos (H / D) with q | q
        · rw [q, Nat.mul_zero] at e; omega
        · exact q
      constructor
      · intro h
        have : y * D < H / D * D := by rw [Nat.mul_comm (H / D)]; omega
        have := Nat.lt_of_mul_lt_mul_right this
        omega
      · intro h
        have := Nat.mul_le_mul_right D (show y + 1 ≤ H / D by omega)
        rw [Nat.add_mul, Nat.mul_comm (H / D)] at this; omega
    · rename_i z
      constructor
      · intro h; exact a1.mp (by omega)
      · intro h
        have := a1.mpr h
        have ne : y * D ≠ H := fun q => z (by rw [← q]; exact Nat.mul_mod_left _ _)
        omega
  cases t
  · rw [if_neg (by simp), a2]; simp
  · simpa using a1
/-- what a span holds -/
structure Sp where
  low : Nat
  high : Nat
  own : Nat
  last : Nat
  more : Bool
  tens : Nat
def lessS (s : Sp) : Sp := ⟨(s.low + 9) / 10, s.high / 10, s.own / 10, s.own % 10, s.more || !decide (s.last = 0), s.tens + 1⟩
def goS : Nat → Sp → Sp
  | 0, s => s
  | n + 1, s => if (lessS s).high < (lessS s).low then s else goS n (lessS s)
def neS (s : Sp) : Nat := max (if 5 < s.last ∨ (s.last = 5 ∧ (s.more = true ∨ s.own % 2 ≠ 0)) then s.own + 1 else s.own) s.low
/-- the number X / D, its interval from L to H: at units of U (a multiple of D) -/
structure SpI (t : Bool) (L H X U : Nat) (s : Sp) : Prop where
  lo : ∀ y, Ls t L (y * U) ↔ s.low ≤ y
  hi : ∀ y, Ls t (y * U) H ↔ y ≤ s.high
  ow : s.own * U ≤ X ∧ X < (s.own + 1) * U
  mo : (s.more || !decide (s.last = 0)) = !decide (X = s.own * U)
theorem less_is {t : Bool} {L H X U : Nat} {s : Sp} (h : SpI t L H X U s) : SpI t L H X (10 * U) (lessS s) ∧ (lessS s).last = s.own % 10 ∧ (lessS s).more = !decide (X = s.own * U) := by
  obtain ⟨h1, h2, ⟨h3, h4⟩, h5⟩ := h
  refine ⟨⟨fun y => ?_, fun y => ?_, ?_, ?_⟩, rfl, h5⟩
  · have := h1 (y * 10)
    rw [show y * (10 * U) = y * 10 * U by rw [Nat.mul_assoc], this]
    show _ ↔ (s.low + 9) / 10 ≤ y
    omega
  · have := h2 (y * 10)
    rw [show y * (10 * U) = y * 10 * U by rw [Nat.mul_assoc], this]
    show _ ↔ y ≤ s.high / 10
    omega
  · show s.own / 10 * (10 * U) ≤ X ∧ X < (s.own / 10 + 1) * (10 * U)
    have a := Nat.mul_le_mul_right U (show s.own / 10 * 10 ≤ s.own by omega)
    have b := Nat.mul_le_mul_right U (show s.own + 1 ≤ (s.own / 10 + 1) * 10 by omega)
    rw [Nat.mul_assoc] at a b
    omega
  · show ((s.more || !decide (s.last = 0)) || !decide (s.own % 10 = 0)) = !decide (X = s.own / 10 * (10 * U))
    rw [h5]
    have e : s.own / 10 * (10 * U) = s.own / 10 * 10 * U := by rw [Nat.mul_assoc]
    rw [e, Bool.eq_iff_iff]
    simp only [Bool.or_eq_true, Bool.not_eq_true', decide_eq_false_iff_not]
    constructor
    · intro q r
      have hle := Nat.mul_le_mul_right U (show s.own / 10 * 10 ≤ s.own by omega)
      have hX : X = s.own * U := by omega
      rcases q with q | q
      · exact q hX
      · have : s.own / 10 * 10 + 1 ≤ s.own := by omega
        have := Nat.mul_le_mul_right U this
        have up : 0 < U := by
          rcases Nat.eq_zero_or_pos U with z | z
          · rw [z] at h4; omega
          · exact z
        rw [Nat.add_mul] at this
        omega
    · intro q
      by_cases z : s.own % 10 = 0
      · left; intro r; apply q; rw [r]; congr 1; omega
      · right; exact z
end Ry
end Go.Proofs.YtjnmgjcmagnkeabGreatDoor

/- layer 12: digits taken away till none is left; what is left at last is the nearest of the shortest. -/
namespace Go.Proofs.YtjnmgjcmagnkeabGreatDoor
set_option linter.unusedVariables false
namespace Ry
/-- the nearest whole number of units, ties to the even one -/
theorem out_is {t : Bool} {L H X U : Nat} {s : Sp} (h : SpI t L H X U s) (o : Nat) (ho : o = if 5 < (lessS s).last ∨ ((lessS s).last = 5 ∧ ((lessS s).more = true ∨ (lessS s).own % 2 ≠ 0)) then (lessS s).own + 1 else (lessS s).own) :
    2 * o * (10 * U) ≤ 2 * X + 10 * U ∧ (2 * o * (10 * U) = 2 * X + 10 * U → o % 2 = 0) ∧ 2 * X ≤ (2 * o + 1) * (10 * U) ∧ (2 * X = (2 * o + 1) * (10 * U) → o % 2 = 0) := by
  obtain ⟨-, e2, e3⟩ := less_is h
  obtain ⟨-, -, ⟨h3, h4⟩, -⟩ := h
  rw [e2, e3] at ho
  change o = if 5 < s.own % 10 ∨ (s.own % 10 = 5 ∧ ((!decide (X = s.own * U)) = true ∨ s.own / 10 % 2 ≠ 0)) then s.own / 10 + 1 else s.own / 10 at ho
  have up : 0 < U := by
    rcases Nat.eq_zero_or_pos U with z | z
    · rw [z] at h4; omega
    · exact z
  have d : s.own = s.own / 10 * 10 + s.own % 10 := by omega
  have l : s.own % 10 < 10 := by omega
  generalize s.own / 10 = p at *
  generalize s.own % 10 = q at *
  rw [d] at h3 h4 ho
  simp only [Bool.not_eq_true', decide_eq_false_iff_not] at ho
  have e1 : (p * 10 + q) * U = 10 * (p * U) + q * U := by rw [Nat.add_mul, Nat.mul_right_comm, Nat.mul_comm]
  have e1' : (p * 10 + q + 1) * U = 10 * (p * U) + q * U + U := by rw [Nat.add_mul, e1, Nat.one_mul]
  have e4 : 2 * p * (10 * U) = 20 * (p * U) := by rw [show 2 * p * (10 * U) = 2 * 10 * (p * U) by rw [Nat.mul_mul_mul_comm]]
  have e5 : 2 * (p + 1) * (10 * U) = 20 * (p * U) + 20 * U := by rw [Nat.mul_add, Nat.add_mul, e4]; omega
  have e6 : (2 * p + 1) * (10 * U) = 20 * (p * U) + 10 * U := by rw [Nat.add_mul, e4, Nat.one_mul]
  have e7 : (2 * (p + 1) + 1) * (10 * U) = 20 * (p * U) + 30 * U := by rw [Nat.add_mul, e5, Nat.one_mul]; omega
  rw [e1] at h3 ho
  rw [e1'] at h4
  generalize p * U = P at *
  split at ho
  · rename_i c
    subst ho
    rw [e5, e7]
    rcases c with c | ⟨c, c'⟩
    · have b := Nat.mul_le_mul_right U (show 6 ≤ q by omega)
      have b' := Nat.mul_le_mul_right U (show q ≤ 9 by omega)
      refine ⟨by omega, by omega, by omega, by omega⟩
    · subst c
      refine ⟨by omega, ?_, by omega, by omega⟩
      intro z
      rcases c' with c' | c'
      · omega
      · omega
  · rename_i c
    subst ho
    rw [e4, e6]
    by_cases c5 : q = 5
    · subst c5
      have c1 : X = 10 * P + 5 * U := Decidable.byContradiction fun z => c (Or.inr ⟨rfl, Or.inl z⟩)
      have c2 : o % 2 = 0 := Decidable.byContradiction fun z => c (Or.inr ⟨rfl, Or.inr (by omega)⟩)
      refine ⟨by omega, by omega, by omega, fun _ => c2⟩
    · have b := Nat.mul_le_mul_right U (show q ≤ 4 by omega)
      refine ⟨by omega, by omega, by omega, by omega⟩
/-- the end: R in units of U: it is taken, none of tens of units is, and it is the nearest -/
structure ShI (t : Bool) (L H X U R : Nat) : Prop where
  lo : Ls t L (R * U)
  hi : Ls t (R * U) H
  no : ∀ y, Ls t L (y * (10 * U)) → ¬ Ls t (y * (10 * U)) H
  nb : ∀ y, y < R → Ls t L (y * U) → (R + y) * U ≤ 2 * X ∧ ((R + y) * U = 2 * X → R % 2 = 0)
  na : ∀ y, R < y → Ls t (y * U) H → 2 * X ≤ (R + y) * U ∧ (2 * X = (R + y) * U → R % 2 = 0)
theorem end_is {t : Bool} {L H X U : Nat} {s : Sp} (h : SpI t L H X U s) (hX : 2 * X ≤ L + H) (hl : (lessS s).low ≤ (lessS s).high) (he : (lessS (lessS s)).high < (lessS (lessS s)).low) :
    ShI t L H X (10 * U) (neS (lessS s)) := by
  obtain ⟨h', -, -⟩ := less_is h
  obtain ⟨h'', -, -⟩ := less_is h'
  have o := out_is h _ rfl
  unfold neS
  generalize (if 5 < (lessS s).last ∨ ((lessS s).last = 5 ∧ ((lessS s).more = true ∨ (lessS s).own % 2 ≠ 0)) then (lessS s).own + 1 else (lessS s).own) = r at *
  obtain ⟨o1, o2, o3, o4⟩ := o
  obtain ⟨a1, a2, a3, -⟩ := h'
  obtain ⟨b1, b2, -, -⟩ := h''
  have up : 0 < 10 * U := by
    rcases Nat.eq_zero_or_pos (10 * U) with z | z
    · rw [z] at a3; omega
    · exact z
  generalize lessS s = s1 at *
  generalize lessS s1 = s2 at *
  generalize 10 * U = V at *
  have hno : ∀ y, Ls t L (y * (10 * V)) → ¬ Ls t (y * (10 * V)) H := by
    intro y q q'
    have := (b1 y).mp q
    have := (b2 y).mp q'
    omega
  have hrh : r ≤ s1.high := by
    by_cases z : r ≤ s1.high
    · exact z
    · exfalso
      have z1 : ¬ Ls t (r * V) H := fun q => z ((a2 r).mp q)
      have z2 := (a1 s1.high).mpr hl
      have z3 := Nat.mul_le_mul_right V (show s1.high + 1 ≤ r by omega)
      rw [Nat.add_mul] at z3
      have z4 : 2 * r * V = r * V + r * V := by rw [Nat.two_mul, Nat.add_mul]
      unfold Ls at z1 z2
      cases t
      · simp at z1 z2; omega
      · simp at z1 z2; omega
  have e2r : 2 * r * V = r * V + r * V := by rw [Nat.two_mul, Nat.add_mul]
  have e2r' : (2 * r + 1) * V = r * V + r * V + V := by rw [Nat.add_mul, e2r, Nat.one_mul]
  rw [e2r] at o1 o2
  rw [e2r'] at o3 o4
  rcases Nat.lt_or_ge r s1.low with z | z
  · rw [Nat.max_eq_right (Nat.le_of_lt z)]
    refine ⟨(a1 _).mpr (Nat.le_refl _), (a2 _).mpr hl, hno, fun y q q' => ?_, fun y q q' => ?_⟩
    · have := (a1 y).mp q'; omega
    · have g := Nat.mul_le_mul_right V (show 2 * r + 2 ≤ s1.low + y by omega)
      have : (2 * r + 2) * V = r * V + r * V + V + V := by rw [Nat.add_mul, e2r, Nat.two_mul]; omega
      exact ⟨by omega, by omega⟩
  · rw [Nat.max_eq_left z]
    refine ⟨(a1 _).mpr z, (a2 _).mpr hrh, hno, fun y q q' => ?_, fun y q q' => ?_⟩
    · have g := Nat.mul_le_mul_right V (show y + 1 ≤ r by omega)
      rw [Nat.add_mul] at g
      rw [Nat.add_mul]
      refine ⟨by omega, fun e => o2 (by omega)⟩
    · have g := Nat.mul_le_mul_right V (show r + 1 ≤ y by omega)
      rw [Nat.add_mul] at g
      rw [Nat.add_mul]
      refine ⟨by omega, fun e => o4 (by omega)⟩
theorem go_is {t : Bool} {L H X : Nat} (hX : 2 * X ≤ L + H) (n : Nat) : ∀ (U : Nat) (s : Sp), SpI t L H X U s → (lessS s).low ≤ (lessS s).high → 1 ≤ (lessS s).low → (lessS s).high < 10 ^ n →
    ∃ k, (goS n (lessS s)).tens = s.tens + 1 + k ∧ ShI t L H X (10 ^ (k + 1) * U) (neS (goS n (lessS s))) := by
  induction n with
  | zero => intro U s h h1 h2 h3; simp at h3; omega
  | succ n ih =>
    intro U s h h1 h2 h3
    rw [goS]
    split
    · rename_i c
      refine ⟨0, rfl, ?_⟩
      rw [Nat.zero_add, Nat.pow_one]
      exact end_is h hX h1 c
    · rename_i c
      have c1 : (lessS (lessS s)).low = ((lessS s).low + 9) / 10 := rfl
      have c2 : (lessS (lessS s)).high = (lessS s).high / 10 := rfl
      obtain ⟨k, e, q⟩ := ih (10 * U) (lessS s) (less_is h).1 (by omega) (by omega) (by rw [Nat.pow_succ] at h3; omega)
      refine ⟨k + 1, ?_, ?_⟩
      · rw [e]; show s.tens + 1 + 1 + k = _; omega
      · have : 10 ^ (k + 1) * (10 * U) = 10 ^ (k + 1 + 1) * U := by rw [Nat.pow_succ 10 (k + 1), Nat.mul_assoc]
        rw [this] at q
        exact q
/-! a pattern's mantissa m (above 0) and its scale i -/
def dnR (m i : Nat) : Nat := if m = 4503599627370496 ∧ 0 < i then 1 else 2
def evR (m : Nat) : Bool := decide (m % 2 = 0)
def s0R (m i : Nat) : Sp := ⟨leN (evR m) ((4 * m - dnR m i) * ryN i) (ryD i), grN (evR m) ((4 * m + 2) * ryN i) (ryD i), 4 * m * ryN i / ryD i, 0, !decide (4 * m * ryN i % ryD i = 0), ryT i⟩
def finR (m i : Nat) : Sp := goS 20 (s0R m i)
theorem s0_is {m i : Nat} (hm : 0 < m) (hi : i < 2046) : SpI (evR m) ((4 * m - dnR m i) * ryN i) ((4 * m + 2) * ryN i) (4 * m * ryN i) (ryD i) (s0R m i) := by
  have f := scale_facts hi
  have dp := ryD_pos i
  have hN : 0 < ryN i := by have := f.lo; omega
  refine ⟨fun y => leN_is dp y, fun y => grN_is dp (Nat.mul_pos (by omega) hN) y, ?_, ?_⟩
  · show 4 * m * ryN i / ryD i * ryD i ≤ _ ∧ _ < (4 * m * ryN i / ryD i + 1) * ryD i
    refine ⟨Nat.div_mul_le_self _ _, ?_⟩
    have := Nat.lt_div_mul_add (a := 4 * m * ryN i) dp
    rw [Nat.add_mul, Nat.one_mul]; exact this
  · show (!decide (4 * m * ryN i % ryD i = 0) || !decide (0 = 0)) = !decide (4 * m * ryN i = 4 * m * ryN i / ryD i * ryD i)
    have e := Nat.div_add_mod (4 * m * ryN i) (ryD i)
    rw [Nat.mul_comm (ryD i)] at e
    rw [Bool.eq_iff_iff]
    simp
    omega
theorem room {t : Bool} {L H U : Nat} (hU : 0 < U) (h : L + U < H) : ∃ y, Ls t L (y * U) ∧ Ls t (y * U) H := by
  have a := Nat.lt_div_mul_add (a := L) hU
  have b : L / U * U ≤ L := Nat.div_mul_le_self _ _
  refine ⟨L / U + 1, ?_, ?_⟩
  · unfold Ls; rw [Nat.add_mul, Nat.one_mul]; split <;> omega
  · unfold Ls; rw [Nat.add_mul, Nat.one_mul]; split <;> omega
theorem dn_cases (m i : Nat) : (dnR m i = 1 ∧ m = 4503599627370496) ∨ dnR m i = 2 := by
  unfold dnR; split
  · rename_i h; exact Or.inl ⟨rfl, h.1⟩
  · exact Or.inr rfl
theorem short_is {m i : Nat} (hm : 0 < m) (hm' : m < 9007199254740992) (hi : i < 2046) : ∃ j, 1 ≤ j ∧ (finR m i).tens = ryT i + j ∧
    ShI (evR m) ((4 * m - dnR m i) * ryN i) ((4 * m + 2) * ryN i) (4 * m * ryN i) (10 ^ j * ryD i) (neS (finR m i)) := by
  have s := s0_is hm hi
  have f := scale_facts hi
  have dp := ryD_pos i
  have l1 := (less_is s).1
  have dc := dn_cases m i
  have hN := f.lo
  have eL : (4 * m - dnR m i) * ryN i = 4 * m * ryN i - dnR m i * ryN i := Nat.sub_mul _ _ _
  have eH : (4 * m + 2) * ryN i = 4 * m * ryN i + 2 * ryN i := Nat.add_mul _ _ _
  have g4 : 4 * ryN i ≤ 4 * m * ryN i := Nat.mul_le_mul_right _ (by omega)
  have gd : dnR m i * ryN i ≤ 2 * ryN i := Nat.mul_le_mul_right _ (by omega)
  have gd1 : 1 * ryN i ≤ dnR m i * ryN i := Nat.mul_le_mul_right _ (by omega)
  have hlow : (lessS (s0R m i)).low ≤ (lessS (s0R m i)).high := by
    obtain ⟨y, q, q'⟩ := room (t := evR m) (L := (4 * m - dnR m i) * ryN i) (H := (4 * m + 2) * ryN i) (U := 10 * ryD i) (by omega) (by rw [eL, eH]; omega)
    have := (l1.lo y).mp q
    have := (l1.hi y).mp q'
    omega
  have hone : 1 ≤ (lessS (s0R m i)).low := by
    rcases Nat.eq_zero_or_pos (lessS (s0R m i)).low with z | z
    · have := (l1.lo 0).mpr (by omega)
      rw [Nat.zero_mul] at this
      unfold Ls at this
      have p : 0 < (4 * m - dnR m i) * ryN i := Nat.mul_pos (by omega) (by omega)
      split at this <;> omega
    · exact z
  have htop : (lessS (s0R m i)).high < 10 ^ 19 := by
    have a := (l1.hi (lessS (s0R m i)).high).mpr (Nat.le_refl _)
    have b : (lessS (s0R m i)).high * (10 * ryD i) ≤ (4 * m + 2) * ryN i := by unfold Ls at a; split at a <;> omega
    have c : (4 * m + 2) * ryN i < 36028797018963968 * (100 * ryD i) := Nat.lt_of_le_of_lt (Nat.mul_le_mul_left _ (Nat.le_of_lt f.hi)) (Nat.mul_lt_mul_of_pos_right (by omega) (by omega))
    rcases Nat.lt_or_ge (lessS (s0R m i)).high (10 ^ 19) with z | z
    · exact z
    · have := Nat.mul_le_mul_right (10 * ryD i) z
      omega
  have e20 : finR m i = goS 19 (lessS (s0R m i)) := by
    unfold finR
    rw [goS, if_neg (by omega)]
  obtain ⟨k, e, q⟩ := go_is (X := 4 * m * ryN i) (by rw [eL, eH]; omega) 19 (ryD i) (s0R m i) s hlow hone htop
  refine ⟨k + 1, by omega, ?_, ?_⟩
  · rw [e20, e]; show ryT i + 1 + k = _; omega
  · rw [e20]; exact q
/-- digits, and where they lie -/
structure ToI (R T : Nat) : Prop where
  r0 : 0 < R
  r1 : R < 100000000000000000
  ne : R % 10 ≠ 0
  t0 : 76 ≤ T
  t1 : T ≤ 708
theorem bnd {R U K N c : Nat} (up : 0 < U) (top : R * U ≤ K * N) (a : c * N ≤ 10 * U) : c * R ≤ 10 * K := by
  have h1 := Nat.mul_le_mul_left c top
  have h2 := Nat.mul_le_mul_left K a
  have e1 : c * (R * U) = c * R * U := by rw [Nat.mul_assoc]
  have e2 : c * (K * N) = K * (c * N) := by rw [Nat.mul_left_comm]
  have e3 : K * (10 * U) = 10 * K * U := by rw [← Nat.mul_assoc, Nat.mul_comm K]
  exact Nat.le_of_mul_le_mul_right (show c * R * U ≤ 10 * K * U by omega) up
theorem not_ble {a b : Nat} (h : Nat.ble a b = false) : ¬ a ≤ b := by
  intro q
  have := Nat.ble_eq.mpr q
  rw [h] at this
  cases this
theorem top_gen {m i e K M A B C : Nat} (hm : 4 * m + 2 ≤ C) (hi : i ≤ K) (hz : M ≤ e) (hbig : Nat.ble (10 ^ M * A) (C * 2 ^ K * B) = false) (b : 10 ^ e * A ≤ (4 * m + 2) * 2 ^ i * B) : False :=
  not_ble hbig (Nat.le_trans (Nat.mul_le_mul_right _ (Nat.pow_le_pow_right (Nat.succ_pos 9) hz)) (Nat.le_trans b (Nat.mul_le_mul_right _ (Nat.mul_le_mul hm (Nat.pow_le_pow_right (Nat.succ_pos 1) hi)))))
theorem told_is {m i : Nat} (hm : 0 < m) (hm' : m < 9007199254740992) (hi : i < 2046) : ToI (neS (finR m i)) (finR m i).tens := by
  obtain ⟨j, hj, e, q⟩ := short_is hm hm' hi
  have f := scale_facts hi
  have dp := ryD_pos i
  rw [e]
  generalize neS (finR m i) = R at *
  have dc := dn_cases m i
  have hN := f.lo
  have eL : (4 * m - dnR m i) * ryN i = 4 * m * ryN i - dnR m i * ryN i := Nat.sub_mul _ _ _
  have eH : (4 * m + 2) * ryN i = 4 * m * ryN i + 2 * ryN i := Nat.add_mul _ _ _
  have g4 : 4 * ryN i ≤ 4 * m * ryN i := Nat.mul_le_mul_right _ (by omega)
  have gd : dnR m i * ryN i ≤ 2 * ryN i := Nat.mul_le_mul_right _ (by omega)
  have gd1 : 1 * ryN i ≤ dnR m i * ryN i := Nat.mul_le_mul_right _ (by omega)
  have up : 0 < 10 ^ j * ryD i := Nat.mul_pos (Nat.pow_pos (by omega)) dp
  have w : (4 * m + 2) * ryN i ≤ (4 * m - dnR m i) * ryN i + 10 * (10 ^ j * ryD i) := by
    rcases Nat.lt_or_ge ((4 * m - dnR m i) * ryN i + 10 * (10 ^ j * ryD i)) ((4 * m + 2) * ryN i) with z | z
    · obtain ⟨y, a, b⟩ := room (t := evR m) (by omega) z
      exact absurd b (q.no y a)
    · exact z
  have top : R * (10 ^ j * ryD i) ≤ (4 * m + 2) * ryN i := by have := q.hi; unfold Ls at this; split at this <;> omega
  have r0 : 0 < R := by
    rcases Nat.eq_zero_or_pos R with z | z
    · have := q.lo
      rw [z, Nat.zero_mul] at this
      unfold Ls at this
      have p : 0 < (4 * m - dnR m i) * ryN i := Nat.mul_pos (by omega) (by omega)
      split at this <;> omega
    · exact z
  refine ⟨r0, ?_, ?_, by have := f.t0; omega, ?_⟩
  · generalize hU : 10 ^ j * ryD i = U at *
    rcases dc with ⟨d1, d2⟩ | d2
    · rw [d1] at eL w
      have := bnd (c := 3) up top (by omega)
      omega
    · rw [d2] at eL w
      have := bnd (c := 4) up top (by omega)
      omega
  · intro z
    have e10 : R / 10 * (10 * (10 ^ j * ryD i)) = R * (10 ^ j * ryD i) := by
      rw [← Nat.mul_assoc]; congr 1; omega
    exact q.no (R / 10) (by rw [e10]; exact q.lo) (by rw [e10]; exact q.hi)
  · rcases Nat.lt_or_ge (ryT i + j) 709 with z | z
    · omega
    · exfalso
      have c0 : 4 * m + 2 ≤ 2 ^ 55 := by omega
      have c2 : i ≤ 2045 := by omega
      have a : 10 ^ j * ryD i ≤ (4 * m + 2) * ryN i := Nat.le_trans (Nat.le_mul_of_pos_left _ r0) top
      have b := Nat.mul_le_mul_right (10 ^ ryT i * 2 ^ 1076) a
      have e1 : 10 ^ j * ryD i * (10 ^ ryT i * 2 ^ 1076) = 10 ^ (ryT i + j) * 2 ^ 1076 * ryD i := by rw [Nat.pow_add]; generalize 10 ^ ryT i = A; generalize 10 ^ j = B; generalize 2 ^ 1076 = C; grind
      have e2 : (4 * m + 2) * ryN i * (10 ^ ryT i * 2 ^ 1076) = (4 * m + 2) * 2 ^ i * 10 ^ 400 * ryD i := by
        rw [Nat.mul_assoc, ← Nat.mul_assoc (ryN i), f.eq]
        generalize 10 ^ 400 = A; generalize 2 ^ i = B; grind
      rw [e1, e2] at b
      have b := Nat.le_of_mul_le_mul_right b dp
      exact top_gen (K := 2045) (M := 709) c0 c2 z (by kernel_rfl) b
end Ry
end Go.Proofs.YtjnmgjcmagnkeabGreatDoor

/- Layer 10: what Cut tells of a text of digits. -/
namespace Go.Proofs.YtjnmgjcmagnkeabGreatDoor
set_option linter.unusedVariables false
namespace Lx
/-- the number that digits say -/
def dv (l : B) : Int := l.foldl (fun a b => a * 10 + ((b.toNat : Int) - 48)) 0
theorem dv_snoc (l : B) (b : UInt8) : dv (l ++ [b]) = dv l * 10 + ((b.toNat : Int) - 48) := by unfold dv; rw [List.foldl_append]; rfl
theorem dv_from (l : B) (a : Int) : l.foldl (fun a b => a * 10 + ((b.toNat : Int) - 48)) a = a * 10 ^ l.length + dv l := by
  induction l generalizing a with
  | nil => simp [dv]
  | cons b r ih =>
    unfold dv
    rw [List.foldl_cons, List.foldl_cons, ih, ih, List.length_cons, Int.pow_succ]
    grind
theorem dv_append (l m : B) : dv (l ++ m) = dv l * 10 ^ m.length + dv m := by
  have : dv (l ++ m) = m.foldl (fun a b => a * 10 + ((b.toNat : Int) - 48)) (dv l) := by unfold dv; rw [List.foldl_append]
  rw [this, dv_from]
theorem isD_bd {b : UInt8} (h : isD b = true) : 48 ≤ b.toNat ∧ b.toNat ≤ 57 := by
  unfold isD at h
  simpa using h
theorem ten_pos (n : Nat) : (0 : Int) < 10 ^ n := Int.pow_pos (by omega)
theorem dv_bd {l : B} (h : ∀ b ∈ l, isD b = true) : 0 ≤ dv l ∧ dv l < 10 ^ l.length := by
  induction l with
  | nil => simp [dv]
  | cons b r ih =>
    obtain ⟨i0, i1⟩ := ih (fun c hc => h c (List.mem_cons_of_mem _ hc))
    obtain ⟨b0, b1⟩ := isD_bd (h b (List.mem_cons_self ..))
    have e : dv (b :: r) = ((b.toNat : Int) - 48) * 10 ^ r.length + dv r := by
      have := dv_append [b] r
      rw [List.singleton_append] at this
      rw [this]
      congr 2
      simp [dv]
    rw [e, List.length_cons, Int.pow_succ]
    have hp := ten_pos r.length
    generalize (10 : Int) ^ r.length = P at *
    have q0 : 0 ≤ ((b.toNat : Int) - 48) * P := Int.mul_nonneg (by omega) (by omega)
    have q1 : ((b.toNat : Int) - 48) * P ≤ 9 * P := Int.mul_le_mul_of_nonneg_right (by omega) (by omega)
    omega
theorem dv_zero {l : B} (h : ∀ b ∈ l, isD b = true) : dv l = 0 ↔ ∀ b ∈ l, b = 48 := by
  induction l with
  | nil => simp [dv]
  | cons b r ih =>
    have hr : ∀ c ∈ r, isD c = true := fun c hc => h c (List.mem_cons_of_mem _ hc)
    have i := ih hr
    obtain ⟨j0, j1⟩ := dv_bd hr
    obtain ⟨b0, b1⟩ := isD_bd (h b (List.mem_cons_self ..))
    have e : dv (b :: r) = ((b.toNat : Int) - 48) * 10 ^ r.length + dv r := by
      have := dv_append [b] r
      rw [List.singleton_append] at this
      rw [this]
      congr 2
      simp [dv]
    rw [e]
    have hp := ten_pos r.length
    constructor
    · intro hz
      have q0 : 0 ≤ ((b.toNat : Int) - 48) * 10 ^ r.length := Int.mul_nonneg (by omega) (by omega)
      have z1 : ((b.toNat : Int) - 48) * 10 ^ r.length = 0 := by omega
      have z2 : (b.toNat : Int) - 48 = 0 := by
        rcases Int.mul_eq_zero.mp z1 with h | h
        · exact h
        · omega
      intro c hc
      rcases List.mem_cons.mp hc with rfl | hc
      · apply UInt8.toNat_inj.mp
        show c.toNat = 48
        omega
      · exact i.mp (by omega) c hc
    · intro hz
      have hb : b = 48 := hz b (List.mem_cons_self ..)
      have hr0 := i.mpr (fun c hc => hz c (List.mem_cons_of_mem _ hc))
      rw [hr0, hb]
      simp
/-- all digits? -/
def allD (l : B) : Bool := l.all isD
/-- without the zeros ahead -/
def said (l : B) : B := l.dropWhile (fun b => ([48] : B).contains b)
def usedN (l : B) : Nat := min (said l).length 19
/-- Cut's answer -/
def cutV (l : B) : Int := if allD l = true then dv ((said l).take (usedN l)) else 0
def cutN (l : B) : Nat := if allD l = true then l.length - (said l).length + usedN l else 0
def cutMr (l : B) : Bool := if allD l = true then ((said l).drop (usedN l)).any (fun b => b != 48) else false
def cutE (l : B) : Int := if allD l = true then 0 else 41
theorem allD_iff {l : B} : allD l = true ↔ ∀ b ∈ l, isD b = true := by unfold allD; exact List.all_eq_true
theorem said_split (l : B) : ∃ k, k ≤ l.length ∧ said l = l.drop k ∧ (∀ b ∈ l.take k, b = 48) ∧ (∀ b r, said l = b :: r → b ≠ 48) := by
  unfold said
  induction l with
  | nil => exact ⟨0, by simp, rfl, by simp, by simp⟩
  | cons c r ih =>
    rw [List.dropWhile_cons]
    by_cases h : c = 48
    · subst h
      obtain ⟨k, k1, k2, k3, k4⟩ := ih
      have : ([48] : B).contains 48 = true := by decide
      rw [if_pos this]
      refine ⟨k + 1, by simp; omega, by simpa using k2, ?_, k4⟩
      intro b hb
      rw [List.take_succ_cons] at hb
      rcases List.mem_cons.mp hb with rfl | hb
      · rfl
      · exact k3 b hb
    · have : ¬ (([48] : B).contains c = true) := by simpa using h
      rw [if_neg this]
      refine ⟨0, by simp, rfl, by simp, ?_⟩
      intro b r' e
      injection e with e1 e2
      rw [← e1]; exact h
theorem said_le (l : B) : (said l).length ≤ l.length := by
  obtain ⟨k, k1, k2, _, _⟩ := said_split l
  rw [k2, List.length_drop]; omega
/-- the number of all digits, by what Cut tells -/
theorem cut_num {l : B} (h : allD l = true) : ∃ r : Int, dv l = cutV l * 10 ^ (l.length - cutN l) + r ∧ 0 ≤ r ∧ r < 10 ^ (l.length - cutN l) ∧ (cutMr l = true ↔ r ≠ 0) ∧ cutN l ≤ l.length ∧ 0 ≤ cutV l ∧ cutV l ≤ 9999999999999999999 ∧ (cutN l < l.length → 1000000000000000000 ≤ cutV l) := by
  obtain ⟨k, k1, k2, k3, k4⟩ := said_split l
  have hall := allD_iff.mp h
  have hsl : ∀ b ∈ said l, isD b = true := fun b hb => hall b (by rw [k2] at hb; exact List.mem_of_mem_drop hb)
  have hlen : (said l).length = l.length - k := by rw [k2, List.length_drop]
  have hu : usedN l ≤ (said l).length := by unfold usedN; omega
  have hu19 : usedN l ≤ 19 := by unfold usedN; omega
  have ev : cutV l = dv ((said l).take (usedN l)) := by unfold cutV; rw [if_pos h]
  have en : cutN l = l.length - (said l).length + usedN l := by unfold cutN; rw [if_pos h]
  have em : cutMr l = ((said l).drop (usedN l)).any (fun b => b != 48) := by unfold cutMr; rw [if_pos h]
  have hrest : ∀ b ∈ (said l).drop (usedN l), isD b = true := fun b hb => hsl b (List.mem_of_mem_drop hb)
  have htake : ∀ b ∈ (said l).take (usedN l), isD b = true := fun b hb => hsl b (List.mem_of_mem_take hb)
  have hlr : ((said l).drop (usedN l)).length = l.length - cutN l := by rw [List.length_drop, en, hlen]; omega
  obtain ⟨r0, r1⟩ := dv_bd hrest
  obtain ⟨v0, v1⟩ := dv_bd htake
  rw [hlr] at r1
  have htl : ((said l).take (usedN l)).length = usedN l := by rw [List.length_take]; omega
  rw [htl, ← ev] at v1
  rw [← ev] at v0
  have hpow : (10 : Int) ^ usedN l ≤ 10 ^ 19 := by
    have : (10 : Int) ^ 19 = 10 ^ usedN l * 10 ^ (19 - usedN l) := by rw [← Int.pow_add]; congr 1; omega
    rw [this]
    have p1 := ten_pos (usedN l)
    have p2 := ten_pos (19 - usedN l)
    have := Int.mul_le_mul_of_nonneg_left (show (1 : Int) ≤ 10 ^ (19 - usedN l) by omega) (Int.le_of_lt p1)
    omega
  refine ⟨dv ((said l).drop (usedN l)), ?_, r0, r1, ?_, by omega, v0, ?_, ?_⟩
  · have e1 : dv l = dv (said l) := by
      have := dv_append (l.take k) (l.drop k)
      rw [List.take_append_drop] at this
      rw [this, k2]
      have hz : dv (l.take k) = 0 := (dv_zero (fun b hb => hall b (List.mem_of_mem_take hb))).mpr k3
      rw [hz, Int.zero_mul, Int.zero_add]
    have := dv_append ((said l).take (usedN l)) ((said l).drop (usedN l))
    rw [List.take_append_drop, hlr] at this
    rw [e1, ev]; exact this
  · rw [em]
    have z := dv_zero hrest
    rw [List.any_eq_true]
    constructor
    · rintro ⟨b, hb, hne⟩ hz
      have := z.mp hz b hb
      rw [this] at hne
      simp at hne
    · intro hne
      apply Decidable.byContradiction
      intro hc
      apply hne
      apply z.mpr
      intro b hb
      apply Decidable.byContradiction
      intro hbn
      exact hc ⟨b, hb, by simpa using hbn⟩
  · have : (10 : Int) ^ 19 = 10000000000000000000 := by rfl
    omega
  · intro hl
    have hu2 : usedN l = 19 := by
      unfold usedN at *
      omega
    cases hs : said l with
    | nil => rw [hs] at hlen hu; rw [hu2] at hu; simp at hu
    | cons b r =>
      have hb := k4 b r hs
      obtain ⟨b0, b1⟩ := isD_bd (hsl b (by rw [hs]; exact List.mem_cons_self ..))
      have hb9 : 49 ≤ b.toNat := by
        apply Decidable.byContradiction
        intro hc
        exact hb (UInt8.toNat_inj.mp (show b.toNat = 48 by omega))
      have hr18 : (r.take 18).length = 18 := by
        rw [List.length_take]
        have : (said l).length = r.length + 1 := by rw [hs]; rfl
        omega
      have e3 : dv ((said l).take (usedN l)) = ((b.toNat : Int) - 48) * 10 ^ 18 + dv (r.take 18) := by
        rw [hu2, hs, List.take_succ_cons]
        have := dv_append [b] (r.take 18)
        rw [List.singleton_append, hr18] at this
        rw [this]
        congr 2
        simp [dv]
      have q := (dv_bd (l := r.take 18) (fun c hc => hsl c (by rw [hs]; exact List.mem_cons_of_mem _ (List.mem_of_mem_take hc)))).1
      rw [ev, e3]
      have : (10 : Int) ^ 18 = 1000000000000000000 := by rfl
      rw [this]
      omega
theorem trim_all (cs l : B) : (l.dropWhile (fun b => cs.contains b)) = [] ↔ ∀ b ∈ l, cs.contains b = true := by
  induction l with
  | nil => simp
  | cons c r ih =>
    rw [List.dropWhile_cons]
    by_cases h : cs.contains c = true
    · rw [if_pos h, ih]
      constructor
      · intro hr b hb
        rcases List.mem_cons.mp hb with rfl | hb
        · exact h
        · exact hr b hb
      · exact fun hr b hb => hr b (List.mem_cons_of_mem _ hb)
    · rw [if_neg h]
      constructor
      · intro e; cases e
      · intro hr; exact absurd (hr c (List.mem_cons_self ..)) h
theorem digits_has (b : UInt8) : ([48, 49, 50, 51, 52, 53, 54, 55, 56, 57] : B).contains b = isD b := by
  have : ∀ n : Fin 256, ([48, 49, 50, 51, 52, 53, 54, 55, 56, 57] : B).contains (UInt8.ofNat n.val) = isD (UInt8.ofNat n.val) := by decide +kernel
  have h := this ⟨b.toNat, UInt8.toNat_lt b⟩
  simpa using h
end Lx
end Go.Proofs.YtjnmgjcmagnkeabGreatDoor


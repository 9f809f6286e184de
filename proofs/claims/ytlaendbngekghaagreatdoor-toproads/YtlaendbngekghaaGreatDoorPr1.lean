import Derived.KernelRfl
/- Numerals as they are written: what the longest one at the beginning of a text is, by states and by kinds. -/
namespace Go.Proofs.YtlaendbngekghaaGreatDoor
set_option linter.unusedVariables false
namespace Lx
def isD (b : UInt8) : Bool := decide (48 ≤ b.toNat) && decide (b.toNat ≤ 57)
def isH (b : UInt8) : Bool := isD b || (decide (97 ≤ b.toNat) && decide (b.toNat ≤ 102)) || (decide (65 ≤ b.toNat) && decide (b.toNat ≤ 70))
abbrev B := List UInt8
/-- the pieces of a numeral, as they are written -/
structure Pc where
  kind : Int
  neg : Bool
  ahead : B
  behind : B
  expo : B
  den : B
  stop : Nat
def Pc.zero : Pc := ⟨0, false, [], [], [], [], 0⟩
def tkD (l : B) : B := l.takeWhile isD
def dkD (l : B) : B := l.dropWhile isD
def tkH (l : B) : B := l.takeWhile isH
def dkH (l : B) : B := l.dropWhile isH
def Pc.has (p : Pc) : Bool := !p.ahead.isEmpty || !p.behind.isEmpty
/-- is the first byte one of these? -/
def fst (cs : B) (l : B) : Bool := match l with | c :: _ => cs.contains c | [] => false
/-- the exponent as written, behind the letter -/
def expoL (l : B) : B := if fst [43, 45] l then (if tkD l.tail = [] then [] else l.take 1 ++ tkD l.tail) else tkD l
/-- the states of the reader -/
inductive St where
  | start | sign | digits | point | e | slash | x | hexPoint | stop
deriving DecidableEq
def St.rank : St → Nat
  | .start => 8 | .sign => 7 | .digits => 6 | .x => 5 | .point => 4 | .hexPoint => 3 | .slash => 2 | .e => 1 | .stop => 0
/-- what is read in the end, from a state on: what was read, what is kept, the place, the rest of the text -/
def finE (rd wh : Pc) (k : Nat) (l : B) : Pc := if expoL l = [] then wh else { rd with expo := expoL l, stop := k + (expoL l).length }
def finSlash (rd wh : Pc) (k : Nat) (l : B) : Pc := if tkD l = [] then wh else { rd with kind := 3, den := tkD l, stop := k + (tkD l).length }
def finPoint (rd wh : Pc) (k : Nat) (l : B) : Pc :=
  let r1 : Pc := { rd with behind := tkD l }
  if r1.has = false then wh else
  let r2 : Pc := { r1 with stop := k + (tkD l).length }
  if fst [101, 69] (dkD l) then finE r2 r2 (k + (tkD l).length + 1) (dkD l).tail else r2
def finHexPoint (rd wh : Pc) (k : Nat) (l : B) : Pc :=
  let r1 : Pc := { rd with behind := tkH l }
  if (r1.has && fst [112, 80] (dkH l)) = true then finE r1 wh (k + (tkH l).length + 1) (dkH l).tail else wh
def finX (rd wh : Pc) (k : Nat) (l : B) : Pc :=
  let r1 : Pc := { rd with kind := 2, ahead := tkH l }
  if fst [46] (dkH l) then finHexPoint r1 wh (k + (tkH l).length + 1) (dkH l).tail
  else if (r1.has && fst [112, 80] (dkH l)) = true then finE r1 wh (k + (tkH l).length + 1) (dkH l).tail else wh
def finDigits (rd wh : Pc) (k : Nat) (l : B) : Pc :=
  if fst [46] l then finPoint rd wh (k + 1) l.tail
  else if fst [101, 69] l then finE rd wh (k + 1) l.tail
  else if fst [47] l then finSlash rd wh (k + 1) l.tail
  else if (decide (rd.ahead = [48]) && fst [120, 88] l) = true then finX rd wh (k + 1) l.tail
  else wh
def finSign (rd wh : Pc) (k : Nat) (l : B) : Pc :=
  let r1 : Pc := { rd with kind := 1, ahead := tkD l }
  if r1.has then
    let r2 : Pc := { r1 with stop := k + (tkD l).length }
    finDigits r2 r2 (k + (tkD l).length) (dkD l)
  else if fst [46] (dkD l) then finPoint r1 wh (k + (tkD l).length + 1) (dkD l).tail
  else wh
def finStart (rd wh : Pc) (k : Nat) (l : B) : Pc :=
  if fst [45] l then finSign { rd with neg := true } wh (k + 1) l.tail
  else if fst [43] l then finSign { rd with neg := false } wh (k + 1) l.tail
  else finSign { rd with neg := false } wh k l
def fin : St → Pc → Pc → Nat → B → Pc
  | .start => finStart | .sign => finSign | .digits => finDigits | .x => finX | .point => finPoint | .hexPoint => finHexPoint
  | .slash => finSlash | .e => finE | .stop => fun _ wh _ _ => wh
def longestL (l : B) : Pc := finStart Pc.zero Pc.zero 0 l
/-- the document's way: each kind by itself -/
def refE (cs : B) (p : Pc) (l : B) : Option Pc :=
  if fst cs l then (if expoL l.tail = [] then none else some { p with expo := expoL l.tail, stop := p.stop + 1 + (expoL l.tail).length }) else none
theorem fst_cons (cs : B) (c : UInt8) (l : B) : fst cs (c :: l) = cs.contains c := rfl
theorem tk_dk (t : UInt8 → Bool) (l : B) : l.takeWhile t ++ l.dropWhile t = l := List.takeWhile_append_dropWhile
theorem dk_len (t : UInt8 → Bool) (l : B) : (l.takeWhile t).length + (l.dropWhile t).length = l.length := by
  have := congrArg List.length (tk_dk t l)
  rwa [List.length_append] at this
theorem drop_dk (t : UInt8 → Bool) (l : B) : l.drop (l.takeWhile t).length = l.dropWhile t := by
  have := List.drop_left (l₁ := l.takeWhile t) (l₂ := l.dropWhile t)
  rwa [tk_dk] at this
theorem take_tk (t : UInt8 → Bool) (l : B) : l.take (l.takeWhile t).length = l.takeWhile t := by
  have := List.take_left (l₁ := l.takeWhile t) (l₂ := l.dropWhile t)
  rwa [tk_dk] at this
theorem fst_true {cs l : B} (h : fst cs l = true) : ∃ c r, l = c :: r ∧ cs.contains c = true := by
  cases l with
  | nil => simp [fst] at h
  | cons c r => exact ⟨c, r, rfl, h⟩
theorem isEmpty_iff {l : B} : l.isEmpty = true ↔ l = [] := by cases l <;> simp
end Lx
end Go.Proofs.YtlaendbngekghaaGreatDoor

/- What the pieces of a numeral say. -/
namespace Go.Proofs.YtlaendbngekghaaGreatDoor
set_option linter.unusedVariables false
namespace Lx
/-- a numeral as it is kept -/
structure Nm where
  kind : Int
  neg : Bool
  num : B
  exp : Int
  den : B
/-- a small letter for a capital -/
def lowB (b : UInt8) : UInt8 := if 65 ≤ b.toNat ∧ b.toNat ≤ 90 then UInt8.ofNat (b.toNat + 32) else b
def strip (l : B) : B := (l.dropWhile (fun b => [48].contains b)).map lowB
def stepP (n : Int) (d : UInt8) : Int := if n < 2147483648 then 10 * n + ((d.toNat : Int) - 48) else n
def stepR (n : Int) (d : UInt8) : Int := if 4294967296 < n * 10 + ((d.toNat : Int) - 48) then 4294967296 else n * 10 + ((d.toNat : Int) - 48)
/-- the digits of an exponent -/
def expD (l : B) : B := l.dropWhile (fun b => [43, 45].contains b)
def expoN (l : B) : Int := if fst [45] l then - (expD l).foldl stepP 0 else (expD l).foldl stepP 0
def heldI (e : Int) : Int := if (if e < 1073741824 then e else 1073741824) < -1073741824 then -1073741824 else (if e < 1073741824 then e else 1073741824)
def numOf (p : Pc) : Nm := ⟨p.kind, p.neg, strip (p.ahead ++ p.behind),
  if p.kind = 1 then heldI (expoN p.expo - p.behind.length) else if p.kind = 2 then heldI (expoN p.expo - 4 * p.behind.length) else 0, strip p.den⟩
/-- an exponent as written: none, or digits behind at most one sign -/
def ExpoOk (l : B) : Prop := l = [] ∨ ∃ sg ds, l = sg ++ ds ∧ (sg = [] ∨ sg = [43] ∨ sg = [45]) ∧ ds ≠ [] ∧ ds.all isD = true
structure Ok (n : Nat) (p : Pc) : Prop where
  ahead : p.ahead.all isH = true
  behind : p.behind.all isH = true
  expo : ExpoOk p.expo
  den : p.den.all isD = true
  la : p.ahead.length ≤ n
  lb : p.behind.length ≤ n
  le : p.expo.length ≤ n
  ld : p.den.length ≤ n
  st : p.stop ≤ n
  kd : p.kind = 0 ∨ p.kind = 1 ∨ p.kind = 2 ∨ p.kind = 3
theorem all_tk (t : UInt8 → Bool) (l : B) : (l.takeWhile t).all t = true := by
  induction l with
  | nil => rfl
  | cons b r ih =>
    rw [List.takeWhile_cons]
    by_cases h : t b
    · rw [if_pos h, List.all_cons, h, ih]; rfl
    · rw [if_neg h]; rfl
theorem isH_of {b : UInt8} (h : isD b = true) : isH b = true := by unfold isH; rw [h]; rfl
theorem all_mono {s t : UInt8 → Bool} (h : ∀ b, s b = true → t b = true) {l : B} (hl : l.all s = true) : l.all t = true :=
  List.all_eq_true.mpr fun b hb => h b (List.all_eq_true.mp hl b hb)
theorem allD_tk (l : B) : (tkD l).all isD = true := all_tk isD l
theorem allH_tkD (l : B) : (tkD l).all isH = true := all_mono (fun _ => isH_of) (allD_tk l)
theorem allH_tk (l : B) : (tkH l).all isH = true := all_tk isH l
theorem tkD_le (l : B) : (tkD l).length + (dkD l).length = l.length := dk_len isD l
theorem tkH_le (l : B) : (tkH l).length + (dkH l).length = l.length := dk_len isH l
theorem tail_len {cs l : B} (h : fst cs l = true) : l.tail.length + 1 = l.length := by
  obtain ⟨c, r, rfl, _⟩ := fst_true h; rfl
theorem expo_ok (l : B) : ExpoOk (expoL l) := by
  unfold expoL
  split
  · rename_i h
    split
    · exact Or.inl rfl
    · rename_i hn
      obtain ⟨c, r, rfl, hc⟩ := fst_true h
      refine Or.inr ⟨[c], tkD r, rfl, ?_, hn, allD_tk r⟩
      have : c = 43 ∨ c = 45 := by simpa using hc
      rcases this with rfl | rfl
      · exact Or.inr (Or.inl rfl)
      · exact Or.inr (Or.inr rfl)
  · by_cases hn : tkD l = []
    · exact Or.inl hn
    · exact Or.inr ⟨[], tkD l, rfl, Or.inl rfl, hn, allD_tk l⟩
theorem expo_le (l : B) : (expoL l).length ≤ l.length := by
  unfold expoL
  split
  · rename_i h
    split
    · simp
    · have h1 := tail_len h
      have h2 := tkD_le l.tail
      rw [List.length_append, List.length_take]; omega
  · have := tkD_le l; omega
theorem Ok.zero (n : Nat) : Ok n Pc.zero := ⟨rfl, rfl, Or.inl rfl, rfl, Nat.zero_le _, Nat.zero_le _, Nat.zero_le _, Nat.zero_le _, Nat.zero_le _, Or.inl rfl⟩
theorem ok_finE {n : Nat} {rd wh : Pc} {k : Nat} {l : B} (h1 : Ok n rd) (h2 : Ok n wh) (hk : k + l.length ≤ n) : Ok n (finE rd wh k l) := by
  unfold finE
  split
  · exact h2
  · have := expo_le l
    exact ⟨h1.ahead, h1.behind, expo_ok l, h1.den, h1.la, h1.lb, by show (expoL l).length ≤ n; omega, h1.ld, by show k + (expoL l).length ≤ n; omega, h1.kd⟩
theorem ok_finSlash {n : Nat} {rd wh : Pc} {k : Nat} {l : B} (h1 : Ok n rd) (h2 : Ok n wh) (hk : k + l.length ≤ n) : Ok n (finSlash rd wh k l) := by
  unfold finSlash
  split
  · exact h2
  · have := tkD_le l
    exact ⟨h1.ahead, h1.behind, h1.expo, allD_tk l, h1.la, h1.lb, h1.le, by show (tkD l).length ≤ n; omega, by show k + (tkD l).length ≤ n; omega, Or.inr (Or.inr (Or.inr rfl))⟩
theorem Ok.setBehind {n : Nat} {rd : Pc} (h1 : Ok n rd) {b : B} (hb : b.all isH = true) (hl : b.length ≤ n) : Ok n { rd with behind := b } :=
  ⟨h1.ahead, hb, h1.expo, h1.den, h1.la, hl, h1.le, h1.ld, h1.st, h1.kd⟩
theorem Ok.setStop {n : Nat} {rd : Pc} (h1 : Ok n rd) {k : Nat} (hl : k ≤ n) : Ok n { rd with stop := k } :=
  ⟨h1.ahead, h1.behind, h1.expo, h1.den, h1.la, h1.lb, h1.le, h1.ld, hl, h1.kd⟩
theorem Ok.setAhead {n : Nat} {rd : Pc} (h1 : Ok n rd) {b : B} {k : Int} (hb : b.all isH = true) (hl : b.length ≤ n) (hk : k = 1 ∨ k = 2) : Ok n { rd with kind := k, ahead := b } :=
  ⟨hb, h1.behind, h1.expo, h1.den, hl, h1.lb, h1.le, h1.ld, h1.st, by rcases hk with rfl | rfl; exact Or.inr (Or.inl rfl); exact Or.inr (Or.inr (Or.inl rfl))⟩
theorem Ok.setNeg {n : Nat} {rd : Pc} (h1 : Ok n rd) (b : Bool) : Ok n { rd with neg := b } :=
  ⟨h1.ahead, h1.behind, h1.expo, h1.den, h1.la, h1.lb, h1.le, h1.ld, h1.st, h1.kd⟩
theorem ok_finPoint {n : Nat} {rd wh : Pc} {k : Nat} {l : B} (h1 : Ok n rd) (h2 : Ok n wh) (hk : k + l.length ≤ n) : Ok n (finPoint rd wh k l) := by
  have hl := tkD_le l
  have hb := (h1.setBehind (allH_tkD l) (by omega)).setStop (k := k + (tkD l).length) (by omega)
  unfold finPoint
  simp only
  split
  · exact h2
  · split
    · rename_i hf
      have := tail_len hf
      exact ok_finE hb hb (by omega)
    · exact hb
theorem ok_finHexPoint {n : Nat} {rd wh : Pc} {k : Nat} {l : B} (h1 : Ok n rd) (h2 : Ok n wh) (hk : k + l.length ≤ n) : Ok n (finHexPoint rd wh k l) := by
  have hl := tkH_le l
  have hb := (h1.setBehind (allH_tk l) (by omega))
  unfold finHexPoint
  simp only
  split
  · rename_i hf
    rw [Bool.and_eq_true] at hf
    have := tail_len hf.2
    exact ok_finE hb h2 (by omega)
  · exact h2
theorem ok_finX {n : Nat} {rd wh : Pc} {k : Nat} {l : B} (h1 : Ok n rd) (h2 : Ok n wh) (hk : k + l.length ≤ n) : Ok n (finX rd wh k l) := by
  have hl := tkH_le l
  have hb := (h1.setAhead (k := 2) (allH_tk l) (by omega) (Or.inr rfl))
  unfold finX
  simp only
  split
  · rename_i hf
    have := tail_len hf
    exact ok_finHexPoint hb h2 (by omega)
  · split
    · rename_i hf
      rw [Bool.and_eq_true] at hf
      have := tail_len hf.2
      exact ok_finE hb h2 (by omega)
    · exact h2
theorem ok_finDigits {n : Nat} {rd wh : Pc} {k : Nat} {l : B} (h1 : Ok n rd) (h2 : Ok n wh) (hk : k + l.length ≤ n) : Ok n (finDigits rd wh k l) := by
  unfold finDigits
  split
  · rename_i hf
    have := tail_len hf
    exact ok_finPoint h1 h2 (by omega)
  · split
    · rename_i hf
      have := tail_len hf
      exact ok_finE h1 h2 (by omega)
    · split
      · rename_i hf
        have := tail_len hf
        exact ok_finSlash h1 h2 (by omega)
      · split
        · rename_i hf
          rw [Bool.and_eq_true] at hf
          have := tail_len hf.2
          exact ok_finX h1 h2 (by omega)
        · exact h2
theorem ok_finSign {n : Nat} {rd wh : Pc} {k : Nat} {l : B} (h1 : Ok n rd) (h2 : Ok n wh) (hk : k + l.length ≤ n) : Ok n (finSign rd wh k l) := by
  have hl := tkD_le l
  have hb := (h1.setAhead (k := 1) (allH_tkD l) (by omega) (Or.inl rfl))
  have hb2 := hb.setStop (k := k + (tkD l).length) (by omega)
  unfold finSign
  simp only
  split
  · exact ok_finDigits hb2 hb2 (by omega)
  · split
    · rename_i hf
      have := tail_len hf
      exact ok_finPoint hb h2 (by omega)
    · exact h2
theorem ok_longest (l : B) : Ok l.length (longestL l) := by
  unfold longestL finStart
  have hz := Ok.zero l.length
  split
  · rename_i hf
    have := tail_len hf
    exact ok_finSign (hz.setNeg true) hz (by omega)
  · split
    · rename_i hf
      have := tail_len hf
      exact ok_finSign (hz.setNeg false) hz (by omega)
    · exact ok_finSign (hz.setNeg false) hz (by omega)
theorem all_dk {t s : UInt8 → Bool} {l : B} (h : l.all t = true) : (l.dropWhile s).all t = true :=
  List.all_eq_true.mpr fun b hb => List.all_eq_true.mp h b ((List.dropWhile_suffix s).subset hb)
/-- both ways of reckoning an exponent: the same, or both far off -/
theorem fold_same (ds : B) (h : ds.all isD = true) : ∀ n m : Int, 0 ≤ n → 0 ≤ m → n ≤ 21474836489 → m ≤ 4294967296 → ((n = m ∧ n < 2147483648) ∨ (2147483648 ≤ n ∧ 2147483648 ≤ m)) →
    0 ≤ ds.foldl stepP n ∧ ds.foldl stepP n ≤ 21474836489 ∧ 0 ≤ ds.foldl stepR m ∧ ds.foldl stepR m ≤ 4294967296 ∧ ((ds.foldl stepP n = ds.foldl stepR m ∧ ds.foldl stepP n < 2147483648) ∨ (2147483648 ≤ ds.foldl stepP n ∧ 2147483648 ≤ ds.foldl stepR m)) := by
  induction ds with
  | nil => intro n m h1 h2 h3 h4 h5; simp only [List.foldl_nil]; omega
  | cons d r ih =>
    intro n m h1 h2 h3 h4 h5
    rw [List.all_cons, Bool.and_eq_true] at h
    have hd : 48 ≤ d.toNat ∧ d.toNat ≤ 57 := by
      have := h.1; unfold isD at this; simpa using this
    simp only [List.foldl_cons]
    have hs : 0 ≤ stepP n d ∧ 0 ≤ stepR m d ∧ stepP n d ≤ 21474836489 ∧ stepR m d ≤ 4294967296 ∧ ((stepP n d = stepR m d ∧ stepP n d < 2147483648) ∨ (2147483648 ≤ stepP n d ∧ 2147483648 ≤ stepR m d)) := by
      unfold stepP stepR
      split <;> split <;> omega
    exact ih h.2 (stepP n d) (stepR m d) hs.1 hs.2.1 hs.2.2.1 hs.2.2.2.1 hs.2.2.2.2
theorem dk_none {t : UInt8 → Bool} {l : B} (h : ∀ c r, l = c :: r → t c = false) : l.dropWhile t = l := by
  cases l with
  | nil => rfl
  | cons c r => rw [List.dropWhile_cons, h c r rfl]; rfl
theorem digit_not {c : UInt8} (h : isD c = true) : ([43, 45] : B).contains c = false ∧ ([45] : B).contains c = false ∧ c ≠ 45 := by
  unfold isD at h
  simp only [Bool.and_eq_true, decide_eq_true_eq] at h
  have h1 : c ≠ 45 := by rintro rfl; simp at h
  have h2 : c ≠ 43 := by rintro rfl; simp at h
  simp [h1, h2]
theorem expD_digits {ds : B} (h : ds.all isD = true) : expD ds = ds := by
  apply dk_none
  rintro c r rfl
  rw [List.all_cons, Bool.and_eq_true] at h
  exact (digit_not h.1).1
theorem filter_digits {ds : B} (h : ds.all isD = true) : ds.filter isD = ds := List.filter_eq_self.mpr (List.all_eq_true.mp h)
theorem contains_digits {ds : B} (h : ds.all isD = true) : ds.contains 45 = false := by
  induction ds with
  | nil => rfl
  | cons c r ih =>
    rw [List.all_cons, Bool.and_eq_true] at h
    rw [List.contains_cons, ih h.2]
    have := (digit_not h.1).2.2
    simp [Ne.symm this]
theorem fst_digits {ds : B} (h : ds.all isD = true) : fst [45] ds = false := by
  cases ds with
  | nil => rfl
  | cons c r =>
    rw [List.all_cons, Bool.and_eq_true] at h
    exact (digit_not h.1).2.1
/-- the digits of a written exponent, and whether it has a minus -/
theorem expo_form {l : B} (h : ExpoOk l) : (expD l).all isD = true ∧ l.filter isD = expD l ∧ l.contains 45 = fst [45] l := by
  rcases h with rfl | ⟨sg, ds, rfl, hs, hn, hd⟩
  · exact ⟨rfl, rfl, rfl⟩
  · rcases hs with rfl | rfl | rfl
    · rw [List.nil_append, expD_digits hd, filter_digits hd, contains_digits hd, fst_digits hd]
      exact ⟨hd, rfl, rfl⟩
    · have e : expD ([43] ++ ds) = ds := by
        unfold expD
        rw [List.singleton_append, List.dropWhile_cons]
        exact expD_digits hd
      rw [e]
      refine ⟨hd, ?_, ?_⟩
      · rw [List.singleton_append, List.filter_cons]; exact filter_digits hd
      · rw [List.singleton_append, List.contains_cons, contains_digits hd]; rfl
    · have e : expD ([45] ++ ds) = ds := by
        unfold expD
        rw [List.singleton_append, List.dropWhile_cons]
        exact expD_digits hd
      rw [e]
      refine ⟨hd, ?_, ?_⟩
      · rw [List.singleton_append, List.filter_cons]; exact filter_digits hd
      · rw [List.singleton_append, List.contains_cons]; rfl
theorem expo_bound {l : B} (h : ExpoOk l) : -21474836489 ≤ expoN l ∧ expoN l ≤ 21474836489 := by
  obtain ⟨h1, h2, h3⟩ := expo_form h
  have := fold_same (expD l) h1 0 0 (by decide) (by decide) (by decide) (by decide) (Or.inl ⟨rfl, by decide⟩)
  unfold expoN
  split <;> omega
end Lx
end Go.Proofs.YtlaendbngekghaaGreatDoor

/- The longest numeral of a text that is written by its parts. -/
namespace Go.Proofs.YtlaendbngekghaaGreatDoor
set_option linter.unusedVariables false
namespace Lx
/-- what can't go on a numeral -/
def Stops (l : B) : Prop := ∀ c r, l = c :: r → isH c = false ∧ ([46, 47, 120, 88] : B).contains c = false
theorem Stops.nil : Stops [] := fun c r h => by cases h
theorem Stops.cons {c : UInt8} {r : B} (h : (isH c || ([46, 47, 120, 88] : B).contains c) = false) : Stops (c :: r) := by
  intro d q e
  cases e
  rw [Bool.or_eq_false_iff] at h
  exact h
theorem Stops.fst {l : B} (h : Stops l) {cs : B} (hc : cs.all (fun c => isH c || ([46, 47, 120, 88] : B).contains c) = true) : fst cs l = false := by
  cases l with
  | nil => rfl
  | cons c r =>
    rw [fst_cons]
    cases hh : cs.contains c with
    | false => rfl
    | true =>
      have := List.all_eq_true.mp hc c (by simpa using hh)
      obtain ⟨h1, h2⟩ := h c r rfl
      rw [h1, h2] at this; cases this
theorem isEmpty_ne {l : B} (h : l ≠ []) : l.isEmpty = false := by cases l with | nil => exact absurd rfl h | cons _ _ => rfl
end Lx
end Go.Proofs.YtlaendbngekghaaGreatDoor

/- Layer 10: what Cut tells of a text of digits. -/
namespace Go.Proofs.YtlaendbngekghaaGreatDoor
set_option linter.unusedVariables false
namespace Lx
/-- the number that digits say -/
def dv (l : B) : Int := l.foldl (fun a b => a * 10 + ((b.toNat : Int) - 48)) 0
theorem dv_snoc (l : B) (b : UInt8) : dv (l ++ [b]) = dv l * 10 + ((b.toNat : Int) - 48) := by unfold dv; rw [List.foldl_append]; rfl
theorem dv_from (l : B) (a : Int) : l.foldl (fun a b => a * 10 + ((b.toNat : Int) - 48)) a = a * 10 ^ l.length + dv l := by
  induction l generalizing a with
  | nil => simp [dv]
  | cons b r ih =>
    unfold dv
    rw [List.foldl_cons, List.foldl_cons, ih, ih, List.length_cons, Int.pow_succ]
    grind
theorem dv_append (l m : B) : dv (l ++ m) = dv l * 10 ^ m.length + dv m := by
  have : dv (l ++ m) = m.foldl (fun a b => a * 10 + ((b.toNat : Int) - 48)) (dv l) := by unfold dv; rw [List.foldl_append]
  rw [this, dv_from]
theorem isD_bd {b : UInt8} (h : isD b = true) : 48 ≤ b.toNat ∧ b.toNat ≤ 57 := by
  unfold isD at h
  simpa using h
theorem ten_pos (n : Nat) : (0 : Int) < 10 ^ n := Int.pow_pos (by omega)
theorem dv_bd {l : B} (h : ∀ b ∈ l, isD b = true) : 0 ≤ dv l ∧ dv l < 10 ^ l.length := by
  induction l with
  | nil => simp [dv]
  | cons b r ih =>
    obtain ⟨i0, i1⟩ := ih (fun c hc => h c (List.mem_cons_of_mem _ hc))
    obtain ⟨b0, b1⟩ := isD_bd (h b (List.mem_cons_self ..))
    have e : dv (b :: r) = ((b.toNat : Int) - 48) * 10 ^ r.length + dv r := by
      have := dv_append [b] r
      rw [List.singleton_append] at this
      rw [this]
      congr 2
      simp [dv]
    rw [e, List.length_cons, Int.pow_succ]
    have hp := ten_pos r.length
    generalize (10 : Int) ^ r.length = P at *
    have q0 : 0 ≤ ((b.toNat : Int) - 48) * P := Int.mul_nonneg (by omega) (by omega)
    have q1 : ((b.toNat : Int) - 48) * P ≤ 9 * P := Int.mul_le_mul_of_nonneg_right (by omega) (by omega)
    omega
theorem dv_zero {l : B} (h : ∀ b ∈ l, isD b = true) : dv l = 0 ↔ ∀ b ∈ l, b = 48 := by
  induction l with
  | nil => simp [dv]
  | cons b r ih =>
    have hr : ∀ c ∈ r, isD c = true := fun c hc => h c (List.mem_cons_of_mem _ hc)
    have i := ih hr
    obtain ⟨j0, j1⟩ := dv_bd hr
    obtain ⟨b0, b1⟩ := isD_bd (h b (List.mem_cons_self ..))
    have e : dv (b :: r) = ((b.toNat : Int) - 48) * 10 ^ r.length + dv r := by
      have := dv_append [b] r
      rw [List.singleton_append] at this
      rw [this]
      congr 2
      simp [dv]
    rw [e]
    have hp := ten_pos r.length
    constructor
    · intro hz
      have q0 : 0 ≤ ((b.toNat : Int) - 48) * 10 ^ r.length := Int.mul_nonneg (by omega) (by omega)
      have z1 : ((b.toNat : Int) - 48) * 10 ^ r.length = 0 := by omega
      have z2 : (b.toNat : Int) - 48 = 0 := by
        rcases Int.mul_eq_zero.mp z1 with h | h
        · exact h
        · omega
      intro c hc
      rcases List.mem_cons.mp hc with rfl | hc
      · apply UInt8.toNat_inj.mp
        show c.toNat = 48
        omega
      · exact i.mp (by omega) c hc
    · intro hz
      have hb : b = 48 := hz b (List.mem_cons_self ..)
      have hr0 := i.mpr (fun c hc => hz c (List.mem_cons_of_mem _ hc))
      rw [hr0, hb]
      simp
/-- all digits? -/
def allD (l : B) : Bool := l.all isD
/-- without the zeros ahead -/
def said (l : B) : B := l.dropWhile (fun b => ([48] : B).contains b)
def usedN (l : B) : Nat := min (said l).length 19
/-- Cut's answer -/
def cutV (l : B) : Int := if allD l = true then dv ((said l).take (usedN l)) else 0
def cutN (l : B) : Nat := if allD l = true then l.length - (said l).length + usedN l else 0
def cutMr (l : B) : Bool := if allD l = true then ((said l).drop (usedN l)).any (fun b => b != 48) else false
def cutE (l : B) : Int := if allD l = true then 0 else 41
theorem allD_iff {l : B} : allD l = true ↔ ∀ b ∈ l, isD b = true := by unfold allD; exact List.all_eq_true
theorem said_split (l : B) : ∃ k, k ≤ l.length ∧ said l = l.drop k ∧ (∀ b ∈ l.take k, b = 48) ∧ (∀ b r, said l = b :: r → b ≠ 48) := by
  unfold said
  induction l with
  | nil => exact ⟨0, by simp, rfl, by simp, by simp⟩
  | cons c r ih =>
    rw [List.dropWhile_cons]
    by_cases h : c = 48
    · subst h
      obtain ⟨k, k1, k2, k3, k4⟩ := ih
      have : ([48] : B).contains 48 = true := by decide
      rw [if_pos this]
      refine ⟨k + 1, by simp; omega, by simpa using k2, ?_, k4⟩
      intro b hb
      rw [List.take_succ_cons] at hb
      rcases List.mem_cons.mp hb with rfl | hb
      · rfl
      · exact k3 b hb
    · have : ¬ (([48] : B).contains c = true) := by simpa using h
      rw [if_neg this]
      refine ⟨0, by simp, rfl, by simp, ?_⟩
      intro b r' e
      injection e with e1 e2
      rw [← e1]; exact h
theorem said_le (l : B) : (said l).length ≤ l.length := by
  obtain ⟨k, k1, k2, _, _⟩ := said_split l
  rw [k2, List.length_drop]; omega
/-- the number of all digits, by what Cut tells -/
theorem cut_num {l : B} (h : allD l = true) : ∃ r : Int, dv l = cutV l * 10 ^ (l.length - cutN l) + r ∧ 0 ≤ r ∧ r < 10 ^ (l.length - cutN l) ∧ (cutMr l = true ↔ r ≠ 0) ∧ cutN l ≤ l.length ∧ 0 ≤ cutV l ∧ cutV l ≤ 9999999999999999999 ∧ (cutN l < l.length → 1000000000000000000 ≤ cutV l) := by
  obtain ⟨k, k1, k2, k3, k4⟩ := said_split l
  have hall := allD_iff.mp h
  have hsl : ∀ b ∈ said l, isD b = true := fun b hb => hall b (by rw [k2] at hb; exact List.mem_of_mem_drop hb)
  have hlen : (said l).length = l.length - k := by rw [k2, List.length_drop]
  have hu : usedN l ≤ (said l).length := by unfold usedN; omega
  have hu19 : usedN l ≤ 19 := by unfold usedN; omega
  have ev : cutV l = dv ((said l).take (usedN l)) := by unfold cutV; rw [if_pos h]
  have en : cutN l = l.length - (said l).length + usedN l := by unfold cutN; rw [if_pos h]
  have em : cutMr l = ((said l).drop (usedN l)).any (fun b => b != 48) := by unfold cutMr; rw [if_pos h]
  have hrest : ∀ b ∈ (said l).drop (usedN l), isD b = true := fun b hb => hsl b (List.mem_of_mem_drop hb)
  have htake : ∀ b ∈ (said l).take (usedN l), isD b = true := fun b hb => hsl b (List.mem_of_mem_take hb)
  have hlr : ((said l).drop (usedN l)).length = l.length - cutN l := by rw [List.length_drop, en, hlen]; omega
  obtain ⟨r0, r1⟩ := dv_bd hrest
  obtain ⟨v0, v1⟩ := dv_bd htake
  rw [hlr] at r1
  have htl : ((said l).take (usedN l)).length = usedN l := by rw [List.length_take]; omega
  rw [htl, ← ev] at v1
  rw [← ev] at v0
  have hpow : (10 : Int) ^ usedN l ≤ 10 ^ 19 := by
    have : (10 : Int) ^ 19 = 10 ^ usedN l * 10 ^ (19 - usedN l) := by rw [← Int.pow_add]; congr 1; omega
    rw [this]
    have p1 := ten_pos (usedN l)
    have p2 := ten_pos (19 - usedN l)
    have := Int.mul_le_mul_of_nonneg_left (show (1 : Int) ≤ 10 ^ (19 - usedN l) by omega) (Int.le_of_lt p1)
    omega
  refine ⟨dv ((said l).drop (usedN l)), ?_, r0, r1, ?_, by omega, v0, ?_, ?_⟩
  · have e1 : dv l = dv (said l) := by
      have := dv_append (l.take k) (l.drop k)
      rw [List.take_append_drop] at this
      rw [this, k2]
      have hz : dv (l.take k) = 0 := (dv_zero (fun b hb => hall b (List.mem_of_mem_take hb))).mpr k3
      rw [hz, Int.zero_mul, Int.zero_add]
    have := dv_append ((said l).take (usedN l)) ((said l).drop (usedN l))
    rw [List.take_append_drop, hlr] at this
    rw [e1, ev]; exact this
  · rw [em]
    have z := dv_zero hrest
    rw [List.any_eq_true]
    constructor
    · rintro ⟨b, hb, hne⟩ hz
      have := z.mp hz b hb
      rw [this] at hne
      simp at hne
    · intro hne
      apply Decidable.byContradiction
      intro hc
      apply hne
      apply z.mpr
      intro b hb
      apply Decidable.byContradiction
      intro hbn
      exact hc ⟨b, hb, by simpa using hbn⟩
  · have : (10 : Int) ^ 19 = 10000000000000000000 := by rfl
    omega
  · intro hl
    have hu2 : usedN l = 19 := by
      unfold usedN at *
      omega
    cases hs : said l with
    | nil => rw [hs] at hlen hu; rw [hu2] at hu; simp at hu
    | cons b r =>
      have hb := k4 b r hs
      obtain ⟨b0, b1⟩ := isD_bd (hsl b (by rw [hs]; exact List.mem_cons_self ..))
      have hb9 : 49 ≤ b.toNat := by
        apply Decidable.byContradiction
        intro hc
        exact hb (UInt8.toNat_inj.mp (show b.toNat = 48 by omega))
      have hr18 : (r.take 18).length = 18 := by
        rw [List.length_take]
        have : (said l).length = r.length + 1 := by rw [hs]; rfl
        omega
      have e3 : dv ((said l).take (usedN l)) = ((b.toNat : Int) - 48) * 10 ^ 18 + dv (r.take 18) := by
        rw [hu2, hs, List.take_succ_cons]
        have := dv_append [b] (r.take 18)
        rw [List.singleton_append, hr18] at this
        rw [this]
        congr 2
        simp [dv]
      have q := (dv_bd (l := r.take 18) (fun c hc => hsl c (by rw [hs]; exact List.mem_cons_of_mem _ (List.mem_of_mem_take hc)))).1
      rw [ev, e3]
      have : (10 : Int) ^ 18 = 1000000000000000000 := by rfl
      rw [this]
      omega
theorem trim_all (cs l : B) : (l.dropWhile (fun b => cs.contains b)) = [] ↔ ∀ b ∈ l, cs.contains b = true := by
  induction l with
  | nil => simp
  | cons c r ih =>
    rw [List.dropWhile_cons]
    by_cases h : cs.contains c = true
    · rw [if_pos h, ih]
      constructor
      · intro hr b hb
        rcases List.mem_cons.mp hb with rfl | hb
        · exact h
        · exact hr b hb
      · exact fun hr b hb => hr b (List.mem_cons_of_mem _ hb)
    · rw [if_neg h]
      constructor
      · intro e; cases e
      · intro hr; exact absurd (hr c (List.mem_cons_self ..)) h
theorem digits_has (b : UInt8) : ([48, 49, 50, 51, 52, 53, 54, 55, 56, 57] : B).contains b = isD b := by
  have : ∀ n : Fin 256, ([48, 49, 50, 51, 52, 53, 54, 55, 56, 57] : B).contains (UInt8.ofNat n.val) = isD (UInt8.ofNat n.val) := by decide +kernel
  have h := this ⟨b.toNat, UInt8.toNat_lt b⟩
  simpa using h
end Lx
end Go.Proofs.YtlaendbngekghaaGreatDoor


import Derived.KernelRfl
/- Numerals as they are written: what the longest one at the beginning of a text is, by states and by kinds. -/
namespace Go.Proofs.YtfgpjplfplbcdaaGreatDoor
set_option linter.unusedVariables false
namespace Lx
def isD (b : UInt8) : Bool := decide (48 ≤ b.toNat) && decide (b.toNat ≤ 57)
def isH (b : UInt8) : Bool := isD b || (decide (97 ≤ b.toNat) && decide (b.toNat ≤ 102)) || (decide (65 ≤ b.toNat) && decide (b.toNat ≤ 70))
abbrev B := List UInt8
/-- the pieces of a numeral, as they are written -/
structure Pc where
  kind : Int
  neg : Bool
  ahead : B
  behind : B
  expo : B
  den : B
  stop : Nat
def Pc.zero : Pc := ⟨0, false, [], [], [], [], 0⟩
def tkD (l : B) : B := l.takeWhile isD
def dkD (l : B) : B := l.dropWhile isD
def tkH (l : B) : B := l.takeWhile isH
def dkH (l : B) : B := l.dropWhile isH
def Pc.has (p : Pc) : Bool := !p.ahead.isEmpty || !p.behind.isEmpty
/-- is the first byte one of these? -/
def fst (cs : B) (l : B) : Bool := match l with | c :: _ => cs.contains c | [] => false
/-- the exponent as written, behind the letter -/
def expoL (l : B) : B := if fst [43, 45] l then (if tkD l.tail = [] then [] else l.take 1 ++ tkD l.tail) else tkD l
/-- the states of the reader -/
inductive St where
  | start | sign | digits | point | e | slash | x | hexPoint | stop
deriving DecidableEq
def St.rank : St → Nat
  | .start => 8 | .sign => 7 | .digits => 6 | .x => 5 | .point => 4 | .hexPoint => 3 | .slash => 2 | .e => 1 | .stop => 0
/-- what is read in the end, from a state on: what was read, what is kept, the place, the rest of the text -/
def finE (rd wh : Pc) (k : Nat) (l : B) : Pc := if expoL l = [] then wh else { rd with expo := expoL l, stop := k + (expoL l).length }
def finSlash (rd wh : Pc) (k : Nat) (l : B) : Pc := if tkD l = [] then wh else { rd with kind := 3, den := tkD l, stop := k + (tkD l).length }
def finPoint (rd wh : Pc) (k : Nat) (l : B) : Pc :=
  let r1 : Pc := { rd with behind := tkD l }
  if r1.has = false then wh else
  let r2 : Pc := { r1 with stop := k + (tkD l).length }
  if fst [101, 69] (dkD l) then finE r2 r2 (k + (tkD l).length + 1) (dkD l).tail else r2
def finHexPoint (rd wh : Pc) (k : Nat) (l : B) : Pc :=
  let r1 : Pc := { rd with behind := tkH l }
  if (r1.has && fst [112, 80] (dkH l)) = true then finE r1 wh (k + (tkH l).length + 1) (dkH l).tail else wh
def finX (rd wh : Pc) (k : Nat) (l : B) : Pc :=
  let r1 : Pc := { rd with kind := 2, ahead := tkH l }
  if fst [46] (dkH l) then finHexPoint r1 wh (k + (tkH l).length + 1) (dkH l).tail
  else if (r1.has && fst [112, 80] (dkH l)) = true then finE r1 wh (k + (tkH l).length + 1) (dkH l).tail else wh
def finDigits (rd wh : Pc) (k : Nat) (l : B) : Pc :=
  if fst [46] l then finPoint rd wh (k + 1) l.tail
  else if fst [101, 69] l then finE rd wh (k + 1) l.tail
  else if fst [47] l then finSlash rd wh (k + 1) l.tail
  else if (decide (rd.ahead = [48]) && fst [120, 88] l) = true then finX rd wh (k + 1) l.tail
  else wh
def finSign (rd wh : Pc) (k : Nat) (l : B) : Pc :=
  let r1 : Pc := { rd with kind := 1, ahead := tkD l }
  if r1.has then
    let r2 : Pc := { r1 with stop := k + (tkD l).length }
    finDigits r2 r2 (k + (tkD l).length) (dkD l)
  else if fst [46] (dkD l) then finPoint r1 wh (k + (tkD l).length + 1) (dkD l).tail
  else wh
def finStart (rd wh : Pc) (k : Nat) (l : B) : Pc :=
  if fst [45] l then finSign { rd with neg := true } wh (k + 1) l.tail
  else if fst [43] l then finSign { rd with neg := false } wh (k + 1) l.tail
  else finSign { rd with neg := false } wh k l
def fin : St → Pc → Pc → Nat → B → Pc
  | .start => finStart | .sign => finSign | .digits => finDigits | .x => finX | .point => finPoint | .hexPoint => finHexPoint
  | .slash => finSlash | .e => finE | .stop => fun _ wh _ _ => wh
def longestL (l : B) : Pc := finStart Pc.zero Pc.zero 0 l
theorem fst_cons (cs : B) (c : UInt8) (l : B) : fst cs (c :: l) = cs.contains c := rfl
theorem dk_head {t : UInt8 → Bool} {l : B} {c : UInt8} {r : B} (h : l.dropWhile t = c :: r) : t c = false := by
  induction l with
  | nil => simp at h
  | cons b q ih =>
    rw [List.dropWhile_cons] at h
    by_cases hb : t b
    · rw [if_pos hb] at h; exact ih h
    · rw [if_neg hb] at h
      have := (List.cons.inj h).1
      rw [← this]; simpa using hb
theorem tk_dk (t : UInt8 → Bool) (l : B) : l.takeWhile t ++ l.dropWhile t = l := List.takeWhile_append_dropWhile
theorem dk_len (t : UInt8 → Bool) (l : B) : (l.takeWhile t).length + (l.dropWhile t).length = l.length := by
  have := congrArg List.length (tk_dk t l)
  rwa [List.length_append] at this
theorem drop_dk (t : UInt8 → Bool) (l : B) : l.drop (l.takeWhile t).length = l.dropWhile t := by
  have := List.drop_left (l₁ := l.takeWhile t) (l₂ := l.dropWhile t)
  rwa [tk_dk] at this
theorem take_tk (t : UInt8 → Bool) (l : B) : l.take (l.takeWhile t).length = l.takeWhile t := by
  have := List.take_left (l₁ := l.takeWhile t) (l₂ := l.dropWhile t)
  rwa [tk_dk] at this
theorem fst_true {cs l : B} (h : fst cs l = true) : ∃ c r, l = c :: r ∧ cs.contains c = true := by
  cases l with
  | nil => simp [fst] at h
  | cons c r => exact ⟨c, r, rfl, h⟩
theorem isEmpty_iff {l : B} : l.isEmpty = true ↔ l = [] := by cases l <;> simp
theorem has_false {p : Pc} : p.has = false ↔ p.ahead = [] ∧ p.behind = [] := by
  unfold Pc.has
  cases p.ahead <;> cases p.behind <;> simp
theorem has_true {p : Pc} : p.has = true ↔ ¬ (p.ahead = [] ∧ p.behind = []) := by
  rw [← has_false]; cases p.has <;> simp
end Lx
end Go.Proofs.YtfgpjplfplbcdaaGreatDoor

/- What the pieces of a numeral say. -/
namespace Go.Proofs.YtfgpjplfplbcdaaGreatDoor
set_option linter.unusedVariables false
namespace Lx
/-- a numeral as it is kept -/
structure Nm where
  kind : Int
  neg : Bool
  num : B
  exp : Int
  den : B
/-- a small letter for a capital -/
def lowB (b : UInt8) : UInt8 := if 65 ≤ b.toNat ∧ b.toNat ≤ 90 then UInt8.ofNat (b.toNat + 32) else b
def strip (l : B) : B := (l.dropWhile (fun b => [48].contains b)).map lowB
def stepP (n : Int) (d : UInt8) : Int := if n < 2147483648 then 10 * n + ((d.toNat : Int) - 48) else n
def stepR (n : Int) (d : UInt8) : Int := if 4294967296 < n * 10 + ((d.toNat : Int) - 48) then 4294967296 else n * 10 + ((d.toNat : Int) - 48)
/-- the digits of an exponent -/
def expD (l : B) : B := l.dropWhile (fun b => [43, 45].contains b)
def expoN (l : B) : Int := if fst [45] l then - (expD l).foldl stepP 0 else (expD l).foldl stepP 0
def heldI (e : Int) : Int := if (if e < 1073741824 then e else 1073741824) < -1073741824 then -1073741824 else (if e < 1073741824 then e else 1073741824)
def numOf (p : Pc) : Nm := ⟨p.kind, p.neg, strip (p.ahead ++ p.behind),
  if p.kind = 1 then heldI (expoN p.expo - p.behind.length) else if p.kind = 2 then heldI (expoN p.expo - 4 * p.behind.length) else 0, strip p.den⟩
/-- an exponent as written: none, or digits behind at most one sign -/
def ExpoOk (l : B) : Prop := l = [] ∨ ∃ sg ds, l = sg ++ ds ∧ (sg = [] ∨ sg = [43] ∨ sg = [45]) ∧ ds ≠ [] ∧ ds.all isD = true
structure Ok (n : Nat) (p : Pc) : Prop where
  ahead : p.ahead.all isH = true
  behind : p.behind.all isH = true
  expo : ExpoOk p.expo
  den : p.den.all isD = true
  la : p.ahead.length ≤ n
  lb : p.behind.length ≤ n
  le : p.expo.length ≤ n
  ld : p.den.length ≤ n
  st : p.stop ≤ n
  kd : p.kind = 0 ∨ p.kind = 1 ∨ p.kind = 2 ∨ p.kind = 3
theorem all_tk (t : UInt8 → Bool) (l : B) : (l.takeWhile t).all t = true := by
  induction l with
  | nil => rfl
  | cons b r ih =>
    rw [List.takeWhile_cons]
    by_cases h : t b
    · rw [if_pos h, List.all_cons, h, ih]; rfl
    · rw [if_neg h]; rfl
theorem isH_of {b : UInt8} (h : isD b = true) : isH b = true := by unfold isH; rw [h]; rfl
theorem all_mono {s t : UInt8 → Bool} (h : ∀ b, s b = true → t b = true) {l : B} (hl : l.all s = true) : l.all t = true :=
  List.all_eq_true.mpr fun b hb => h b (List.all_eq_true.mp hl b hb)
theorem allD_tk (l : B) : (tkD l).all isD = true := all_tk isD l
theorem allH_tkD (l : B) : (tkD l).all isH = true := all_mono (fun _ => isH_of) (allD_tk l)
theorem allH_tk (l : B) : (tkH l).all isH = true := all_tk isH l
theorem tkD_le (l : B) : (tkD l).length + (dkD l).length = l.length := dk_len isD l
theorem tkH_le (l : B) : (tkH l).length + (dkH l).length = l.length := dk_len isH l
theorem tail_len {cs l : B} (h : fst cs l = true) : l.tail.length + 1 = l.length := by
  obtain ⟨c, r, rfl, _⟩ := fst_true h; rfl
theorem expo_ok (l : B) : ExpoOk (expoL l) := by
  unfold expoL
  split
  · rename_i h
    split
    · exact Or.inl rfl
    · rename_i hn
      obtain ⟨c, r, rfl, hc⟩ := fst_true h
      refine Or.inr ⟨[c], tkD r, rfl, ?_, hn, allD_tk r⟩
      have : c = 43 ∨ c = 45 := by simpa using hc
      rcases this with rfl | rfl
      · exact Or.inr (Or.inl rfl)
      · exact Or.inr (Or.inr rfl)
  · by_cases hn : tkD l = []
    · exact Or.inl hn
    · exact Or.inr ⟨[], tkD l, rfl, Or.inl rfl, hn, allD_tk l⟩
theorem expo_le (l : B) : (expoL l).length ≤ l.length := by
  unfold expoL
  split
  · rename_i h
    split
    · simp
    · have h1 := tail_len h
      have h2 := tkD_le l.tail
      rw [List.length_append, List.length_take]; omega
  · have := tkD_le l; omega
theorem Ok.zero (n : Nat) : Ok n Pc.zero := ⟨rfl, rfl, Or.inl rfl, rfl, Nat.zero_le _, Nat.zero_le _, Nat.zero_le _, Nat.zero_le _, Nat.zero_le _, Or.inl rfl⟩
theorem ok_finE {n : Nat} {rd wh : Pc} {k : Nat} {l : B} (h1 : Ok n rd) (h2 : Ok n wh) (hk : k + l.length ≤ n) : Ok n (finE rd wh k l) := by
  unfold finE
  split
  · exact h2
  · have := expo_le l
    exact ⟨h1.ahead, h1.behind, expo_ok l, h1.den, h1.la, h1.lb, by show (expoL l).length ≤ n; omega, h1.ld, by show k + (expoL l).length ≤ n; omega, h1.kd⟩
theorem ok_finSlash {n : Nat} {rd wh : Pc} {k : Nat} {l : B} (h1 : Ok n rd) (h2 : Ok n wh) (hk : k + l.length ≤ n) : Ok n (finSlash rd wh k l) := by
  unfold finSlash
  split
  · exact h2
  · have := tkD_le l
    exact ⟨h1.ahead, h1.behind, h1.expo, allD_tk l, h1.la, h1.lb, h1.le, by show (tkD l).length ≤ n; omega, by show k + (tkD l).length ≤ n; omega, Or.inr (Or.inr (Or.inr rfl))⟩
theorem Ok.setBehind {n : Nat} {rd : Pc} (h1 : Ok n rd) {b : B} (hb : b.all isH = true) (hl : b.length ≤ n) : Ok n { rd with behind := b } :=
  ⟨h1.ahead, hb, h1.expo, h1.den, h1.la, hl, h1.le, h1.ld, h1.st, h1.kd⟩
theorem Ok.setStop {n : Nat} {rd : Pc} (h1 : Ok n rd) {k : Nat} (hl : k ≤ n) : Ok n { rd with stop := k } :=
  ⟨h1.ahead, h1.behind, h1.expo, h1.den, h1.la, h1.lb, h1.le, h1.ld, hl, h1.kd⟩
theorem Ok.setAhead {n : Nat} {rd : Pc} (h1 : Ok n rd) {b : B} {k : Int} (hb : b.all isH = true) (hl : b.length ≤ n) (hk : k = 1 ∨ k = 2) : Ok n { rd with kind := k, ahead := b } :=
  ⟨hb, h1.behind, h1.expo, h1.den, hl, h1.lb, h1.le, h1.ld, h1.st, by rcases hk with rfl | rfl; exact Or.inr (Or.inl rfl); exact Or.inr (Or.inr (Or.inl rfl))⟩
theorem Ok.setNeg {n : Nat} {rd : Pc} (h1 : Ok n rd) (b : Bool) : Ok n { rd with neg := b } :=
  ⟨h1.ahead, h1.behind, h1.expo, h1.den, h1.la, h1.lb, h1.le, h1.ld, h1.st, h1.kd⟩
theorem ok_finPoint {n : Nat} {rd wh : Pc} {k : Nat} {l : B} (h1 : Ok n rd) (h2 : Ok n wh) (hk : k + l.length ≤ n) : Ok n (finPoint rd wh k l) := by
  have hl := tkD_le l
  have hb := (h1.setBehind (allH_tkD l) (by omega)).setStop (k := k + (tkD l).length) (by omega)
  unfold finPoint
  simp only
  split
  · exact h2
  · split
    · rename_i hf
      have := tail_len hf
      exact ok_finE hb hb (by omega)
    · exact hb
theorem ok_finHexPoint {n : Nat} {rd wh : Pc} {k : Nat} {l : B} (h1 : Ok n rd) (h2 : Ok n wh) (hk : k + l.length ≤ n) : Ok n (finHexPoint rd wh k l) := by
  have hl := tkH_le l
  have hb := (h1.setBehind (allH_tk l) (by omega))
  unfold finHexPoint
  simp only
  split
  · rename_i hf
    rw [Bool.and_eq_true] at hf
    have := tail_len hf.2
    exact ok_finE hb h2 (by omega)
  · exact h2
theorem ok_finX {n : Nat} {rd wh : Pc} {k : Nat} {l : B} (h1 : Ok n rd) (h2 : Ok n wh) (hk : k + l.length ≤ n) : Ok n (finX rd wh k l) := by
  have hl := tkH_le l
  have hb := (h1.setAhead (k := 2) (allH_tk l) (by omega) (Or.inr rfl))
  unfold finX
  simp only
  split
  · rename_i hf
    have := tail_len hf
    exact ok_finHexPoint hb h2 (by omega)
  · split
    · rename_i hf
      rw [Bool.and_eq_true] at hf
      have := tail_len hf.2
      exact ok_finE hb h2 (by omega)
    · exact h2
theorem ok_finDigits {n : Nat} {rd wh : Pc} {k : Nat} {l : B} (h1 : Ok n rd) (h2 : Ok n wh) (hk : k + l.length ≤ n) : Ok n (finDigits rd wh k l) := by
  unfold finDigits
  split
  · rename_i hf
    have := tail_len hf
    exact ok_finPoint h1 h2 (by omega)
  · split
    · rename_i hf
      have := tail_len hf
      exact ok_finE h1 h2 (by omega)
    · split
      · rename_i hf
        have := tail_len hf
        exact ok_finSlash h1 h2 (by omega)
      · split
        · rename_i hf
          rw [Bool.and_eq_true] at hf
          have := tail_len hf.2
          exact ok_finX h1 h2 (by omega)
        · exact h2
theorem ok_finSign {n : Nat} {rd wh : Pc} {k : Nat} {l : B} (h1 : Ok n rd) (h2 : Ok n wh) (hk : k + l.length ≤ n) : Ok n (finSign rd wh k l) := by
  have hl := tkD_le l
  have hb := (h1.setAhead (k := 1) (allH_tkD l) (by omega) (Or.inl rfl))
  have hb2 := hb.setStop (k := k + (tkD l).length) (by omega)
  unfold finSign
  simp only
  split
  · exact ok_finDigits hb2 hb2 (by omega)
  · split
    · rename_i hf
      have := tail_len hf
      exact ok_finPoint hb h2 (by omega)
    · exact h2
theorem ok_longest (l : B) : Ok l.length (longestL l) := by
  unfold longestL finStart
  have hz := Ok.zero l.length
  split
  · rename_i hf
    have := tail_len hf
    exact ok_finSign (hz.setNeg true) hz (by omega)
  · split
    · rename_i hf
      have := tail_len hf
      exact ok_finSign (hz.setNeg false) hz (by omega)
    · exact ok_finSign (hz.setNeg false) hz (by omega)
theorem all_dk {t s : UInt8 → Bool} {l : B} (h : l.all t = true) : (l.dropWhile s).all t = true :=
  List.all_eq_true.mpr fun b hb => List.all_eq_true.mp h b ((List.dropWhile_suffix s).subset hb)
/-- both ways of reckoning an exponent: the same, or both far off -/
theorem fold_same (ds : B) (h : ds.all isD = true) : ∀ n m : Int, 0 ≤ n → 0 ≤ m → n ≤ 21474836489 → m ≤ 4294967296 → ((n = m ∧ n < 2147483648) ∨ (2147483648 ≤ n ∧ 2147483648 ≤ m)) →
    0 ≤ ds.foldl stepP n ∧ ds.foldl stepP n ≤ 21474836489 ∧ 0 ≤ ds.foldl stepR m ∧ ds.foldl stepR m ≤ 4294967296 ∧ ((ds.foldl stepP n = ds.foldl stepR m ∧ ds.foldl stepP n < 2147483648) ∨ (2147483648 ≤ ds.foldl stepP n ∧ 2147483648 ≤ ds.foldl stepR m)) := by
  induction ds with
  | nil => intro n m h1 h2 h3 h4 h5; simp only [List.foldl_nil]; omega
  | cons d r ih =>
    intro n m h1 h2 h3 h4 h5
    rw [List.all_cons, Bool.and_eq_true] at h
    have hd : 48 ≤ d.toNat ∧ d.toNat ≤ 57 := by
      have := h.1; unfold isD at this; simpa using this
    simp only [List.foldl_cons]
    have hs : 0 ≤ stepP n d ∧ 0 ≤ stepR m d ∧ stepP n d ≤ 21474836489 ∧ stepR m d ≤ 4294967296 ∧ ((stepP n d = stepR m d ∧ stepP n d < 2147483648) ∨ (2147483648 ≤ stepP n d ∧ 2147483648 ≤ stepR m d)) := by
      unfold stepP stepR
      split <;> split <;> omega
    exact ih h.2 (stepP n d) (stepR m d) hs.1 hs.2.1 hs.2.2.1 hs.2.2.2.1 hs.2.2.2.2
theorem dk_none {t : UInt8 → Bool} {l : B} (h : ∀ c r, l = c :: r → t c = false) : l.dropWhile t = l := by
  cases l with
  | nil => rfl
  | cons c r => rw [List.dropWhile_cons, h c r rfl]; rfl
theorem digit_not {c : UInt8} (h : isD c = true) : ([43, 45] : B).contains c = false ∧ ([45] : B).contains c = false ∧ c ≠ 45 := by
  unfold isD at h
  simp only [Bool.and_eq_true, decide_eq_true_eq] at h
  have h1 : c ≠ 45 := by rintro rfl; simp at h
  have h2 : c ≠ 43 := by rintro rfl; simp at h
  simp [h1, h2]
theorem expD_digits {ds : B} (h : ds.all isD = true) : expD ds = ds := by
  apply dk_none
  rintro c r rfl
  rw [List.all_cons, Bool.and_eq_true] at h
  exact (digit_not h.1).1
theorem filter_digits {ds : B} (h : ds.all isD = true) : ds.filter isD = ds := List.filter_eq_self.mpr (List.all_eq_true.mp h)
theorem contains_digits {ds : B} (h : ds.all isD = true) : ds.contains 45 = false := by
  induction ds with
  | nil => rfl
  | cons c r ih =>
    rw [List.all_cons, Bool.and_eq_true] at h
    rw [List.contains_cons, ih h.2]
    have := (digit_not h.1).2.2
    simp [Ne.symm this]
theorem fst_digits {ds : B} (h : ds.all isD = true) : fst [45] ds = false := by
  cases ds with
  | nil => rfl
  | cons c r =>
    rw [List.all_cons, Bool.and_eq_true] at h
    exact (digit_not h.1).2.1
/-- the digits of a written exponent, and whether it has a minus -/
theorem expo_form {l : B} (h : ExpoOk l) : (expD l).all isD = true ∧ l.filter isD = expD l ∧ l.contains 45 = fst [45] l := by
  rcases h with rfl | ⟨sg, ds, rfl, hs, hn, hd⟩
  · exact ⟨rfl, rfl, rfl⟩
  · rcases hs with rfl | rfl | rfl
    · rw [List.nil_append, expD_digits hd, filter_digits hd, contains_digits hd, fst_digits hd]
      exact ⟨hd, rfl, rfl⟩
    · have e : expD ([43] ++ ds) = ds := by
        unfold expD
        rw [List.singleton_append, List.dropWhile_cons]
        exact expD_digits hd
      rw [e]
      refine ⟨hd, ?_, ?_⟩
      · rw [List.singleton_append, List.filter_cons]; exact filter_digits hd
      · rw [List.singleton_append, List.contains_cons, contains_digits hd]; rfl
    · have e : expD ([45] ++ ds) = ds := by
        unfold expD
        rw [List.singleton_append, List.dropWhile_cons]
        exact expD_digits hd
      rw [e]
      refine ⟨hd, ?_, ?_⟩
      · rw [List.singleton_append, List.filter_cons]; exact filter_digits hd
      · rw [List.singleton_append, List.contains_cons]; rfl
theorem expo_bound {l : B} (h : ExpoOk l) : -21474836489 ≤ expoN l ∧ expoN l ≤ 21474836489 := by
  obtain ⟨h1, h2, h3⟩ := expo_form h
  have := fold_same (expD l) h1 0 0 (by decide) (by decide) (by decide) (by decide) (Or.inl ⟨rfl, by decide⟩)
  unfold expoN
  split <;> omega
end Lx
end Go.Proofs.YtfgpjplfplbcdaaGreatDoor

/- The longest numeral of a text that is written by its parts. -/
namespace Go.Proofs.YtfgpjplfplbcdaaGreatDoor
set_option linter.unusedVariables false
namespace Lx
/-- what can't go on a numeral -/
def Stops (l : B) : Prop := ∀ c r, l = c :: r → isH c = false ∧ ([46, 47, 120, 88] : B).contains c = false
theorem Stops.nil : Stops [] := fun c r h => by cases h
theorem Stops.cons {c : UInt8} {r : B} (h : (isH c || ([46, 47, 120, 88] : B).contains c) = false) : Stops (c :: r) := by
  intro d q e
  cases e
  rw [Bool.or_eq_false_iff] at h
  exact h
theorem Stops.fst {l : B} (h : Stops l) {cs : B} (hc : cs.all (fun c => isH c || ([46, 47, 120, 88] : B).contains c) = true) : fst cs l = false := by
  cases l with
  | nil => rfl
  | cons c r =>
    rw [fst_cons]
    cases hh : cs.contains c with
    | false => rfl
    | true =>
      have := List.all_eq_true.mp hc c (by simpa using hh)
      obtain ⟨h1, h2⟩ := h c r rfl
      rw [h1, h2] at this; cases this
theorem tk_app {t : UInt8 → Bool} {h r : B} (hh : h.all t = true) (hr : ∀ c q, r = c :: q → t c = false) : (h ++ r).takeWhile t = h ∧ (h ++ r).dropWhile t = r := by
  induction h with
  | nil =>
    rw [List.nil_append]
    cases r with
    | nil => exact ⟨rfl, rfl⟩
    | cons c q =>
      have := hr c q rfl
      exact ⟨by rw [List.takeWhile_cons, this]; rfl, by rw [List.dropWhile_cons, this]; rfl⟩
  | cons b q ih =>
    rw [List.all_cons, Bool.and_eq_true] at hh
    obtain ⟨i1, i2⟩ := ih hh.2
    rw [List.cons_append, List.takeWhile_cons, List.dropWhile_cons, hh.1]
    exact ⟨by rw [if_pos rfl, i1], by rw [if_pos rfl, i2]⟩
theorem isEmpty_ne {l : B} (h : l ≠ []) : l.isEmpty = false := by cases l with | nil => exact absurd rfl h | cons _ _ => rfl
end Lx
end Go.Proofs.YtfgpjplfplbcdaaGreatDoor

/- Layer 10: what Cut tells of a text of digits. -/
namespace Go.Proofs.YtfgpjplfplbcdaaGreatDoor
set_option linter.unusedVariables false
namespace Lx
theorem trim_all (cs l : B) : (l.dropWhile (fun b => cs.contains b)) = [] ↔ ∀ b ∈ l, cs.contains b = true := by
  induction l with
  | nil => simp
  | cons c r ih =>
    rw [List.dropWhile_cons]
    by_cases h : cs.contains c = true
    · rw [if_pos h, ih]
      constructor
      · intro hr b hb
        rcases List.mem_cons.mp hb with rfl | hb
        · exact h
        · exact hr b hb
      · exact fun hr b hb => hr b (List.mem_cons_of_mem _ hb)
    · rw [if_neg h]
      constructor
      · intro e; cases e
      · intro hr; exact absurd (hr c (List.mem_cons_self ..)) h
end Lx
end Go.Proofs.YtfgpjplfplbcdaaGreatDoor

/- Layer 18: tokens of a text, by numbers alone. -/
namespace Go.Proofs.YtfgpjplfplbcdaaGreatDoor
set_option linter.unusedVariables false
open Lx
namespace Tk
def isBl (c : UInt8) : Bool := c == 32 || c == 9 || c == 10 || c == 13
def isLt (c : UInt8) : Bool := (decide (65 ≤ c.toNat) && decide (c.toNat ≤ 90)) || (decide (97 ≤ c.toNat) && decide (c.toNat ≤ 122))
/-- the kind of a byte -/
def kd (c : UInt8) : Int := if isBl c then 1 else if isLt c then 2 else if c = 40 then 3 else if c = 41 then 4 else if c = 44 then 5 else 0
def isK (k : Int) (c : UInt8) : Bool := kd c == k
/-- a capital for a small letter -/
def upB (c : UInt8) : UInt8 := if 97 ≤ c.toNat then c - 32 else c
def nmZ0 : Nm := ⟨0, false, [], 0, []⟩
/-- a token, or a wrong place (kind -1: the place is fr) -/
structure Ct where
  kind : Int
  fr : Nat
  to : Nat
  word : B
  num : Nm
def Ct.move (k : Nat) (c : Ct) : Ct := { c with fr := k + c.fr, to := k + c.to }
def Ct.bad (k : Nat) : Ct := ⟨-1, k, 0, [], nmZ0⟩
/-- may this stand behind a word or a number? -/
def shutB : B → Bool
  | [] => true
  | c :: _ => isBl c || c == 44 || c == 40 || c == 41
/-- a word or number, if it is shut -/
def shutC (r : B) (t : Ct) : Ct := if shutB (r.drop t.to) then t else Ct.bad t.to
/-- the token that begins at a byte -/
def tokB (c : UInt8) (q : B) : Ct :=
  if isLt c then shutC (c :: q) ⟨1, 0, ((c :: q).takeWhile isLt).length, ((c :: q).takeWhile isLt).map upB, nmZ0⟩
  else if c = 40 then ⟨2, 0, 1, [], nmZ0⟩
  else if c = 41 then ⟨3, 0, 1, [], nmZ0⟩
  else if c = 44 then ⟨4, 0, 1, [], nmZ0⟩
  else
    let p := longestL ((c :: q).take 65536)
    if p.kind = 0 then Ct.bad 0 else shutC (c :: q) ⟨5, 0, p.stop, [], numOf p⟩
/-- the token at the beginning of a rest of a text -/
def cutR (r : B) : Ct :=
  match r.dropWhile isBl with
  | [] => ⟨0, r.length, r.length, [], nmZ0⟩
  | c :: q => (tokB c q).move (r.takeWhile isBl).length
/-- all tokens of a rest that begins at place k, ahead of the end; or the wrong place -/
inductive Toks : Nat → B → List Ct → Option Nat → Prop
  | nil {k : Nat} {r : B} : (cutR r).kind = 0 → Toks k r [] none
  | bad {k : Nat} {r : B} : (cutR r).kind = -1 → Toks k r [] (some (k + (cutR r).fr))
  | cons {k : Nat} {r : B} {l : List Ct} {e : Option Nat} : 0 < (cutR r).kind → Toks (k + (cutR r).to) (r.drop (cutR r).to) l e → Toks k r ((cutR r).move k :: l) e
end Tk
end Go.Proofs.YtfgpjplfplbcdaaGreatDoor

/- Layer 18: what stands at a place: facts. -/
namespace Go.Proofs.YtfgpjplfplbcdaaGreatDoor
set_option linter.unusedVariables false
open Lx
namespace Tk
/-- a numeral that is none or has bytes -/
def Po (p : Pc) : Prop := p.kind ≠ 0 → 0 < p.stop
theorem po_finE {rd wh : Pc} {k : Nat} {l : B} (hk : 0 < k) (h : Po wh) : Po (finE rd wh k l) := by
  unfold finE
  split
  · exact h
  · intro _; show 0 < k + _; omega
theorem po_finSlash {rd wh : Pc} {k : Nat} {l : B} (hk : 0 < k) (h : Po wh) : Po (finSlash rd wh k l) := by
  unfold finSlash
  split
  · exact h
  · intro _; show 0 < k + _; omega
theorem po_finPoint {rd wh : Pc} {k : Nat} {l : B} (hk : 0 < k) (h : Po wh) : Po (finPoint rd wh k l) := by
  unfold finPoint
  simp only
  split
  · exact h
  · have h2 : Po { rd with behind := tkD l, stop := k + (tkD l).length } := fun _ => by show 0 < k + _; omega
    split
    · exact po_finE (by omega) h2
    · exact h2
theorem po_finHexPoint {rd wh : Pc} {k : Nat} {l : B} (hk : 0 < k) (h : Po wh) : Po (finHexPoint rd wh k l) := by
  unfold finHexPoint
  simp only
  split
  · exact po_finE (by omega) h
  · exact h
theorem po_finX {rd wh : Pc} {k : Nat} {l : B} (hk : 0 < k) (h : Po wh) : Po (finX rd wh k l) := by
  unfold finX
  simp only
  split
  · exact po_finHexPoint (by omega) h
  · split
    · exact po_finE (by omega) h
    · exact h
theorem po_finDigits {rd wh : Pc} {k : Nat} {l : B} (hk : 0 < k) (h : Po wh) : Po (finDigits rd wh k l) := by
  unfold finDigits
  split
  · exact po_finPoint (by omega) h
  · split
    · exact po_finE (by omega) h
    · split
      · exact po_finSlash (by omega) h
      · split
        · exact po_finX (by omega) h
        · exact h
theorem po_finSign {rd wh : Pc} {k : Nat} {l : B} (hb : rd.behind = []) (h : Po wh) : Po (finSign rd wh k l) := by
  unfold finSign
  simp only
  split
  · rename_i hh
    have hn : 0 < (tkD l).length := by
      rw [has_true] at hh
      apply Nat.pos_of_ne_zero
      intro e
      exact hh ⟨List.length_eq_zero_iff.mp e, hb⟩
    exact po_finDigits (by omega) (fun _ => by show 0 < k + _; omega)
  · split
    · exact po_finPoint (by omega) h
    · exact h
theorem longest_pos (l : B) : (longestL l).kind ≠ 0 → 0 < (longestL l).stop := by
  unfold longestL finStart
  have z : Po Pc.zero := fun h => absurd rfl h
  split
  · exact po_finSign rfl z
  · split
    · exact po_finSign rfl z
    · exact po_finSign rfl z
theorem longest_le (l : B) : (longestL l).stop ≤ l.length := (ok_longest l).st
/-- what may stand behind a word or a number -/
def isSp (c : UInt8) : Bool := isBl c || c == 44 || c == 40 || c == 41
theorem sp_cases {c : UInt8} (h : isSp c = true) : c = 32 ∨ c = 9 ∨ c = 10 ∨ c = 13 ∨ c = 44 ∨ c = 40 ∨ c = 41 := by
  unfold isSp isBl at h
  simp only [Bool.or_eq_true, beq_iff_eq] at h
  rcases h with (((((h | h) | h) | h) | h) | h) | h <;> simp [h]
theorem kd_cases (c : UInt8) : kd c = 0 ∨ kd c = 1 ∨ kd c = 2 ∨ kd c = 3 ∨ kd c = 4 ∨ kd c = 5 := by
  unfold kd
  split; · simp
  split; · simp
  split; · simp
  split; · simp
  split <;> simp
/-- the facts of a cut -/
structure CutF (r : B) (c : Ct) : Prop where
  kinds : c.kind = -1 ∨ c.kind = 0 ∨ c.kind = 1 ∨ c.kind = 2 ∨ c.kind = 3 ∨ c.kind = 4 ∨ c.kind = 5
  fr : c.fr ≤ r.length
  to : c.to ≤ r.length
  up : 0 < c.kind → c.fr < c.to
  nil : c.kind = 0 → c.fr = r.length ∧ c.to = r.length ∧ c.word = [] ∧ c.num = nmZ0
  bad : c.kind = -1 → c.fr < r.length
theorem shutC_len {r : B} {t : Ct} (h : shutB (r.drop t.to) = false) : t.to < r.length := by
  apply Decidable.byContradiction
  intro hc
  rw [List.drop_eq_nil_of_le (by omega)] at h
  cases h
theorem shutC_f {r : B} {t : Ct} (hk : 0 < t.kind) (hk5 : t.kind = 1 ∨ t.kind = 5) (hf : t.fr = 0) (ht : 0 < t.to) (hl : t.to ≤ r.length) : CutF r (shutC r t) := by
  unfold shutC
  by_cases h : shutB (r.drop t.to) = true
  · rw [if_pos h]
    exact ⟨by omega, by omega, hl, fun _ => by omega, fun e => by omega, fun e => by omega⟩
  · rw [if_neg h]
    have := shutC_len (r := r) (t := t) (by simpa using h)
    exact ⟨Or.inl rfl, by show t.to ≤ _; omega, Nat.zero_le _, fun e => by exact absurd e (by show ¬ (0 : Int) < -1; omega), fun e => by exact absurd e (by show ¬ (-1 : Int) = 0; omega), fun _ => this⟩
theorem tokB_f (c : UInt8) (q : B) : CutF (c :: q) (tokB c q) ∧ (tokB c q).kind ≠ 0 := by
  have one : ∀ k : Int, (k = 2 ∨ k = 3 ∨ k = 4) → CutF (c :: q) ⟨k, 0, 1, [], nmZ0⟩ := fun k hk =>
    ⟨by show k = -1 ∨ k = 0 ∨ k = 1 ∨ k = 2 ∨ k = 3 ∨ k = 4 ∨ k = 5; omega, Nat.zero_le _, by show 1 ≤ (c :: q).length; simp, fun _ => by show 0 < 1; omega, fun e => by have : k = 0 := e; omega, fun e => by have : k = -1 := e; omega⟩
  unfold tokB
  split
  · rename_i h
    have hp : 0 < ((c :: q).takeWhile isLt).length := by rw [List.takeWhile_cons, if_pos h]; simp
    have hl := dk_len isLt (c :: q)
    have hs := shutC_f (r := c :: q) (t := ⟨1, 0, ((c :: q).takeWhile isLt).length, ((c :: q).takeWhile isLt).map upB, nmZ0⟩) (by show (0 : Int) < 1; omega) (Or.inl rfl) rfl hp (by show ((c :: q).takeWhile isLt).length ≤ _; omega)
    refine ⟨hs, ?_⟩
    unfold shutC
    split
    · show (1 : Int) ≠ 0; omega
    · show (-1 : Int) ≠ 0; omega
  · split
    · exact ⟨one 2 (by omega), by show (2 : Int) ≠ 0; omega⟩
    · split
      · exact ⟨one 3 (by omega), by show (3 : Int) ≠ 0; omega⟩
      · split
        · exact ⟨one 4 (by omega), by show (4 : Int) ≠ 0; omega⟩
        · simp only
          split
          · exact ⟨⟨Or.inl rfl, Nat.zero_le _, Nat.zero_le _, fun e => by exact absurd e (by show ¬ (0 : Int) < -1; omega), fun e => by exact absurd e (by show ¬ (-1 : Int) = 0; omega), fun _ => by show 0 < (c :: q).length; simp⟩, by show (-1 : Int) ≠ 0; omega⟩
          · rename_i hk
            have h1 := longest_pos _ hk
            have h2 := longest_le ((c :: q).take 65536)
            have h3 : ((c :: q).take 65536).length ≤ (c :: q).length := by rw [List.length_take]; omega
            refine ⟨shutC_f (t := ⟨5, 0, (longestL ((c :: q).take 65536)).stop, [], numOf (longestL ((c :: q).take 65536))⟩) (by show (0 : Int) < 5; omega) (Or.inr rfl) rfl h1 (by show (longestL ((c :: q).take 65536)).stop ≤ _; omega), ?_⟩
            unfold shutC
            split
            · show (5 : Int) ≠ 0; omega
            · show (-1 : Int) ≠ 0; omega
theorem cut_f (r : B) : CutF r (cutR r) := by
  unfold cutR
  split
  · exact ⟨Or.inr (Or.inl rfl), Nat.le_refl _, Nat.le_refl _, fun e => by exact absurd e (by show ¬ (0 : Int) < 0; omega), fun _ => ⟨rfl, rfl, rfl, rfl⟩, fun e => by exact absurd e (by show ¬ (0 : Int) = -1; omega)⟩
  · rename_i c q he
    obtain ⟨hf, h0⟩ := tokB_f c q
    have hl := dk_len isBl r
    rw [he] at hl
    have a := hf.fr
    have b := hf.to
    refine ⟨hf.kinds, by show _ + (tokB c q).fr ≤ _; omega, by show _ + (tokB c q).to ≤ _; omega, fun e => ?_, fun e => absurd e h0, fun e => ?_⟩
    · have := hf.up e
      show _ + (tokB c q).fr < _ + (tokB c q).to; omega
    · have := hf.bad e
      show _ + (tokB c q).fr < _; omega
theorem Toks.len {k : Nat} {r : B} {l : List Ct} {e : Option Nat} (h : Toks k r l e) : l.length ≤ r.length := by
  induction h with
  | nil _ => simp
  | bad _ => simp
  | @cons k r l e hp _ ih =>
    have f := cut_f r
    have h1 := f.up hp
    have h2 := f.to
    rw [List.length_drop] at ih
    rw [List.length_cons]; omega
end Tk
end Go.Proofs.YtfgpjplfplbcdaaGreatDoor

/- Layer 18: texts laid one behind the other, by numbers alone. -/
namespace Go.Proofs.YtfgpjplfplbcdaaGreatDoor
set_option linter.unusedVariables false
set_option linter.unusedSimpArgs false
open Lx
namespace Tk
theorem tk_more {t : UInt8 → Bool} {c : UInt8} (hc : t c = false) (b : B) : ∀ a : B, (a ++ c :: b).takeWhile t = a.takeWhile t ∧ (a ++ c :: b).dropWhile t = a.dropWhile t ++ c :: b
  | [] => by simp [List.takeWhile_cons, List.dropWhile_cons, hc]
  | x :: a => by
    obtain ⟨h1, h2⟩ := tk_more hc b a
    cases hx : t x
    · simp [List.takeWhile_cons, List.dropWhile_cons, hx]
    · simp [List.takeWhile_cons, List.dropWhile_cons, hx, h1, h2]
section
variable {c : UInt8} (hc : isSp c = true) (b : B)
include hc
theorem sp_D : isD c = false := by
  rcases sp_cases hc with rfl | rfl | rfl | rfl | rfl | rfl | rfl <;> rfl
theorem sp_H : isH c = false := by
  rcases sp_cases hc with rfl | rfl | rfl | rfl | rfl | rfl | rfl <;> rfl
theorem sp_lt : isLt c = false := by
  rcases sp_cases hc with rfl | rfl | rfl | rfl | rfl | rfl | rfl <;> rfl
theorem fst_more (cs : B) (hcs : cs.all (fun x => !isSp x) = true) (a : B) : fst cs (a ++ c :: b) = fst cs a := by
  cases a with
  | nil =>
    show cs.contains c = false
    cases h : cs.contains c with
    | false => rfl
    | true =>
      have := List.all_eq_true.mp hcs c (by simpa using h)
      rw [hc] at this; cases this
  | cons x a => rfl
omit hc in
theorem tail_more {cs a : B} (h : fst cs a = true) : (a ++ c :: b).tail = a.tail ++ c :: b := by
  obtain ⟨x, r, rfl, _⟩ := fst_true h
  rfl
theorem tkD_more (a : B) : tkD (a ++ c :: b) = tkD a := (tk_more (sp_D hc) b a).1
theorem dkD_more (a : B) : dkD (a ++ c :: b) = dkD a ++ c :: b := (tk_more (sp_D hc) b a).2
theorem tkH_more (a : B) : tkH (a ++ c :: b) = tkH a := (tk_more (sp_H hc) b a).1
theorem dkH_more (a : B) : dkH (a ++ c :: b) = dkH a ++ c :: b := (tk_more (sp_H hc) b a).2
theorem expo_more (a : B) : expoL (a ++ c :: b) = expoL a := by
  unfold expoL
  rw [fst_more hc b [43, 45] rfl]
  split
  · rename_i h
    rw [tail_more b h, tkD_more hc]
    obtain ⟨x, r, rfl, _⟩ := fst_true h
    rfl
  · exact tkD_more hc b a
theorem finE_more (rd wh : Pc) (k : Nat) (a : B) : finE rd wh k (a ++ c :: b) = finE rd wh k a := by
  unfold finE
  rw [expo_more hc]
theorem finSlash_more (rd wh : Pc) (k : Nat) (a : B) : finSlash rd wh k (a ++ c :: b) = finSlash rd wh k a := by
  unfold finSlash
  rw [tkD_more hc]
theorem finPoint_more (rd wh : Pc) (k : Nat) (a : B) : finPoint rd wh k (a ++ c :: b) = finPoint rd wh k a := by
  unfold finPoint
  simp only
  rw [tkD_more hc, dkD_more hc, fst_more hc b [101, 69] rfl]
  split
  · rfl
  · split
    · rename_i h
      rw [tail_more b h, finE_more hc]
    · rfl
theorem finHexPoint_more (rd wh : Pc) (k : Nat) (a : B) : finHexPoint rd wh k (a ++ c :: b) = finHexPoint rd wh k a := by
  unfold finHexPoint
  simp only
  rw [tkH_more hc, dkH_more hc, fst_more hc b [112, 80] rfl]
  split
  · rename_i h
    rw [Bool.and_eq_true] at h
    rw [tail_more b h.2, finE_more hc]
  · rfl
theorem finX_more (rd wh : Pc) (k : Nat) (a : B) : finX rd wh k (a ++ c :: b) = finX rd wh k a := by
  unfold finX
  simp only
  rw [tkH_more hc, dkH_more hc, fst_more hc b [112, 80] rfl, fst_more hc b [46] rfl]
  split
  · rename_i h
    rw [tail_more b h, finHexPoint_more hc]
  · split
    · rename_i h
      rw [Bool.and_eq_true] at h
      rw [tail_more b h.2, finE_more hc]
    · rfl
theorem finDigits_more (rd wh : Pc) (k : Nat) (a : B) : finDigits rd wh k (a ++ c :: b) = finDigits rd wh k a := by
  unfold finDigits
  rw [fst_more hc b [46] rfl, fst_more hc b [101, 69] rfl, fst_more hc b [47] rfl, fst_more hc b [120, 88] rfl]
  split
  · rename_i h
    rw [tail_more b h, finPoint_more hc]
  · split
    · rename_i h
      rw [tail_more b h, finE_more hc]
    · split
      · rename_i h
        rw [tail_more b h, finSlash_more hc]
      · split
        · rename_i h
          rw [Bool.and_eq_true] at h
          rw [tail_more b h.2, finX_more hc]
        · rfl
theorem finSign_more (rd wh : Pc) (k : Nat) (a : B) : finSign rd wh k (a ++ c :: b) = finSign rd wh k a := by
  unfold finSign
  simp only
  rw [tkD_more hc, dkD_more hc, fst_more hc b [46] rfl]
  split
  · rw [finDigits_more hc]
  · split
    · rename_i h
      rw [tail_more b h, finPoint_more hc]
    · rfl
theorem longest_more (a : B) : longestL (a ++ c :: b) = longestL a := by
  unfold longestL finStart
  rw [fst_more hc b [45] rfl, fst_more hc b [43] rfl]
  split
  · rename_i h
    rw [tail_more b h, finSign_more hc]
  · split
    · rename_i h
      rw [tail_more b h, finSign_more hc]
    · rw [finSign_more hc]
theorem longest_cut (n : Nat) (a : B) : longestL ((a ++ c :: b).take n) = longestL (a.take n) := by
  by_cases h : n ≤ a.length
  · rw [List.take_append_of_le_length h]
  · obtain ⟨m, rfl⟩ : ∃ m, n = a.length + (m + 1) := ⟨n - a.length - 1, by omega⟩
    rw [List.take_append, List.take_of_length_le (by omega : a.length ≤ a.length + (m + 1)), show a.length + (m + 1) - a.length = m + 1 from by omega, List.take_succ_cons]
    exact longest_more hc _ a
theorem shut_more (a : B) : shutB (a ++ c :: b) = shutB a := by
  cases a with
  | nil => exact hc
  | cons x a => rfl
theorem shutC_more {a : B} {t : Ct} (h : t.to ≤ a.length) : shutC (a ++ c :: b) t = shutC a t := by
  unfold shutC
  rw [List.drop_append_of_le_length h, shut_more hc]
theorem tokB_more (x : UInt8) (q : B) : tokB x (q ++ c :: b) = tokB x q := by
  unfold tokB
  have e : ∀ p : UInt8 → Bool, p c = false → (x :: (q ++ c :: b)).takeWhile p = (x :: q).takeWhile p := fun p hp => (tk_more hp b (x :: q)).1
  split
  · rw [e _ (sp_lt hc)]
    have hl := dk_len isLt (x :: q)
    exact shutC_more hc b (a := x :: q) (by show ((x :: q).takeWhile isLt).length ≤ _; omega)
  · split
    · rfl
    · split
      · rfl
      · split
        · rfl
        · have e2 : longestL ((x :: (q ++ c :: b)).take 65536) = longestL ((x :: q).take 65536) := longest_cut hc b 65536 (x :: q)
          rw [e2]
          simp only
          split
          · rfl
          · have h2 := longest_le ((x :: q).take 65536)
            have h3 : ((x :: q).take 65536).length ≤ (x :: q).length := by rw [List.length_take]; omega
            exact shutC_more hc b (a := x :: q) (by show (longestL ((x :: q).take 65536)).stop ≤ _; omega)
end
theorem dropW_more {t : UInt8 → Bool} (a x : B) {y : UInt8} {q : B} (h : a.dropWhile t = y :: q) : (a ++ x).dropWhile t = y :: (q ++ x) ∧ (a ++ x).takeWhile t = a.takeWhile t := by
  induction a with
  | nil => simp at h
  | cons b a ih =>
    cases hb : t b
    · rw [List.dropWhile_cons, hb] at h
      simp at h
      obtain ⟨rfl, rfl⟩ := h
      simp [List.dropWhile_cons, List.takeWhile_cons, hb]
    · rw [List.dropWhile_cons, hb] at h
      simp at h
      obtain ⟨h1, h2⟩ := ih h
      simp [List.dropWhile_cons, List.takeWhile_cons, hb, h1, h2]
theorem cutR_nonil {r : B} (h : (cutR r).kind ≠ 0) : ∃ y q, r.dropWhile isBl = y :: q ∧ cutR r = (tokB y q).move (r.takeWhile isBl).length := by
  unfold cutR at *
  split at h
  · exact absurd rfl h
  · rename_i y q he
    exact ⟨y, q, he, rfl⟩
/-- more behind a separator changes no token that is there -/
theorem cut_more {c : UInt8} (hc : isSp c = true) (b : B) {r : B} (h : (cutR r).kind ≠ 0) : cutR (r ++ c :: b) = cutR r := by
  obtain ⟨y, q, h1, h2⟩ := cutR_nonil h
  obtain ⟨h3, h4⟩ := dropW_more r (c :: b) h1
  rw [h2]
  unfold cutR
  rw [h3]
  simp only
  rw [tokB_more hc b y q, h4]
/-- blanks ahead -/
theorem cut_bl {a : B} (ha : a.all isBl = true) (r : B) : cutR (a ++ r) = (cutR r).move a.length := by
  have h1 : (a ++ r).dropWhile isBl = r.dropWhile isBl ∧ (a ++ r).takeWhile isBl = a ++ r.takeWhile isBl := by
    induction a with
    | nil => exact ⟨rfl, rfl⟩
    | cons x a ih =>
      rw [List.all_cons, Bool.and_eq_true] at ha
      obtain ⟨i1, i2⟩ := ih ha.2
      rw [List.cons_append, List.dropWhile_cons, List.takeWhile_cons, ha.1]
      exact ⟨by rw [if_pos rfl, i1], by rw [if_pos rfl, i2]; rfl⟩
  unfold cutR
  rw [h1.1]
  split
  · unfold Ct.move
    simp [List.length_append]
  · unfold Ct.move
    simp only [h1.2, List.length_append, Nat.add_assoc]
theorem cut_nil_all {r : B} (h : (cutR r).kind = 0) : r.all isBl = true := by
  unfold cutR at h
  split at h
  · rename_i he
    have := tk_dk isBl r
    rw [he, List.append_nil] at this
    rw [← this]
    exact all_tk isBl r
  · rename_i y q he
    exact absurd h (tokB_f y q).2
theorem cons_ne {r : B} {k : Int} (h : (cutR r).kind = k) (hk : k ≠ 0) : (cutR r).kind ≠ 0 := by rw [h]; exact hk
theorem Toks.bl {a : B} (ha : a.all isBl = true) {k : Nat} {r : B} {l : List Ct} {e : Option Nat} (h : Toks (k + a.length) r l e) : Toks k (a ++ r) l e := by
  have hc := cut_bl ha r
  cases h with
  | nil h => exact .nil (by rw [hc]; exact h)
  | bad h =>
    have : k + a.length + (cutR r).fr = k + (cutR (a ++ r)).fr := by rw [hc]; show _ = k + (a.length + _); omega
    rw [this]
    exact .bad (by rw [hc]; exact h)
  | cons h h2 =>
    have e1 : (cutR r).move (k + a.length) = (cutR (a ++ r)).move k := by
      rw [hc]; unfold Ct.move; simp only [Nat.add_assoc]
    rw [e1]
    refine .cons (by rw [hc]; exact h) ?_
    have e2 : (cutR (a ++ r)).to = a.length + (cutR r).to := by rw [hc]; rfl
    rw [e2, List.drop_append, List.drop_eq_nil_of_le (by omega), List.nil_append, show a.length + (cutR r).to - a.length = (cutR r).to from by omega, ← Nat.add_assoc]
    exact h2
/-- an error stays where it is -/
theorem Toks.wrong {c : UInt8} (hc : isSp c = true) (b : B) {k : Nat} {r : B} {l : List Ct} {e : Option Nat} (h : Toks k r l e) : ∀ p, e = some p → Toks k (r ++ c :: b) l e := by
  induction h with
  | nil h => intro p he; cases he
  | @bad k r h =>
    intro p _
    have e1 := cut_more hc b (cons_ne h (by decide))
    have : k + (cutR r).fr = k + (cutR (r ++ c :: b)).fr := by rw [e1]
    rw [this]
    exact .bad (by rw [e1]; exact h)
  | @cons k r l e h h2 ih =>
    intro p he
    have e1 := cut_more hc b (r := r) (by omega)
    have : (cutR r).move k = (cutR (r ++ c :: b)).move k := by rw [e1]
    rw [this]
    refine .cons (by rw [e1]; exact h) ?_
    rw [e1, List.drop_append_of_le_length (cut_f r).to]
    exact ih p he
end Tk
end Go.Proofs.YtfgpjplfplbcdaaGreatDoor

/- Layer 18: a numeral by itself, by numbers alone. -/
namespace Go.Proofs.YtfgpjplfplbcdaaGreatDoor
set_option linter.unusedVariables false
set_option linter.unusedSimpArgs false
open Lx
namespace Tk
theorem tk_take (t : UInt8 → Bool) (l : B) (j : Nat) : l.take ((l.takeWhile t).length + j) = l.takeWhile t ++ (l.dropWhile t).take j ∧ (l.takeWhile t ++ (l.dropWhile t).take j).takeWhile t = l.takeWhile t ∧ (l.takeWhile t ++ (l.dropWhile t).take j).dropWhile t = (l.dropWhile t).take j := by
  refine ⟨?_, tk_app (all_tk t l) ?_⟩
  · have h : l = l.takeWhile t ++ l.dropWhile t := (tk_dk t l).symm
    have : l.take ((l.takeWhile t).length + j) = (l.takeWhile t ++ l.dropWhile t).take ((l.takeWhile t).length + j) := by rw [← h]
    rw [this, List.take_length_add_append]
  · intro c q hq
    cases hd : l.dropWhile t with
    | nil => rw [hd] at hq; simp at hq
    | cons x r =>
      rw [hd] at hq
      cases j with
      | zero => simp at hq
      | succ j =>
        simp at hq
        obtain ⟨rfl, _⟩ := hq
        exact dk_head hd
theorem tkD_take (l : B) (j : Nat) : tkD (l.take ((tkD l).length + j)) = tkD l ∧ dkD (l.take ((tkD l).length + j)) = (dkD l).take j := by
  have h := tk_take isD l j
  unfold tkD dkD
  rw [h.1]
  exact h.2
theorem tkH_take (l : B) (j : Nat) : tkH (l.take ((tkH l).length + j)) = tkH l ∧ dkH (l.take ((tkH l).length + j)) = (dkH l).take j := by
  have h := tk_take isH l j
  unfold tkH dkH
  rw [h.1]
  exact h.2
theorem fst_take (cs l : B) (j : Nat) : fst cs (l.take (j + 1)) = fst cs l := by cases l <;> rfl
theorem fst_take0 (cs l : B) : fst cs (l.take 0) = false := by rw [List.take_zero]; rfl
theorem tail_take (l : B) (j : Nat) : (l.take (j + 1)).tail = l.tail.take j := by cases l <;> simp
theorem expo_take (l : B) : expoL (l.take (expoL l).length) = expoL l := by
  unfold expoL
  by_cases h : fst [43, 45] l = true
  · rw [if_pos h]
    by_cases hd : tkD l.tail = []
    · rw [if_pos hd]; simp [fst, tkD]
    · rw [if_neg hd]
      have hl : (l.take 1 ++ tkD l.tail).length = (tkD l.tail).length + 1 := by
        obtain ⟨x, r, rfl, _⟩ := fst_true h
        simp
      rw [hl, fst_take, if_pos h, tail_take]
      have := tkD_take l.tail 0
      rw [Nat.add_zero] at this
      rw [this.1, if_neg hd]
      congr 1
      obtain ⟨x, r, rfl, _⟩ := fst_true h
      rfl
  · have h' : fst [43, 45] l = false := by simpa using h
    rw [if_neg h]
    have := tkD_take l 0
    rw [Nat.add_zero] at this
    cases hn : (tkD l).length with
    | zero =>
      have e : tkD l = [] := List.length_eq_zero_iff.mp hn
      rw [e]; simp [fst, tkD]
    | succ n =>
      rw [fst_take, if_neg h, ← hn, this.1]
/-- a reading that ends at its stop is the same of the text up to there -/
def Cl (F : B → Pc) (wh : Pc) (k : Nat) (l : B) : Prop := F l = wh ∨ ∃ m, (F l).stop = k + m ∧ m ≤ l.length ∧ F (l.take m) = F l
theorem cl_E (rd wh : Pc) (k : Nat) (l : B) : Cl (finE rd wh k) wh k l := by
  unfold Cl
  by_cases h : expoL l = []
  · left; unfold finE; rw [if_pos h]
  · right
    refine ⟨(expoL l).length, ?_, expo_le l, ?_⟩
    · unfold finE; rw [if_neg h]
    · unfold finE; rw [expo_take, if_neg h]
theorem cl_Slash (rd wh : Pc) (k : Nat) (l : B) : Cl (finSlash rd wh k) wh k l := by
  unfold Cl
  by_cases h : tkD l = []
  · left; unfold finSlash; rw [if_pos h]
  · right
    have := tkD_take l 0
    rw [Nat.add_zero] at this
    have hl := tkD_le l
    refine ⟨(tkD l).length, ?_, by omega, ?_⟩
    · unfold finSlash; rw [if_neg h]
    · unfold finSlash; rw [this.1, if_neg h]
theorem cl_Point (rd wh : Pc) (k : Nat) (l : B) : Cl (finPoint rd wh k) wh k l := by
  unfold Cl
  have hl := tkD_le l
  by_cases hh : Pc.has { rd with behind := tkD l } = false
  · left; unfold finPoint; simp only [hh, if_true]
  · right
    have hh' : Pc.has { rd with behind := tkD l } = true := by simpa using hh
    clear hh
    by_cases he : fst [101, 69] (dkD l) = true
    · have ht := tail_len he
      rcases cl_E { rd with behind := tkD l, stop := k + (tkD l).length } { rd with behind := tkD l, stop := k + (tkD l).length } (k + (tkD l).length + 1) (dkD l).tail with h | ⟨m, h1, h2, h3⟩
      · have t0 := tkD_take l 0
        rw [Nat.add_zero] at t0
        refine ⟨(tkD l).length, ?_, by omega, ?_⟩
        · unfold finPoint; simp only [hh', Bool.true_eq_false, if_false, he, if_true]; rw [h]
        · unfold finPoint
          rw [t0.1, t0.2, fst_take0]
          simp only [hh', Bool.true_eq_false, if_false, he, if_true, Bool.false_eq_true]
          rw [h]
      · have t0 := tkD_take l (m + 1)
        refine ⟨(tkD l).length + (m + 1), ?_, by omega, ?_⟩
        · unfold finPoint; simp only [hh', Bool.true_eq_false, if_false, he, if_true]; rw [h1]; omega
        · unfold finPoint
          rw [t0.1, t0.2, fst_take, tail_take]
          simp only [hh', Bool.true_eq_false, if_false, he, if_true]
          exact h3
    · have t0 := tkD_take l 0
      rw [Nat.add_zero] at t0
      refine ⟨(tkD l).length, ?_, by omega, ?_⟩
      · unfold finPoint; simp only [hh', Bool.true_eq_false, if_false, he, Bool.false_eq_true]
      · unfold finPoint
        rw [t0.1, t0.2, fst_take0]
        simp only [hh', Bool.true_eq_false, if_false, he, Bool.false_eq_true]
theorem cl_HexPoint (rd wh : Pc) (k : Nat) (l : B) : Cl (finHexPoint rd wh k) wh k l := by
  unfold Cl
  have hl := tkH_le l
  by_cases hh : (Pc.has { rd with behind := tkH l } && fst [112, 80] (dkH l)) = true
  · have hp := hh
    rw [Bool.and_eq_true] at hp
    have ht := tail_len hp.2
    rcases cl_E { rd with behind := tkH l } wh (k + (tkH l).length + 1) (dkH l).tail with h | ⟨m, h1, h2, h3⟩
    · left; unfold finHexPoint; simp only [hh, if_true]; exact h
    · right
      have t0 := tkH_take l (m + 1)
      refine ⟨(tkH l).length + (m + 1), ?_, by omega, ?_⟩
      · unfold finHexPoint; simp only [hh, if_true]; rw [h1]; omega
      · unfold finHexPoint
        rw [t0.1, t0.2, fst_take, tail_take]
        simp only [hh, if_true]
        exact h3
  · left; unfold finHexPoint; simp only [hh, if_false, Bool.false_eq_true]
theorem cl_X (rd wh : Pc) (k : Nat) (l : B) : Cl (finX rd wh k) wh k l := by
  unfold Cl
  have hl := tkH_le l
  by_cases hp : fst [46] (dkH l) = true
  · have ht := tail_len hp
    rcases cl_HexPoint { rd with kind := 2, ahead := tkH l } wh (k + (tkH l).length + 1) (dkH l).tail with h | ⟨m, h1, h2, h3⟩
    · left; unfold finX; simp only [hp, if_true]; exact h
    · right
      have t0 := tkH_take l (m + 1)
      refine ⟨(tkH l).length + (m + 1), ?_, by omega, ?_⟩
      · unfold finX; simp only [hp, if_true]; rw [h1]; omega
      · unfold finX
        rw [t0.1, t0.2, fst_take, tail_take]
        simp only [hp, if_true]
        exact h3
  · by_cases hh : (Pc.has { rd with kind := 2, ahead := tkH l } && fst [112, 80] (dkH l)) = true
    · have hq := hh
      rw [Bool.and_eq_true] at hq
      have ht := tail_len hq.2
      rcases cl_E { rd with kind := 2, ahead := tkH l } wh (k + (tkH l).length + 1) (dkH l).tail with h | ⟨m, h1, h2, h3⟩
      · left; unfold finX; simp only [hp, hh, if_true, if_false, Bool.false_eq_true]; exact h
      · right
        have t0 := tkH_take l (m + 1)
        refine ⟨(tkH l).length + (m + 1), ?_, by omega, ?_⟩
        · unfold finX; simp only [hp, hh, if_true, if_false, Bool.false_eq_true]; rw [h1]; omega
        · unfold finX
          rw [t0.1, t0.2, fst_take, fst_take, tail_take]
          simp only [hp, hh, if_true, if_false, Bool.false_eq_true]
          exact h3
    · left; unfold finX; simp only [hp, hh, if_false, Bool.false_eq_true]
theorem cl_Digits (rd wh : Pc) (k : Nat) (l : B) : Cl (finDigits rd wh k) wh k l := by
  unfold Cl
  by_cases h46 : fst [46] l = true
  · have ht := tail_len h46
    rcases cl_Point rd wh (k + 1) l.tail with h | ⟨m, h1, h2, h3⟩
    · left; unfold finDigits; simp only [h46, if_true]; exact h
    · right
      refine ⟨m + 1, ?_, by omega, ?_⟩
      · unfold finDigits; simp only [h46, if_true]; rw [h1]; omega
      · unfold finDigits
        rw [fst_take, fst_take, fst_take, fst_take, tail_take]
        simp only [h46, if_true]
        exact h3
  · by_cases he : fst [101, 69] l = true
    · have ht := tail_len he
      rcases cl_E rd wh (k + 1) l.tail with h | ⟨m, h1, h2, h3⟩
      · left; unfold finDigits; simp only [h46, he, if_true, if_false, Bool.false_eq_true]; exact h
      · right
        refine ⟨m + 1, ?_, by omega, ?_⟩
        · unfold finDigits; simp only [h46, he, if_true, if_false, Bool.false_eq_true]; rw [h1]; omega
        · unfold finDigits
          rw [fst_take, fst_take, fst_take, fst_take, tail_take]
          simp only [h46, he, if_true, if_false, Bool.false_eq_true]
          exact h3
    · by_cases hs : fst [47] l = true
      · have ht := tail_len hs
        rcases cl_Slash rd wh (k + 1) l.tail with h | ⟨m, h1, h2, h3⟩
        · left; unfold finDigits; simp only [h46, he, hs, if_true, if_false, Bool.false_eq_true]; exact h
        · right
          refine ⟨m + 1, ?_, by omega, ?_⟩
          · unfold finDigits; simp only [h46, he, hs, if_true, if_false, Bool.false_eq_true]; rw [h1]; omega
          · unfold finDigits
            rw [fst_take, fst_take, fst_take, fst_take, tail_take]
            simp only [h46, he, hs, if_true, if_false, Bool.false_eq_true]
            exact h3
      · by_cases hx : (decide (rd.ahead = [48]) && fst [120, 88] l) = true
        · have hq := hx
          rw [Bool.and_eq_true] at hq
          have ht := tail_len hq.2
          rcases cl_X rd wh (k + 1) l.tail with h | ⟨m, h1, h2, h3⟩
          · left; unfold finDigits; simp only [h46, he, hs, hx, if_true, if_false, Bool.false_eq_true]; exact h
          · right
            refine ⟨m + 1, ?_, by omega, ?_⟩
            · unfold finDigits; simp only [h46, he, hs, hx, if_true, if_false, Bool.false_eq_true]; rw [h1]; omega
            · unfold finDigits
              rw [fst_take, fst_take, fst_take, fst_take, tail_take]
              simp only [h46, he, hs, hx, if_true, if_false, Bool.false_eq_true]
              exact h3
        · left; unfold finDigits; simp only [h46, he, hs, hx, if_false, Bool.false_eq_true]
theorem digits_nil (rd wh : Pc) (k : Nat) : finDigits rd wh k [] = wh := by
  unfold finDigits
  simp [fst]
theorem cl_Sign (rd wh : Pc) (k : Nat) (l : B) : Cl (finSign rd wh k) wh k l := by
  unfold Cl
  have hl := tkD_le l
  by_cases hh : Pc.has { rd with kind := 1, ahead := tkD l } = true
  · right
    rcases cl_Digits { rd with kind := 1, ahead := tkD l, stop := k + (tkD l).length } { rd with kind := 1, ahead := tkD l, stop := k + (tkD l).length } (k + (tkD l).length) (dkD l) with h | ⟨m, h1, h2, h3⟩
    · have t0 := tkD_take l 0
      rw [Nat.add_zero, List.take_zero] at t0
      refine ⟨(tkD l).length, ?_, by omega, ?_⟩
      · unfold finSign; simp only [hh, if_true]; rw [h]
      · unfold finSign
        rw [t0.1, t0.2]
        simp only [hh, if_true]
        rw [h, digits_nil]
    · have t0 := tkD_take l m
      refine ⟨(tkD l).length + m, ?_, by omega, ?_⟩
      · unfold finSign; simp only [hh, if_true]; rw [h1]; omega
      · unfold finSign
        rw [t0.1, t0.2]
        simp only [hh, if_true]
        exact h3
  · by_cases hp : fst [46] (dkD l) = true
    · have ht := tail_len hp
      rcases cl_Point { rd with kind := 1, ahead := tkD l } wh (k + (tkD l).length + 1) (dkD l).tail with h | ⟨m, h1, h2, h3⟩
      · left; unfold finSign; simp only [hh, hp, if_true, if_false, Bool.false_eq_true]; exact h
      · right
        have t0 := tkD_take l (m + 1)
        refine ⟨(tkD l).length + (m + 1), ?_, by omega, ?_⟩
        · unfold finSign; simp only [hh, hp, if_true, if_false, Bool.false_eq_true]; rw [h1]; omega
        · unfold finSign
          rw [t0.1, t0.2, fst_take, tail_take]
          simp only [hh, hp, if_true, if_false, Bool.false_eq_true]
          exact h3
    · left; unfold finSign; simp only [hh, hp, if_false, Bool.false_eq_true]
/-- the longest numeral, by itself, is itself -/
theorem longest_self {l : B} (hk : (longestL l).kind ≠ 0) : longestL (l.take (longestL l).stop) = longestL l := by
  have hz : ∀ p : Pc, p = Pc.zero → p.kind = 0 := fun p h => by rw [h]; rfl
  by_cases h45 : fst [45] l = true
  · have e : longestL l = finSign { Pc.zero with neg := true } Pc.zero (0 + 1) l.tail := by unfold longestL finStart; rw [if_pos h45]
    rcases cl_Sign { Pc.zero with neg := true } Pc.zero (0 + 1) l.tail with h | ⟨m, h1, h2, h3⟩
    · exact absurd (hz _ (e.trans h)) hk
    · rw [e, h1, show 0 + 1 + m = m + 1 from by omega]
      unfold longestL finStart
      rw [fst_take, if_pos h45, tail_take]
      exact h3
  · by_cases h43 : fst [43] l = true
    · have e : longestL l = finSign { Pc.zero with neg := false } Pc.zero (0 + 1) l.tail := by unfold longestL finStart; rw [if_neg h45, if_pos h43]
      rcases cl_Sign { Pc.zero with neg := false } Pc.zero (0 + 1) l.tail with h | ⟨m, h1, h2, h3⟩
      · exact absurd (hz _ (e.trans h)) hk
      · rw [e, h1, show 0 + 1 + m = m + 1 from by omega]
        unfold longestL finStart
        rw [fst_take, fst_take, if_neg h45, if_pos h43, tail_take]
        exact h3
    · have e : longestL l = finSign { Pc.zero with neg := false } Pc.zero 0 l := by unfold longestL finStart; rw [if_neg h45, if_neg h43]
      rcases cl_Sign { Pc.zero with neg := false } Pc.zero 0 l with h | ⟨m, h1, h2, h3⟩
      · exact absurd (hz _ (e.trans h)) hk
      · rw [e, h1, Nat.zero_add]
        cases m with
        | zero =>
          have hp := longest_pos l hk
          rw [e, h1] at hp
          omega
        | succ m =>
          unfold longestL finStart
          rw [fst_take, fst_take, if_neg h45, if_neg h43]
          exact h3
end Tk
end Go.Proofs.YtfgpjplfplbcdaaGreatDoor

/- Layer 18: what a token is at its places, by numbers alone. -/
namespace Go.Proofs.YtfgpjplfplbcdaaGreatDoor
set_option linter.unusedVariables false
open Lx
namespace Tk
theorem bytes18 {p : UInt8 → Bool} (h : (List.range 256).all (fun n => p (UInt8.ofNat n)) = true) (b : UInt8) : p b = true := by
  have := List.all_eq_true.mp h b.toNat (List.mem_range.mpr (UInt8.toNat_lt b))
  rw [UInt8.ofNat_toNat] at this
  exact this
/-- a token of the rest r, its places from the rest's beginning on -/
structure TkF (r : B) (c : Ct) : Prop where
  up : c.fr < c.to
  le : c.to ≤ r.length
  bl : (r.take c.fr).all isBl = true
  kinds : (c.kind = 1 ∧ c.num = nmZ0 ∧ c.word = ((r.drop c.fr).take (c.to - c.fr)).map upB ∧ ((r.drop c.fr).take (c.to - c.fr)).all isLt = true ∧ shutB (r.drop c.to) = true) ∨
    (c.kind = 2 ∧ c.num = nmZ0 ∧ c.word = [] ∧ (r.drop c.fr).take (c.to - c.fr) = [40]) ∨
    (c.kind = 3 ∧ c.num = nmZ0 ∧ c.word = [] ∧ (r.drop c.fr).take (c.to - c.fr) = [41]) ∨
    (c.kind = 4 ∧ c.num = nmZ0 ∧ c.word = [] ∧ (r.drop c.fr).take (c.to - c.fr) = [44]) ∨
    (c.kind = 5 ∧ c.word = [] ∧ (longestL ((r.drop c.fr).take (c.to - c.fr))).kind ≠ 0 ∧ (longestL ((r.drop c.fr).take (c.to - c.fr))).stop = c.to - c.fr ∧ c.to - c.fr ≤ 65536 ∧ c.num = numOf (longestL ((r.drop c.fr).take (c.to - c.fr))) ∧ shutB (r.drop c.to) = true)
theorem tokB_k {x : UInt8} {q : B} (hp : 0 < (tokB x q).kind) : TkF (x :: q) (tokB x q) := by
  have hf := (tokB_f x q).1
  have up := hf.up hp
  have le := hf.to
  unfold tokB at *
  split
  · rename_i hL
    rw [if_pos hL] at hp up le
    unfold shutC at *
    split
    · rename_i hs
      refine ⟨by rw [if_pos hs] at up; exact up, by rw [if_pos hs] at le; exact le, rfl, Or.inl ⟨rfl, rfl, ?_, ?_, hs⟩⟩
      · show ((x :: q).takeWhile isLt).map upB = (((x :: q).drop 0).take (((x :: q).takeWhile isLt).length - 0)).map upB
        rw [List.drop_zero, Nat.sub_zero, take_tk]
      · show (((x :: q).drop 0).take (((x :: q).takeWhile isLt).length - 0)).all isLt = true
        rw [List.drop_zero, Nat.sub_zero, take_tk]
        exact all_tk isLt _
    · rename_i hs
      rw [if_neg hs] at hp
      exact absurd hp (by show ¬ (0 : Int) < -1; omega)
  · rename_i hL
    rw [if_neg hL] at hp up le
    split
    · rename_i h
      rw [if_pos h] at up le
      exact ⟨up, le, rfl, Or.inr (Or.inl ⟨rfl, rfl, rfl, by rw [h]; rfl⟩)⟩
    · rename_i h40
      rw [if_neg h40] at hp up le
      split
      · rename_i h
        rw [if_pos h] at up le
        exact ⟨up, le, rfl, Or.inr (Or.inr (Or.inl ⟨rfl, rfl, rfl, by rw [h]; rfl⟩))⟩
      · rename_i h41
        rw [if_neg h41] at hp up le
        split
        · rename_i h
          rw [if_pos h] at up le
          exact ⟨up, le, rfl, Or.inr (Or.inr (Or.inr (Or.inl ⟨rfl, rfl, rfl, by rw [h]; rfl⟩)))⟩
        · rename_i h44
          rw [if_neg h44] at hp up le
          simp only at hp up le ⊢
          split
          · rename_i hz
            rw [if_pos hz] at hp
            exact absurd hp (by show ¬ (0 : Int) < -1; omega)
          · rename_i hz
            rw [if_neg hz] at hp up le
            unfold shutC at *
            split
            · rename_i hs
              have hst := longest_le ((x :: q).take 65536)
              have hst2 : (longestL ((x :: q).take 65536)).stop ≤ 65536 := by rw [List.length_take] at hst; omega
              have hself := longest_self hz
              have e : ((x :: q).take 65536).take (longestL ((x :: q).take 65536)).stop = (x :: q).take (longestL ((x :: q).take 65536)).stop := by rw [List.take_take, Nat.min_eq_left hst2]
              rw [e] at hself
              have e2 : ((x :: q).drop 0).take ((longestL ((x :: q).take 65536)).stop - 0) = (x :: q).take (longestL ((x :: q).take 65536)).stop := by rw [List.drop_zero, Nat.sub_zero]
              refine ⟨by rw [if_pos hs] at up; exact up, by rw [if_pos hs] at le; exact le, rfl, Or.inr (Or.inr (Or.inr (Or.inr ⟨rfl, rfl, ?_, ?_, ?_, ?_, hs⟩)))⟩
              · show (longestL (((x :: q).drop 0).take ((longestL ((x :: q).take 65536)).stop - 0))).kind ≠ 0
                rw [e2, hself]; exact hz
              · show (longestL (((x :: q).drop 0).take ((longestL ((x :: q).take 65536)).stop - 0))).stop = (longestL ((x :: q).take 65536)).stop - 0
                rw [e2, hself, Nat.sub_zero]
              · show (longestL ((x :: q).take 65536)).stop - 0 ≤ 65536
                omega
              · show numOf (longestL ((x :: q).take 65536)) = numOf (longestL (((x :: q).drop 0).take ((longestL ((x :: q).take 65536)).stop - 0)))
                rw [e2, hself]
            · rename_i hs
              rw [if_neg hs] at hp
              exact absurd hp (by show ¬ (0 : Int) < -1; omega)
theorem cut_k {r : B} (hp : 0 < (cutR r).kind) : TkF r (cutR r) := by
  obtain ⟨y, q, h1, h2⟩ := cutR_nonil (r := r) (by omega)
  rw [h2] at hp ⊢
  have f := tokB_k (x := y) (q := q) hp
  have hl := dk_len isBl r
  have hd : r.drop (r.takeWhile isBl).length = y :: q := by rw [drop_dk, h1]
  rw [h1] at hl
  generalize tokB y q = c at *
  have e1 : r.drop (c.move (r.takeWhile isBl).length).fr = (y :: q).drop c.fr := by
    show r.drop ((r.takeWhile isBl).length + c.fr) = _
    rw [← hd, List.drop_drop]
  have e2 : r.drop (c.move (r.takeWhile isBl).length).to = (y :: q).drop c.to := by
    show r.drop ((r.takeWhile isBl).length + c.to) = _
    rw [← hd, List.drop_drop]
  have e3 : (c.move (r.takeWhile isBl).length).to - (c.move (r.takeWhile isBl).length).fr = c.to - c.fr := by
    show (r.takeWhile isBl).length + c.to - ((r.takeWhile isBl).length + c.fr) = _
    omega
  refine ⟨by show _ + c.fr < _ + c.to; have := f.up; omega, by show _ + c.to ≤ _; have := f.le; omega, ?_, ?_⟩
  · show (r.take ((r.takeWhile isBl).length + c.fr)).all isBl = true
    have h := tk_take isBl r c.fr
    rw [h.1, h1, List.all_append, all_tk]
    exact f.bl
  · rw [e1, e2, e3]
    exact f.kinds
end Tk
end Go.Proofs.YtfgpjplfplbcdaaGreatDoor

/- Layer 18: blanks laid between tokens, and letters turned, by numbers alone. -/
namespace Go.Proofs.YtfgpjplfplbcdaaGreatDoor
set_option linter.unusedVariables false
set_option linter.unusedSimpArgs false
open Lx
namespace Tk
theorem tokB_fr {x : UInt8} {q : B} (hp : 0 < (tokB x q).kind) : (tokB x q).fr = 0 := by
  have f := (tokB_k hp).bl
  have sh : ∀ t : Ct, t.fr = 0 → 0 < (shutC (x :: q) t).kind → (shutC (x :: q) t).fr = 0 := by
    intro t ht h
    unfold shutC at *
    split
    · exact ht
    · rename_i hs
      rw [if_neg hs] at h
      exact absurd h (by show ¬ (0 : Int) < -1; omega)
  clear f
  unfold tokB at *
  split
  · rename_i h; rw [if_pos h] at hp; exact sh _ rfl hp
  · rename_i h; rw [if_neg h] at hp
    split
    · rfl
    · rename_i h; rw [if_neg h] at hp
      split
      · rfl
      · rename_i h; rw [if_neg h] at hp
        split
        · rfl
        · rename_i h; rw [if_neg h] at hp
          simp only at hp ⊢
          split
          · rfl
          · rename_i h; rw [if_neg h] at hp; exact sh _ rfl hp
/-- a token by itself: what is not its place -/
def Ct.bare (c : Ct) : Int × B × Nm := (c.kind, c.word, c.num)
/-- the piece of a text that a token is -/
def pieceR (r : B) (c : Ct) : B := (r.drop c.fr).take (c.to - c.fr)
theorem cut_head {y : UInt8} {q : B} (hb : isBl y = false) : cutR (y :: q) = tokB y q := by
  unfold cutR
  rw [List.dropWhile_cons, hb]
  simp only [Bool.false_eq_true, if_false]
  rw [List.takeWhile_cons, hb]
  unfold Ct.move
  simp
theorem cut_one {y : UInt8} {q : B} (hb : isBl y = false) : (cutR (y :: q)).kind ≠ 0 := by rw [cut_head hb]; exact (tokB_f y q).2
/-- two rests that may stand behind a word or number make no odds -/
theorem cut_shut {y : UInt8} {q : B} (hb : isBl y = false) {X : B} (h1 : shutB X = true) : cutR ((y :: q) ++ X) = cutR (y :: q) := by
  cases X with
  | nil => rw [List.append_nil]
  | cons c b => exact cut_more (c := c) h1 b (cut_one hb)
/-- what a token is stands for itself, whatever that may stand there stands behind it -/
theorem piece_cut {r : B} (hp : 0 < (cutR r).kind) {X : B} (hX : (cutR r).kind = 1 ∨ (cutR r).kind = 5 → shutB X = true) :
    cutR (pieceR r (cutR r) ++ X) = ⟨(cutR r).kind, 0, (cutR r).to - (cutR r).fr, (cutR r).word, (cutR r).num⟩ := by
  have hk := cut_k hp
  have one : ∀ (c : UInt8) (k : Int), (∀ q, cutR (c :: q) = ⟨k, 0, 1, [], nmZ0⟩) → (cutR r).kind = k → (cutR r).num = nmZ0 → (cutR r).word = [] → ((r.drop (cutR r).fr).take ((cutR r).to - (cutR r).fr)) = [c] → cutR (pieceR r (cutR r) ++ X) = ⟨(cutR r).kind, 0, (cutR r).to - (cutR r).fr, (cutR r).word, (cutR r).num⟩ := by
    intro c k hc a1 a2 a3 a4
    have e : (cutR r).to - (cutR r).fr = 1 := by
      have h1 := congrArg List.length a4
      rw [List.length_take, List.length_drop] at h1
      have h2 := hk.le
      have h3 := hk.up
      simp only [List.length_cons, List.length_nil] at h1
      omega
    have e2 : pieceR r (cutR r) = [c] := a4
    rw [e2, a1, a2, a3, e]
    exact hc X
  have gap : shutB (r.drop (cutR r).to) = true → shutB X = true → cutR (pieceR r (cutR r) ++ X) = ⟨(cutR r).kind, 0, (cutR r).to - (cutR r).fr, (cutR r).word, (cutR r).num⟩ := by
    intro hs hX
    clear one
    obtain ⟨y, q, h1, h2⟩ := cutR_nonil (r := r) (by omega)
    have hb := dk_head h1
    have hd : r.drop (r.takeWhile isBl).length = y :: q := by rw [drop_dk, h1]
    have hp' : 0 < (tokB y q).kind := by rw [h2] at hp; exact hp
    have hf := tokB_fr hp'
    have hk' := tokB_k hp'
    have hpi : pieceR r (cutR r) = (y :: q).take (tokB y q).to := by
      unfold pieceR
      rw [h2]
      show (r.drop ((r.takeWhile isBl).length + (tokB y q).fr)).take ((r.takeWhile isBl).length + (tokB y q).to - ((r.takeWhile isBl).length + (tokB y q).fr)) = _
      rw [hf, Nat.add_zero, hd, Nat.add_sub_cancel_left]
    have hZ : r.drop (cutR r).to = (y :: q).drop (tokB y q).to := by
      rw [h2]
      show r.drop ((r.takeWhile isBl).length + (tokB y q).to) = _
      rw [← hd, List.drop_drop]
    obtain ⟨m, hm⟩ : ∃ m, (tokB y q).to = m + 1 := ⟨(tokB y q).to - 1, by have := hk'.up; omega⟩
    have hpc : (y :: q).take (tokB y q).to = y :: q.take m := by rw [hm]; rfl
    rw [hZ] at hs
    have e1 : cutR (y :: q.take m) = tokB y q := by
      rw [← cut_shut hb hs, ← hpc, List.take_append_drop, cut_head hb]
    rw [hpi, hpc, cut_shut hb hX, e1, h2]
    have e3 : (tokB y q).to = ((tokB y q).move (r.takeWhile isBl).length).to - ((tokB y q).move (r.takeWhile isBl).length).fr := by
      show _ = (r.takeWhile isBl).length + (tokB y q).to - ((r.takeWhile isBl).length + (tokB y q).fr)
      omega
    rw [← e3]
    show tokB y q = ⟨(tokB y q).kind, 0, (tokB y q).to, (tokB y q).word, (tokB y q).num⟩
    rw [← hf]
  rcases hk.kinds with h | h | h | h | h
  · exact gap h.2.2.2.2 (hX (Or.inl h.1))
  · exact one 40 2 (fun q => rfl) h.1 h.2.1 h.2.2.1 h.2.2.2
  · exact one 41 3 (fun q => rfl) h.1 h.2.1 h.2.2.1 h.2.2.2
  · exact one 44 4 (fun q => rfl) h.1 h.2.1 h.2.2.1 h.2.2.2
  · exact gap h.2.2.2.2.2.2 (hX (Or.inr h.1))
/-- a rest is blanks, a token's piece, and what is behind -/
theorem rest_parts {r : B} (hp : 0 < (cutR r).kind) : r = r.take (cutR r).fr ++ (pieceR r (cutR r) ++ r.drop (cutR r).to) ∧ (pieceR r (cutR r)).length = (cutR r).to - (cutR r).fr := by
  have hk := cut_k hp
  have h1 := hk.up
  have h2 := hk.le
  constructor
  · have e : r.drop (cutR r).to = (r.drop (cutR r).fr).drop ((cutR r).to - (cutR r).fr) := by rw [List.drop_drop]; congr 1; omega
    rw [e]
    unfold pieceR
    rw [List.take_append_drop, List.take_append_drop]
  · unfold pieceR
    rw [List.length_take, List.length_drop]
    omega
/-- the text with blanks laid ahead of each token -/
def putL : Nat → B → List Ct → List B → B
  | k, r, c :: l, b :: bs => r.take (c.fr - k) ++ (b ++ ((r.drop (c.fr - k)).take (c.to - c.fr) ++ putL c.to (r.drop (c.to - k)) l bs))
  | _, r, _, _ => r ++ [13, 32]
theorem shut_app {a b : B} (ha : shutB a = true) (hn : a ≠ []) : shutB (a ++ b) = true := by
  cases a with
  | nil => exact absurd rfl hn
  | cons x a => exact ha
theorem shut_bl {a : B} (ha : a.all isBl = true) (hn : a ≠ []) : shutB a = true := by
  cases a with
  | nil => exact absurd rfl hn
  | cons x a =>
    rw [List.all_cons, Bool.and_eq_true] at ha
    show (isBl x || x == 44 || x == 40 || x == 41) = true
    rw [ha.1]; rfl
theorem shut_pre {a b c : B} (h : shutB (a ++ b) = true) (hn : a ≠ []) : shutB (a ++ c) = true := by
  cases a with
  | nil => exact absurd rfl hn
  | cons x a => exact h
theorem move_sub (k : Nat) (c : Ct) : (c.move k).fr - k = c.fr ∧ (c.move k).to - k = c.to ∧ (c.move k).to - (c.move k).fr = c.to - c.fr := by
  unfold Ct.move
  refine ⟨?_, ?_, ?_⟩ <;> simp only <;> omega
/-- blanks laid ahead of tokens change nothing but places -/
theorem Toks.put {k : Nat} {r : B} {l : List Ct} {e : Option Nat} (h : Toks k r l e) : e = none → ∀ (bs : List B), bs.length = l.length → (∀ b ∈ bs, b.all isBl = true) → (shutB r = true → shutB (putL k r l bs) = true) ∧ ∀ j, ∃ m, Toks j (putL k r l bs) m none ∧ m.map Ct.bare = l.map Ct.bare := by
  induction h with
  | @nil k r h =>
    intro _ bs hl hb
    have hall := cut_nil_all h
    have e : putL k r [] bs = r ++ [13, 32] := by unfold putL; cases bs <;> rfl
    rw [e]
    refine ⟨fun hs => ?_, fun j => ⟨[], ?_, rfl⟩⟩
    · cases r with
      | nil => rfl
      | cons x r => exact hs
    · have : (r ++ [13, 32]).all isBl = true := by rw [List.all_append, hall]; rfl
      have h2 : Toks j (r ++ [13, 32] ++ []) [] none := Toks.bl this (.nil rfl)
      rwa [List.append_nil] at h2
  | bad h => intro he; cases he
  | @cons k r l e hp h1 ih =>
    intro he bs hl hb
    cases bs with
    | nil => simp at hl
    | cons b bs =>
      obtain ⟨s1, s2⟩ := ih he bs (by simpa using hl) (fun x hx => hb x (List.mem_cons_of_mem _ hx))
      have hk := cut_k hp
      have hbb := hb b (List.mem_cons_self ..)
      obtain ⟨m1, m2, m3⟩ := move_sub k (cutR r)
      obtain ⟨p1, p2⟩ := rest_parts hp
      have e1 : putL k r ((cutR r).move k :: l) (b :: bs) = r.take (cutR r).fr ++ (b ++ (pieceR r (cutR r) ++ putL (k + (cutR r).to) (r.drop (cutR r).to) l bs)) := by
        show r.take (((cutR r).move k).fr - k) ++ (b ++ ((r.drop (((cutR r).move k).fr - k)).take (((cutR r).move k).to - ((cutR r).move k).fr) ++ putL ((cutR r).move k).to (r.drop (((cutR r).move k).to - k)) l bs)) = _
        rw [m1, m2, m3]
        rfl
      rw [e1]
      have hne : pieceR r (cutR r) ≠ [] := fun q => by rw [q] at p2; have := hk.up; simp at p2; omega
      refine ⟨fun hs => ?_, fun j => ?_⟩
      · by_cases ha : r.take (cutR r).fr = []
        · rw [ha, List.nil_append]
          by_cases hb0 : b = []
          · rw [hb0, List.nil_append]
            rw [p1, ha, List.nil_append] at hs
            exact shut_pre hs hne
          · exact shut_app (shut_bl hbb hb0) hb0
        · exact shut_app (shut_bl hk.bl ha) ha
      · have hX : (cutR r).kind = 1 ∨ (cutR r).kind = 5 → shutB (putL (k + (cutR r).to) (r.drop (cutR r).to) l bs) = true := by
          intro hg
          apply s1
          rcases hk.kinds with h | h | h | h | h
          · exact h.2.2.2.2
          · omega
          · omega
          · omega
          · exact h.2.2.2.2.2.2
        have pc := piece_cut hp hX
        obtain ⟨m, t1, t2⟩ := s2 (j + (r.take (cutR r).fr).length + b.length + ((cutR r).to - (cutR r).fr))
        refine ⟨_, Toks.bl hk.bl (Toks.bl hbb (.cons (by rw [pc]; exact hp) (l := m) ?_)), ?_⟩
        · rw [pc]
          show Toks _ ((pieceR r (cutR r) ++ _).drop ((cutR r).to - (cutR r).fr)) m none
          rw [← p2, List.drop_left, p2]
          exact t1
        · rw [List.map_cons, List.map_cons, t2, pc]
          rfl
end Tk
end Go.Proofs.YtfgpjplfplbcdaaGreatDoor


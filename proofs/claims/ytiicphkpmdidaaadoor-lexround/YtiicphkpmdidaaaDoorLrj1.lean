import Derived.KernelRfl
/- Numerals as they are written: what the longest one at the beginning of a text is, by states and by kinds. -/
namespace Go.Proofs.YtiicphkpmdidaaaDoor
set_option linter.unusedVariables false
namespace Lx
def isD (b : UInt8) : Bool := decide (48 ≤ b.toNat) && decide (b.toNat ≤ 57)
def isH (b : UInt8) : Bool := isD b || (decide (97 ≤ b.toNat) && decide (b.toNat ≤ 102)) || (decide (65 ≤ b.toNat) && decide (b.toNat ≤ 70))
abbrev B := List UInt8
/-- the pieces of a numeral, as they are written -/
structure Pc where
  kind : Int
  neg : Bool
  ahead : B
  behind : B
  expo : B
  den : B
  stop : Nat
def Pc.zero : Pc := ⟨0, false, [], [], [], [], 0⟩
def tkD (l : B) : B := l.takeWhile isD
def dkD (l : B) : B := l.dropWhile isD
def tkH (l : B) : B := l.takeWhile isH
def dkH (l : B) : B := l.dropWhile isH
def Pc.has (p : Pc) : Bool := !p.ahead.isEmpty || !p.behind.isEmpty
/-- is the first byte one of these? -/
def fst (cs : B) (l : B) : Bool := match l with | c :: _ => cs.contains c | [] => false
/-- the exponent as written, behind the letter -/
def expoL (l : B) : B := if fst [43, 45] l then (if tkD l.tail = [] then [] else l.take 1 ++ tkD l.tail) else tkD l
/-- the states of the reader -/
inductive St where
  | start | sign | digits | point | e | slash | x | hexPoint | stop
deriving DecidableEq
def St.rank : St → Nat
  | .start => 8 | .sign => 7 | .digits => 6 | .x => 5 | .point => 4 | .hexPoint => 3 | .slash => 2 | .e => 1 | .stop => 0
/-- what is read in the end, from a state on: what was read, what is kept, the place, the rest of the text -/
def finE (rd wh : Pc) (k : Nat) (l : B) : Pc := if expoL l = [] then wh else { rd with expo := expoL l, stop := k + (expoL l).length }
def finSlash (rd wh : Pc) (k : Nat) (l : B) : Pc := if tkD l = [] then wh else { rd with kind := 3, den := tkD l, stop := k + (tkD l).length }
def finPoint (rd wh : Pc) (k : Nat) (l : B) : Pc :=
  let r1 : Pc := { rd with behind := tkD l }
  if r1.has = false then wh else
  let r2 : Pc := { r1 with stop := k + (tkD l).length }
  if fst [101, 69] (dkD l) then finE r2 r2 (k + (tkD l).length + 1) (dkD l).tail else r2
def finHexPoint (rd wh : Pc) (k : Nat) (l : B) : Pc :=
  let r1 : Pc := { rd with behind := tkH l }
  if (r1.has && fst [112, 80] (dkH l)) = true then finE r1 wh (k + (tkH l).length + 1) (dkH l).tail else wh
def finX (rd wh : Pc) (k : Nat) (l : B) : Pc :=
  let r1 : Pc := { rd with kind := 2, ahead := tkH l }
  if fst [46] (dkH l) then finHexPoint r1 wh (k + (tkH l).length + 1) (dkH l).tail
  else if (r1.has && fst [112, 80] (dkH l)) = true then finE r1 wh (k + (tkH l).length + 1) (dkH l).tail else wh
def finDigits (rd wh : Pc) (k : Nat) (l : B) : Pc :=
  if fst [46] l then finPoint rd wh (k + 1) l.tail
  else if fst [101, 69] l then finE rd wh (k + 1) l.tail
  else if fst [47] l then finSlash rd wh (k + 1) l.tail
  else if (decide (rd.ahead = [48]) && fst [120, 88] l) = true then finX rd wh (k + 1) l.tail
  else wh
def finSign (rd wh : Pc) (k : Nat) (l : B) : Pc :=
  let r1 : Pc := { rd with kind := 1, ahead := tkD l }
  if r1.has then
    let r2 : Pc := { r1 with stop := k + (tkD l).length }
    finDigits r2 r2 (k + (tkD l).length) (dkD l)
  else if fst [46] (dkD l) then finPoint r1 wh (k + (tkD l).length + 1) (dkD l).tail
  else wh
def finStart (rd wh : Pc) (k : Nat) (l : B) : Pc :=
  if fst [45] l then finSign { rd with neg := true } wh (k + 1) l.tail
  else if fst [43] l then finSign { rd with neg := false } wh (k + 1) l.tail
  else finSign { rd with neg := false } wh k l
def fin : St → Pc → Pc → Nat → B → Pc
  | .start => finStart | .sign => finSign | .digits => finDigits | .x => finX | .point => finPoint | .hexPoint => finHexPoint
  | .slash => finSlash | .e => finE | .stop => fun _ wh _ _ => wh
def longestL (l : B) : Pc := finStart Pc.zero Pc.zero 0 l
theorem fst_cons (cs : B) (c : UInt8) (l : B) : fst cs (c :: l) = cs.contains c := rfl
theorem dk_head {t : UInt8 → Bool} {l : B} {c : UInt8} {r : B} (h : l.dropWhile t = c :: r) : t c = false := by
  induction l with
  | nil => simp at h
  | cons b q ih =>
    rw [List.dropWhile_cons] at h
    by_cases hb : t b
    · rw [if_pos hb] at h; exact ih h
    · rw [if_neg hb] at h
      have := (List.cons.inj h).1
      rw [← this]; simpa using hb
theorem tk_dk (t : UInt8 → Bool) (l : B) : l.takeWhile t ++ l.dropWhile t = l := List.takeWhile_append_dropWhile
theorem dk_len (t : UInt8 → Bool) (l : B) : (l.takeWhile t).length + (l.dropWhile t).length = l.length := by
  have := congrArg List.length (tk_dk t l)
  rwa [List.length_append] at this
theorem drop_dk (t : UInt8 → Bool) (l : B) : l.drop (l.takeWhile t).length = l.dropWhile t := by
  have := List.drop_left (l₁ := l.takeWhile t) (l₂ := l.dropWhile t)
  rwa [tk_dk] at this
theorem take_tk (t : UInt8 → Bool) (l : B) : l.take (l.takeWhile t).length = l.takeWhile t := by
  have := List.take_left (l₁ := l.takeWhile t) (l₂ := l.dropWhile t)
  rwa [tk_dk] at this
theorem fst_true {cs l : B} (h : fst cs l = true) : ∃ c r, l = c :: r ∧ cs.contains c = true := by
  cases l with
  | nil => simp [fst] at h
  | cons c r => exact ⟨c, r, rfl, h⟩
/-- two disjoint sets cannot both hold the first byte -/
theorem fst_not {cs ds l : B} (h : fst cs l = true) (hd : ∀ c, cs.contains c = true → ds.contains c = false) : fst ds l = false := by
  obtain ⟨c, r, rfl, hc⟩ := fst_true h
  exact hd c hc
theorem isEmpty_iff {l : B} : l.isEmpty = true ↔ l = [] := by cases l <;> simp
theorem has_false {p : Pc} : p.has = false ↔ p.ahead = [] ∧ p.behind = [] := by
  unfold Pc.has
  cases p.ahead <;> cases p.behind <;> simp
theorem has_true {p : Pc} : p.has = true ↔ ¬ (p.ahead = [] ∧ p.behind = []) := by
  rw [← has_false]; cases p.has <;> simp
theorem dis (cs ds : B) (h : cs.all (fun c => !ds.contains c) = true) : ∀ c, cs.contains c = true → ds.contains c = false := by
  intro c hc
  have := List.all_eq_true.mp h c (by simpa using hc)
  simpa using this
end Lx
end Go.Proofs.YtiicphkpmdidaaaDoor

/- What the pieces of a numeral say. -/
namespace Go.Proofs.YtiicphkpmdidaaaDoor
set_option linter.unusedVariables false
namespace Lx
/-- a numeral as it is kept -/
structure Nm where
  kind : Int
  neg : Bool
  num : B
  exp : Int
  den : B
/-- a small letter for a capital -/
def lowB (b : UInt8) : UInt8 := if 65 ≤ b.toNat ∧ b.toNat ≤ 90 then UInt8.ofNat (b.toNat + 32) else b
def lowF (b : UInt8) : UInt8 := if 65 ≤ b.toNat ∧ b.toNat ≤ 70 then UInt8.ofNat (b.toNat + 32) else b
def strip (l : B) : B := (l.dropWhile (fun b => [48].contains b)).map lowB
def bareR (l : B) : B := (l.dropWhile (fun b => [48].contains b)).map lowF
def stepP (n : Int) (d : UInt8) : Int := if n < 2147483648 then 10 * n + ((d.toNat : Int) - 48) else n
def stepR (n : Int) (d : UInt8) : Int := if 4294967296 < n * 10 + ((d.toNat : Int) - 48) then 4294967296 else n * 10 + ((d.toNat : Int) - 48)
/-- the digits of an exponent -/
def expD (l : B) : B := l.dropWhile (fun b => [43, 45].contains b)
def expoN (l : B) : Int := if fst [45] l then - (expD l).foldl stepP 0 else (expD l).foldl stepP 0
def heldI (e : Int) : Int := if (if e < 1073741824 then e else 1073741824) < -1073741824 then -1073741824 else (if e < 1073741824 then e else 1073741824)
def numOf (p : Pc) : Nm := ⟨p.kind, p.neg, strip (p.ahead ++ p.behind),
  if p.kind = 1 then heldI (expoN p.expo - p.behind.length) else if p.kind = 2 then heldI (expoN p.expo - 4 * p.behind.length) else 0, strip p.den⟩
/-- an exponent as written: none, or digits behind at most one sign -/
def ExpoOk (l : B) : Prop := l = [] ∨ ∃ sg ds, l = sg ++ ds ∧ (sg = [] ∨ sg = [43] ∨ sg = [45]) ∧ ds ≠ [] ∧ ds.all isD = true
structure Ok (n : Nat) (p : Pc) : Prop where
  ahead : p.ahead.all isH = true
  behind : p.behind.all isH = true
  expo : ExpoOk p.expo
  den : p.den.all isD = true
  la : p.ahead.length ≤ n
  lb : p.behind.length ≤ n
  le : p.expo.length ≤ n
  ld : p.den.length ≤ n
  st : p.stop ≤ n
  kd : p.kind = 0 ∨ p.kind = 1 ∨ p.kind = 2 ∨ p.kind = 3
theorem all_tk (t : UInt8 → Bool) (l : B) : (l.takeWhile t).all t = true := by
  induction l with
  | nil => rfl
  | cons b r ih =>
    rw [List.takeWhile_cons]
    by_cases h : t b
    · rw [if_pos h, List.all_cons, h, ih]; rfl
    · rw [if_neg h]; rfl
theorem isH_of {b : UInt8} (h : isD b = true) : isH b = true := by unfold isH; rw [h]; rfl
theorem all_mono {s t : UInt8 → Bool} (h : ∀ b, s b = true → t b = true) {l : B} (hl : l.all s = true) : l.all t = true :=
  List.all_eq_true.mpr fun b hb => h b (List.all_eq_true.mp hl b hb)
theorem allD_tk (l : B) : (tkD l).all isD = true := all_tk isD l
theorem allH_tkD (l : B) : (tkD l).all isH = true := all_mono (fun _ => isH_of) (allD_tk l)
theorem allH_tk (l : B) : (tkH l).all isH = true := all_tk isH l
theorem tkD_le (l : B) : (tkD l).length + (dkD l).length = l.length := dk_len isD l
theorem tkH_le (l : B) : (tkH l).length + (dkH l).length = l.length := dk_len isH l
theorem tail_len {cs l : B} (h : fst cs l = true) : l.tail.length + 1 = l.length := by
  obtain ⟨c, r, rfl, _⟩ := fst_true h; rfl
theorem expo_ok (l : B) : ExpoOk (expoL l) := by
  unfold expoL
  split
  · rename_i h
    split
    · exact Or.inl rfl
    · rename_i hn
      obtain ⟨c, r, rfl, hc⟩ := fst_true h
      refine Or.inr ⟨[c], tkD r, rfl, ?_, hn, allD_tk r⟩
      have : c = 43 ∨ c = 45 := by simpa using hc
      rcases this with rfl | rfl
      · exact Or.inr (Or.inl rfl)
      · exact Or.inr (Or.inr rfl)
  · by_cases hn : tkD l = []
    · exact Or.inl hn
    · exact Or.inr ⟨[], tkD l, rfl, Or.inl rfl, hn, allD_tk l⟩
theorem expo_le (l : B) : (expoL l).length ≤ l.length := by
  unfold expoL
  split
  · rename_i h
    split
    · simp
    · have h1 := tail_len h
      have h2 := tkD_le l.tail
      rw [List.length_append, List.length_take]; omega
  · have := tkD_le l; omega
theorem Ok.zero (n : Nat) : Ok n Pc.zero := ⟨rfl, rfl, Or.inl rfl, rfl, Nat.zero_le _, Nat.zero_le _, Nat.zero_le _, Nat.zero_le _, Nat.zero_le _, Or.inl rfl⟩
theorem ok_finE {n : Nat} {rd wh : Pc} {k : Nat} {l : B} (h1 : Ok n rd) (h2 : Ok n wh) (hk : k + l.length ≤ n) : Ok n (finE rd wh k l) := by
  unfold finE
  split
  · exact h2
  · have := expo_le l
    exact ⟨h1.ahead, h1.behind, expo_ok l, h1.den, h1.la, h1.lb, by show (expoL l).length ≤ n; omega, h1.ld, by show k + (expoL l).length ≤ n; omega, h1.kd⟩
theorem ok_finSlash {n : Nat} {rd wh : Pc} {k : Nat} {l : B} (h1 : Ok n rd) (h2 : Ok n wh) (hk : k + l.length ≤ n) : Ok n (finSlash rd wh k l) := by
  unfold finSlash
  split
  · exact h2
  · have := tkD_le l
    exact ⟨h1.ahead, h1.behind, h1.expo, allD_tk l, h1.la, h1.lb, h1.le, by show (tkD l).length ≤ n; omega, by show k + (tkD l).length ≤ n; omega, Or.inr (Or.inr (Or.inr rfl))⟩
theorem Ok.setBehind {n : Nat} {rd : Pc} (h1 : Ok n rd) {b : B} (hb : b.all isH = true) (hl : b.length ≤ n) : Ok n { rd with behind := b } :=
  ⟨h1.ahead, hb, h1.expo, h1.den, h1.la, hl, h1.le, h1.ld, h1.st, h1.kd⟩
theorem Ok.setStop {n : Nat} {rd : Pc} (h1 : Ok n rd) {k : Nat} (hl : k ≤ n) : Ok n { rd with stop := k } :=
  ⟨h1.ahead, h1.behind, h1.expo, h1.den, h1.la, h1.lb, h1.le, h1.ld, hl, h1.kd⟩
theorem Ok.setAhead {n : Nat} {rd : Pc} (h1 : Ok n rd) {b : B} {k : Int} (hb : b.all isH = true) (hl : b.length ≤ n) (hk : k = 1 ∨ k = 2) : Ok n { rd with kind := k, ahead := b } :=
  ⟨hb, h1.behind, h1.expo, h1.den, hl, h1.lb, h1.le, h1.ld, h1.st, by rcases hk with rfl | rfl; exact Or.inr (Or.inl rfl); exact Or.inr (Or.inr (Or.inl rfl))⟩
theorem Ok.setNeg {n : Nat} {rd : Pc} (h1 : Ok n rd) (b : Bool) : Ok n { rd with neg := b } :=
  ⟨h1.ahead, h1.behind, h1.expo, h1.den, h1.la, h1.lb, h1.le, h1.ld, h1.st, h1.kd⟩
theorem ok_finPoint {n : Nat} {rd wh : Pc} {k : Nat} {l : B} (h1 : Ok n rd) (h2 : Ok n wh) (hk : k + l.length ≤ n) : Ok n (finPoint rd wh k l) := by
  have hl := tkD_le l
  have hb := (h1.setBehind (allH_tkD l) (by omega)).setStop (k := k + (tkD l).length) (by omega)
  unfold finPoint
  simp only
  split
  · exact h2
  · split
    · rename_i hf
      have := tail_len hf
      exact ok_finE hb hb (by omega)
    · exact hb
theorem ok_finHexPoint {n : Nat} {rd wh : Pc} {k : Nat} {l : B} (h1 : Ok n rd) (h2 : Ok n wh) (hk : k + l.length ≤ n) : Ok n (finHexPoint rd wh k l) := by
  have hl := tkH_le l
  have hb := (h1.setBehind (allH_tk l) (by omega))
  unfold finHexPoint
  simp only
  split
  · rename_i hf
    rw [Bool.and_eq_true] at hf
    have := tail_len hf.2
    exact ok_finE hb h2 (by omega)
  · exact h2
theorem ok_finX {n : Nat} {rd wh : Pc} {k : Nat} {l : B} (h1 : Ok n rd) (h2 : Ok n wh) (hk : k + l.length ≤ n) : Ok n (finX rd wh k l) := by
  have hl := tkH_le l
  have hb := (h1.setAhead (k := 2) (allH_tk l) (by omega) (Or.inr rfl))
  unfold finX
  simp only
  split
  · rename_i hf
    have := tail_len hf
    exact ok_finHexPoint hb h2 (by omega)
  · split
    · rename_i hf
      rw [Bool.and_eq_true] at hf
      have := tail_len hf.2
      exact ok_finE hb h2 (by omega)
    · exact h2
theorem ok_finDigits {n : Nat} {rd wh : Pc} {k : Nat} {l : B} (h1 : Ok n rd) (h2 : Ok n wh) (hk : k + l.length ≤ n) : Ok n (finDigits rd wh k l) := by
  unfold finDigits
  split
  · rename_i hf
    have := tail_len hf
    exact ok_finPoint h1 h2 (by omega)
  · split
    · rename_i hf
      have := tail_len hf
      exact ok_finE h1 h2 (by omega)
    · split
      · rename_i hf
        have := tail_len hf
        exact ok_finSlash h1 h2 (by omega)
      · split
        · rename_i hf
          rw [Bool.and_eq_true] at hf
          have := tail_len hf.2
          exact ok_finX h1 h2 (by omega)
        · exact h2
theorem ok_finSign {n : Nat} {rd wh : Pc} {k : Nat} {l : B} (h1 : Ok n rd) (h2 : Ok n wh) (hk : k + l.length ≤ n) : Ok n (finSign rd wh k l) := by
  have hl := tkD_le l
  have hb := (h1.setAhead (k := 1) (allH_tkD l) (by omega) (Or.inl rfl))
  have hb2 := hb.setStop (k := k + (tkD l).length) (by omega)
  unfold finSign
  simp only
  split
  · exact ok_finDigits hb2 hb2 (by omega)
  · split
    · rename_i hf
      have := tail_len hf
      exact ok_finPoint hb h2 (by omega)
    · exact h2
theorem ok_longest (l : B) : Ok l.length (longestL l) := by
  unfold longestL finStart
  have hz := Ok.zero l.length
  split
  · rename_i hf
    have := tail_len hf
    exact ok_finSign (hz.setNeg true) hz (by omega)
  · split
    · rename_i hf
      have := tail_len hf
      exact ok_finSign (hz.setNeg false) hz (by omega)
    · exact ok_finSign (hz.setNeg false) hz (by omega)
/-- small letters: the same for hex digits -/
theorem low_same {b : UInt8} (h : isH b = true) : lowB b = lowF b := by
  unfold lowB lowF
  unfold isH isD at h
  simp only [Bool.or_eq_true, Bool.and_eq_true, decide_eq_true_eq] at h
  by_cases h1 : 65 ≤ b.toNat ∧ b.toNat ≤ 90
  · rw [if_pos h1, if_pos (by omega)]
  · rw [if_neg h1, if_neg (by omega)]
theorem all_dk {t s : UInt8 → Bool} {l : B} (h : l.all t = true) : (l.dropWhile s).all t = true :=
  List.all_eq_true.mpr fun b hb => List.all_eq_true.mp h b ((List.dropWhile_suffix s).subset hb)
theorem strip_same {l : B} (h : l.all isH = true) : strip l = bareR l := by
  unfold strip bareR
  apply List.map_congr_left
  intro b hb
  exact low_same (List.all_eq_true.mp (all_dk h) b hb)
/-- both ways of reckoning an exponent: the same, or both far off -/
theorem fold_same (ds : B) (h : ds.all isD = true) : ∀ n m : Int, 0 ≤ n → 0 ≤ m → n ≤ 21474836489 → m ≤ 4294967296 → ((n = m ∧ n < 2147483648) ∨ (2147483648 ≤ n ∧ 2147483648 ≤ m)) →
    0 ≤ ds.foldl stepP n ∧ ds.foldl stepP n ≤ 21474836489 ∧ 0 ≤ ds.foldl stepR m ∧ ds.foldl stepR m ≤ 4294967296 ∧ ((ds.foldl stepP n = ds.foldl stepR m ∧ ds.foldl stepP n < 2147483648) ∨ (2147483648 ≤ ds.foldl stepP n ∧ 2147483648 ≤ ds.foldl stepR m)) := by
  induction ds with
  | nil => intro n m h1 h2 h3 h4 h5; simp only [List.foldl_nil]; omega
  | cons d r ih =>
    intro n m h1 h2 h3 h4 h5
    rw [List.all_cons, Bool.and_eq_true] at h
    have hd : 48 ≤ d.toNat ∧ d.toNat ≤ 57 := by
      have := h.1; unfold isD at this; simpa using this
    simp only [List.foldl_cons]
    have hs : 0 ≤ stepP n d ∧ 0 ≤ stepR m d ∧ stepP n d ≤ 21474836489 ∧ stepR m d ≤ 4294967296 ∧ ((stepP n d = stepR m d ∧ stepP n d < 2147483648) ∨ (2147483648 ≤ stepP n d ∧ 2147483648 ≤ stepR m d)) := by
      unfold stepP stepR
      split <;> split <;> omega
    exact ih h.2 (stepP n d) (stepR m d) hs.1 hs.2.1 hs.2.2.1 hs.2.2.2.1 hs.2.2.2.2
theorem dk_none {t : UInt8 → Bool} {l : B} (h : ∀ c r, l = c :: r → t c = false) : l.dropWhile t = l := by
  cases l with
  | nil => rfl
  | cons c r => rw [List.dropWhile_cons, h c r rfl]; rfl
theorem digit_not {c : UInt8} (h : isD c = true) : ([43, 45] : B).contains c = false ∧ ([45] : B).contains c = false ∧ c ≠ 45 := by
  unfold isD at h
  simp only [Bool.and_eq_true, decide_eq_true_eq] at h
  have h1 : c ≠ 45 := by rintro rfl; simp at h
  have h2 : c ≠ 43 := by rintro rfl; simp at h
  simp [h1, h2]
theorem expD_digits {ds : B} (h : ds.all isD = true) : expD ds = ds := by
  apply dk_none
  rintro c r rfl
  rw [List.all_cons, Bool.and_eq_true] at h
  exact (digit_not h.1).1
theorem filter_digits {ds : B} (h : ds.all isD = true) : ds.filter isD = ds := List.filter_eq_self.mpr (List.all_eq_true.mp h)
theorem contains_digits {ds : B} (h : ds.all isD = true) : ds.contains 45 = false := by
  induction ds with
  | nil => rfl
  | cons c r ih =>
    rw [List.all_cons, Bool.and_eq_true] at h
    rw [List.contains_cons, ih h.2]
    have := (digit_not h.1).2.2
    simp [Ne.symm this]
theorem fst_digits {ds : B} (h : ds.all isD = true) : fst [45] ds = false := by
  cases ds with
  | nil => rfl
  | cons c r =>
    rw [List.all_cons, Bool.and_eq_true] at h
    exact (digit_not h.1).2.1
/-- the digits of a written exponent, and whether it has a minus -/
theorem expo_form {l : B} (h : ExpoOk l) : (expD l).all isD = true ∧ l.filter isD = expD l ∧ l.contains 45 = fst [45] l := by
  rcases h with rfl | ⟨sg, ds, rfl, hs, hn, hd⟩
  · exact ⟨rfl, rfl, rfl⟩
  · rcases hs with rfl | rfl | rfl
    · rw [List.nil_append, expD_digits hd, filter_digits hd, contains_digits hd, fst_digits hd]
      exact ⟨hd, rfl, rfl⟩
    · have e : expD ([43] ++ ds) = ds := by
        unfold expD
        rw [List.singleton_append, List.dropWhile_cons]
        exact expD_digits hd
      rw [e]
      refine ⟨hd, ?_, ?_⟩
      · rw [List.singleton_append, List.filter_cons]; exact filter_digits hd
      · rw [List.singleton_append, List.contains_cons, contains_digits hd]; rfl
    · have e : expD ([45] ++ ds) = ds := by
        unfold expD
        rw [List.singleton_append, List.dropWhile_cons]
        exact expD_digits hd
      rw [e]
      refine ⟨hd, ?_, ?_⟩
      · rw [List.singleton_append, List.filter_cons]; exact filter_digits hd
      · rw [List.singleton_append, List.contains_cons]; rfl
theorem expo_bound {l : B} (h : ExpoOk l) : -21474836489 ≤ expoN l ∧ expoN l ≤ 21474836489 := by
  obtain ⟨h1, h2, h3⟩ := expo_form h
  have := fold_same (expD l) h1 0 0 (by decide) (by decide) (by decide) (by decide) (Or.inl ⟨rfl, by decide⟩)
  unfold expoN
  split <;> omega
end Lx
end Go.Proofs.YtiicphkpmdidaaaDoor

/- The longest numeral of a text that is written by its parts. -/
namespace Go.Proofs.YtiicphkpmdidaaaDoor
set_option linter.unusedVariables false
namespace Lx
/-- what can't go on a numeral -/
def Stops (l : B) : Prop := ∀ c r, l = c :: r → isH c = false ∧ ([46, 47, 120, 88] : B).contains c = false
theorem Stops.nil : Stops [] := fun c r h => by cases h
theorem Stops.cons {c : UInt8} {r : B} (h : (isH c || ([46, 47, 120, 88] : B).contains c) = false) : Stops (c :: r) := by
  intro d q e
  cases e
  rw [Bool.or_eq_false_iff] at h
  exact h
theorem Stops.fst {l : B} (h : Stops l) {cs : B} (hc : cs.all (fun c => isH c || ([46, 47, 120, 88] : B).contains c) = true) : fst cs l = false := by
  cases l with
  | nil => rfl
  | cons c r =>
    rw [fst_cons]
    cases hh : cs.contains c with
    | false => rfl
    | true =>
      have := List.all_eq_true.mp hc c (by simpa using hh)
      obtain ⟨h1, h2⟩ := h c r rfl
      rw [h1, h2] at this; cases this
theorem tk_app {t : UInt8 → Bool} {h r : B} (hh : h.all t = true) (hr : ∀ c q, r = c :: q → t c = false) : (h ++ r).takeWhile t = h ∧ (h ++ r).dropWhile t = r := by
  induction h with
  | nil =>
    rw [List.nil_append]
    cases r with
    | nil => exact ⟨rfl, rfl⟩
    | cons c q =>
      have := hr c q rfl
      exact ⟨by rw [List.takeWhile_cons, this]; rfl, by rw [List.dropWhile_cons, this]; rfl⟩
  | cons b q ih =>
    rw [List.all_cons, Bool.and_eq_true] at hh
    obtain ⟨i1, i2⟩ := ih hh.2
    rw [List.cons_append, List.takeWhile_cons, List.dropWhile_cons, hh.1]
    exact ⟨by rw [if_pos rfl, i1], by rw [if_pos rfl, i2]⟩
theorem Stops.notD {l : B} (h : Stops l) : ∀ c q, l = c :: q → isD c = false := by
  intro c q e
  have := (h c q e).1
  unfold isH at this
  rw [Bool.or_eq_false_iff, Bool.or_eq_false_iff] at this
  exact this.1.1
theorem Stops.notH {l : B} (h : Stops l) : ∀ c q, l = c :: q → isH c = false := fun c q e => (h c q e).1
theorem expoL_app {e r : B} (he : ExpoOk e) (hn : e ≠ []) (hr : ∀ c q, r = c :: q → isD c = false) : expoL (e ++ r) = e := by
  rcases he with rfl | ⟨sg, ds, rfl, hs, hd, ha⟩
  · exact absurd rfl hn
  · have k := (tk_app ha hr).1
    rcases hs with rfl | rfl | rfl
    · rw [List.nil_append]
      unfold expoL
      rw [if_neg]
      · exact k
      · cases ds with
        | nil => exact absurd rfl hd
        | cons c q =>
          rw [List.all_cons, Bool.and_eq_true] at ha
          rw [List.cons_append, fst_cons, (digit_not ha.1).1]; simp
    · unfold expoL
      rw [if_pos (by rfl)]
      show (if tkD (ds ++ r) = [] then [] else [43] ++ tkD (ds ++ r)) = _
      rw [show tkD (ds ++ r) = ds from k, if_neg hd]
    · unfold expoL
      rw [if_pos (by rfl)]
      show (if tkD (ds ++ r) = [] then [] else [45] ++ tkD (ds ++ r)) = _
      rw [show tkD (ds ++ r) = ds from k, if_neg hd]
/-- a sign ahead -/
theorem start_sign {sg l : B} (hs : sg = [] ∨ sg = [43] ∨ sg = [45]) (hl : sg = [] → fst [43, 45] l = false) :
    longestL (sg ++ l) = finSign ⟨0, decide (sg = [45]), [], [], [], [], 0⟩ Pc.zero sg.length l := by
  unfold longestL finStart
  rcases hs with rfl | rfl | rfl
  · have := hl rfl
    rw [List.nil_append]
    have h1 : fst [45] l = false := by
      cases l with
      | nil => rfl
      | cons c r => rw [fst_cons] at this ⊢; simp at this ⊢; first | exact this.2 | exact this.1
    have h2 : fst [43] l = false := by
      cases l with
      | nil => rfl
      | cons c r => rw [fst_cons] at this ⊢; simp at this ⊢; first | exact this.2 | exact this.1
    rw [h1, h2]
    rfl
  · rfl
  · rfl
/-- an exponent as it is written with its letter, or none -/
def ExpW (cs : B) (ex : B) : Prop := ex = [] ∨ ∃ c e, ex = c :: e ∧ cs.contains c = true ∧ e ≠ [] ∧ ExpoOk e
theorem fst_of {cs : B} {c : UInt8} {l : B} (h : cs.contains c = true) : fst cs (c :: l) = true := h
theorem finE_app {rd wh : Pc} {k : Nat} {e r : B} (he : ExpoOk e) (hn : e ≠ []) (hr : ∀ c q, r = c :: q → isD c = false) : finE rd wh k (e ++ r) = { rd with expo := e, stop := k + e.length } := by
  unfold finE
  rw [expoL_app he hn hr, if_neg hn]
theorem exp_app {rd : Pc} {k : Nat} {ex r : B} (hx : ExpW [101, 69] ex) (hr : Stops r) (h0 : rd.expo = []) (hk : rd.stop = k) :
    (if fst [101, 69] (ex ++ r) = true then finE rd rd (k + 1) (ex ++ r).tail else rd) = { rd with expo := ex.tail, stop := k + ex.length } := by
  rcases hx with rfl | ⟨c, e, rfl, hc, hn, he⟩
  · rw [List.nil_append, hr.fst (by decide)]
    simp only [Bool.false_eq_true, if_false, List.tail_nil, List.length_nil, Nat.add_zero]
    cases rd
    simp only at h0 hk
    subst h0; subst hk
    rfl
  · rw [List.cons_append, if_pos (fst_of hc)]
    rw [List.tail_cons, finE_app he hn hr.notD, List.tail_cons, List.length_cons]
    have : k + 1 + e.length = k + (e.length + 1) := by omega
    rw [this]
theorem notD_ex {cs ex r : B} (hx : ExpW cs ex) (hc : cs.all (fun c => !isD c) = true) (hr : Stops r) : ∀ c q, ex ++ r = c :: q → isD c = false := by
  intro c q e
  rcases hx with rfl | ⟨d, f, rfl, hd, _, _⟩
  · exact hr.notD c q e
  · cases e
    have := List.all_eq_true.mp hc c (by simpa using hd)
    simpa using this
theorem notH_ex {cs ex r : B} (hx : ExpW cs ex) (hc : cs.all (fun c => !isH c) = true) (hr : Stops r) : ∀ c q, ex ++ r = c :: q → isH c = false := by
  intro c q e
  rcases hx with rfl | ⟨d, f, rfl, hd, _, _⟩
  · exact hr.notH c q e
  · cases e
    have := List.all_eq_true.mp hc c (by simpa using hd)
    simpa using this
theorem isEmpty_ne {l : B} (h : l ≠ []) : l.isEmpty = false := by cases l with | nil => exact absurd rfl h | cons _ _ => rfl
theorem fst_app {cs h r : B} (hn : h ≠ []) (hh : h.all (fun c => !cs.contains c) = true) : fst cs (h ++ r) = false := by
  cases h with
  | nil => exact absurd rfl hn
  | cons c q =>
    rw [List.all_cons, Bool.and_eq_true] at hh
    rw [List.cons_append, fst_cons]; simpa using hh.1
theorem digits_not {h : B} (hh : h.all isD = true) : h.all (fun c => !([43, 45] : B).contains c) = true :=
  all_mono (fun b hb => by rw [(digit_not hb).1]; rfl) hh
/-- a decimal one -/
theorem longest_dec {sg head tail ex rest : B} {pt : Bool} (hs : sg = [] ∨ sg = [43] ∨ sg = [45]) (hh : head.all isD = true) (ht : tail.all isD = true)
    (hne : ¬ (head = [] ∧ tail = [])) (hpt : pt = false → tail = []) (hx : ExpW [101, 69] ex) (hr : Stops rest) :
    longestL (sg ++ (head ++ ((if pt then 46 :: tail else []) ++ (ex ++ rest)))) =
      ⟨1, decide (sg = [45]), head, tail, ex.tail, [], sg.length + head.length + (if pt then 1 + tail.length else 0) + ex.length⟩ := by
  have hxd := notD_ex hx (by decide) hr
  have hx46 : ∀ {l}, l = ex ++ rest → fst [46] l = false := by
    rintro l rfl
    rcases hx with rfl | ⟨c, e, rfl, hc, _, _⟩
    · exact hr.fst (by decide)
    · exact fst_not (fst_of (l := e ++ rest) hc) (dis [101, 69] [46] rfl)
  cases pt with
  | false =>
    have ht0 := hpt rfl
    subst ht0
    have hhn : head ≠ [] := fun h => hne ⟨h, rfl⟩
    simp only [Bool.false_eq_true, if_false, List.nil_append, Nat.add_zero]
    rw [start_sign hs (fun _ => fst_app hhn (digits_not hh))]
    obtain ⟨k1, k2⟩ := tk_app hh hxd
    have k1' : tkD (head ++ (ex ++ rest)) = head := k1
    have k2' : dkD (head ++ (ex ++ rest)) = ex ++ rest := k2
    unfold finSign
    simp only [k1', k2', Pc.has, isEmpty_ne hhn, Bool.not_false, Bool.true_or, if_true]
    unfold finDigits
    rw [hx46 rfl]
    simp only [Bool.false_eq_true, if_false]
    have := exp_app (rd := ⟨1, decide (sg = [45]), head, [], [], [], sg.length + head.length⟩) (k := sg.length + head.length) hx hr rfl rfl
    rcases hx with rfl | ⟨c, e, rfl, hc, hn, he⟩
    · rw [List.nil_append, hr.fst (by decide), hr.fst (by decide), hr.fst (by decide)]
      simp
    · rw [List.cons_append, if_pos (fst_of hc)] at this ⊢
      exact this
  | true =>
    simp only [if_true]
    have e1 : (head ++ (46 :: tail ++ (ex ++ rest))) = head ++ (46 :: (tail ++ (ex ++ rest))) := rfl
    rw [e1]
    have hf : sg = [] → fst [43, 45] (head ++ (46 :: (tail ++ (ex ++ rest)))) = false := by
      intro _
      by_cases hhn : head = []
      · subst hhn; rfl
      · exact fst_app hhn (digits_not hh)
    rw [start_sign hs hf]
    obtain ⟨k1, k2⟩ := tk_app (r := 46 :: (tail ++ (ex ++ rest))) hh (by rintro c q e; cases e; rfl)
    have k1' : tkD (head ++ (46 :: (tail ++ (ex ++ rest)))) = head := k1
    have k2' : dkD (head ++ (46 :: (tail ++ (ex ++ rest)))) = 46 :: (tail ++ (ex ++ rest)) := k2
    obtain ⟨m1, m2⟩ := tk_app ht hxd
    have m1' : tkD (tail ++ (ex ++ rest)) = tail := m1
    have m2' : dkD (tail ++ (ex ++ rest)) = ex ++ rest := m2
    have hpnt : ∀ (st : Nat) (wh : Pc), finPoint ⟨1, decide (sg = [45]), head, [], [], [], st⟩ wh (sg.length + head.length + 1) (tail ++ (ex ++ rest)) =
        ⟨1, decide (sg = [45]), head, tail, ex.tail, [], sg.length + head.length + (1 + tail.length) + ex.length⟩ := by
      intro st wh
      unfold finPoint
      simp only [m1', m2']
      rw [if_neg]
      · have := exp_app (rd := ⟨1, decide (sg = [45]), head, tail, [], [], sg.length + head.length + 1 + tail.length⟩) (k := sg.length + head.length + 1 + tail.length) hx hr rfl rfl
        rw [this]
        have : sg.length + head.length + 1 + tail.length + ex.length = sg.length + head.length + (1 + tail.length) + ex.length := by omega
        rw [this]
      · rw [has_false]; exact hne
    unfold finSign
    simp only [k1', k2']
    by_cases hhn : head = []
    · have h0 : (⟨1, decide (sg = [45]), head, [], [], [], 0⟩ : Pc).has = false := has_false.mpr ⟨hhn, rfl⟩
      rw [h0]
      simp only [Bool.false_eq_true, if_false, List.tail_cons]
      rw [if_pos (show fst [46] (46 :: (tail ++ (ex ++ rest))) = true from rfl)]
      exact hpnt _ _
    · have h0 : (⟨1, decide (sg = [45]), head, [], [], [], 0⟩ : Pc).has = true := has_true.mpr (fun h => hhn h.1)
      rw [h0]
      simp only [if_true]
      unfold finDigits
      rw [if_pos (by rfl)]
      exact hpnt _ _
/-- a hexadecimal one -/
theorem longest_hex {sg head tail ex rest : B} {pt : Bool} {x : UInt8} (hs : sg = [] ∨ sg = [43] ∨ sg = [45]) (hX : x = 120 ∨ x = 88) (hh : head.all isH = true) (ht : tail.all isH = true)
    (hne : ¬ (head = [] ∧ tail = [])) (hpt : pt = false → tail = []) (hx : ExpW [112, 80] ex) (hx0 : ex ≠ []) (hr : Stops rest) :
    longestL (sg ++ (48 :: x :: (head ++ ((if pt then 46 :: tail else []) ++ (ex ++ rest))))) =
      ⟨2, decide (sg = [45]), head, tail, ex.tail, [], sg.length + 2 + head.length + (if pt then 1 + tail.length else 0) + ex.length⟩ := by
  have hxd := notH_ex hx (by decide) hr
  obtain ⟨c, e, rfl, hc, hn, he⟩ := hx.resolve_left hx0
  have hx46 : fst [46] (c :: e ++ rest) = false := fst_not (fst_of (l := e ++ rest) hc) (dis [112, 80] [46] rfl)
  have hxp : fst [112, 80] (c :: e ++ rest) = true := fst_of hc
  rw [start_sign hs (fun _ => rfl)]
  have hxd2 : isD x = false := by rcases hX with rfl | rfl <;> rfl
  generalize hL : head ++ ((if pt then 46 :: tail else []) ++ (c :: e ++ rest)) = L
  have k1' : tkD (48 :: x :: L) = [48] := (tk_app (h := [48]) (r := x :: L) (by rfl) (by rintro d q e; cases e; exact hxd2)).1
  have k2' : dkD (48 :: x :: L) = x :: L := (tk_app (h := [48]) (r := x :: L) (by rfl) (by rintro d q e; cases e; exact hxd2)).2
  have hfx : ∀ (cs : B), cs.contains (120 : UInt8) = false → cs.contains (88 : UInt8) = false → fst cs (x :: L) = false := by
    intro cs h1 h2; rw [fst_cons]; rcases hX with rfl | rfl <;> assumption
  have hfx2 : fst [120, 88] (x :: L) = true := by rw [fst_cons]; rcases hX with rfl | rfl <;> rfl
  unfold finSign
  simp only [k1', k2', Pc.has, List.isEmpty_cons, Bool.not_false, Bool.true_or, if_true]
  unfold finDigits
  rw [hfx [46] rfl rfl, hfx [101, 69] rfl rfl, hfx [47] rfl rfl]
  simp only [Bool.false_eq_true, if_false, hfx2, decide_true, Bool.and_self, if_true, List.tail_cons, List.length_singleton]
  subst hL
  unfold finX
  cases pt with
  | false =>
    have ht0 := hpt rfl
    subst ht0
    have hhn : head ≠ [] := fun h => hne ⟨h, rfl⟩
    simp only [Bool.false_eq_true, if_false, List.nil_append, Nat.add_zero]
    obtain ⟨m1, m2⟩ := tk_app hh hxd
    have m1' : tkH (head ++ (c :: e ++ rest)) = head := m1
    have m2' : dkH (head ++ (c :: e ++ rest)) = c :: e ++ rest := m2
    rw [m1', m2', hx46, hxp]
    simp only [Bool.false_eq_true, if_false, Pc.has, isEmpty_ne hhn, Bool.not_false, Bool.true_or, Bool.and_self, if_true]
    show finE _ _ _ (e ++ rest) = _
    rw [finE_app he hn hr.notD]
    simp only [List.length_cons]
    have : sg.length + 1 + 1 + head.length + 1 + e.length = sg.length + 2 + head.length + (e.length + 1) := by omega
    rw [this]
  | true =>
    simp only [if_true]
    obtain ⟨k1, k2⟩ := tk_app (h := head) (r := 46 :: (tail ++ (c :: e ++ rest))) hh (by rintro c q e; cases e; rfl)
    have k1' : tkH (head ++ (46 :: tail ++ (c :: e ++ rest))) = head := k1
    have k2' : dkH (head ++ (46 :: tail ++ (c :: e ++ rest))) = 46 :: (tail ++ (c :: e ++ rest)) := k2
    obtain ⟨m1, m2⟩ := tk_app ht hxd
    have m1' : tkH (tail ++ (c :: e ++ rest)) = tail := m1
    have m2' : dkH (tail ++ (c :: e ++ rest)) = c :: e ++ rest := m2
    rw [k1', k2', if_pos (by rfl), List.tail_cons]
    unfold finHexPoint
    simp only [m1', m2', hxp, Bool.and_true]
    have h0 : (⟨2, decide (sg = [45]), head, tail, [], [], sg.length + 1⟩ : Pc).has = true := has_true.mpr hne
    rw [h0]
    simp only [if_true]
    show finE _ _ _ (e ++ rest) = _
    rw [finE_app he hn hr.notD]
    simp only [List.length_cons]
    have : sg.length + 1 + 1 + head.length + 1 + tail.length + 1 + e.length = sg.length + 2 + head.length + (1 + tail.length) + (e.length + 1) := by omega
    rw [this]
/-- a rational one -/
theorem longest_rat {sg head tail rest : B} (hs : sg = [] ∨ sg = [43] ∨ sg = [45]) (hh : head.all isD = true) (ht : tail.all isD = true)
    (hhn : head ≠ []) (htn : tail ≠ []) (hr : Stops rest) :
    longestL (sg ++ (head ++ (47 :: (tail ++ rest)))) = ⟨3, decide (sg = [45]), head, [], [], tail, sg.length + head.length + 1 + tail.length⟩ := by
  rw [start_sign hs (fun _ => fst_app hhn (digits_not hh))]
  obtain ⟨k1, k2⟩ := tk_app (h := head) (r := 47 :: (tail ++ rest)) hh (by rintro c q e; cases e; rfl)
  have k1' : tkD (head ++ (47 :: (tail ++ rest))) = head := k1
  have k2' : dkD (head ++ (47 :: (tail ++ rest))) = 47 :: (tail ++ rest) := k2
  have m1' : tkD (tail ++ rest) = tail := (tk_app ht hr.notD).1
  unfold finSign
  simp only [k1', k2', Pc.has, isEmpty_ne hhn, Bool.not_false, Bool.true_or, if_true]
  unfold finDigits
  rw [if_neg (show ¬ fst [46] (47 :: (tail ++ rest)) = true from fun h => by cases h), if_neg (show ¬ fst [101, 69] (47 :: (tail ++ rest)) = true from fun h => by cases h), if_pos (by rfl), List.tail_cons]
  unfold finSlash
  rw [m1', if_neg htn]
end Lx
end Go.Proofs.YtiicphkpmdidaaaDoor

/- Layer 10: what Cut tells of a text of digits. -/
namespace Go.Proofs.YtiicphkpmdidaaaDoor
set_option linter.unusedVariables false
namespace Lx
theorem isD_bd {b : UInt8} (h : isD b = true) : 48 ≤ b.toNat ∧ b.toNat ≤ 57 := by
  unfold isD at h
  simpa using h
theorem trim_all (cs l : B) : (l.dropWhile (fun b => cs.contains b)) = [] ↔ ∀ b ∈ l, cs.contains b = true := by
  induction l with
  | nil => simp
  | cons c r ih =>
    rw [List.dropWhile_cons]
    by_cases h : cs.contains c = true
    · rw [if_pos h, ih]
      constructor
      · intro hr b hb
        rcases List.mem_cons.mp hb with rfl | hb
        · exact h
        · exact hr b hb
      · exact fun hr b hb => hr b (List.mem_cons_of_mem _ hb)
    · rw [if_neg h]
      constructor
      · intro e; cases e
      · intro hr; exact absurd (hr c (List.mem_cons_self ..)) h
theorem digits_has (b : UInt8) : ([48, 49, 50, 51, 52, 53, 54, 55, 56, 57] : B).contains b = isD b := by
  have : ∀ n : Fin 256, ([48, 49, 50, 51, 52, 53, 54, 55, 56, 57] : B).contains (UInt8.ofNat n.val) = isD (UInt8.ofNat n.val) := by decide +kernel
  have h := this ⟨b.toNat, UInt8.toNat_lt b⟩
  simpa using h
end Lx
end Go.Proofs.YtiicphkpmdidaaaDoor


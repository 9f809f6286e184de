/- What the pieces of a numeral say. -/
import Derived.Test.YtbbmoaipilmmdaaGreatDoorLexMath
namespace Go.Proofs.YtbbmoaipilmmdaaGreatDoor
set_option linter.unusedVariables false
namespace Lx
/-- a numeral as it is kept -/
structure Nm where
  kind : Int
  neg : Bool
  num : B
  exp : Int
  den : B
/-- a small letter for a capital -/
def lowB (b : UInt8) : UInt8 := if 65 ≤ b.toNat ∧ b.toNat ≤ 90 then UInt8.ofNat (b.toNat + 32) else b
def lowF (b : UInt8) : UInt8 := if 65 ≤ b.toNat ∧ b.toNat ≤ 70 then UInt8.ofNat (b.toNat + 32) else b
def strip (l : B) : B := (l.dropWhile (fun b => [48].contains b)).map lowB
def bareR (l : B) : B := (l.dropWhile (fun b => [48].contains b)).map lowF
def stepP (n : Int) (d : UInt8) : Int := if n < 2147483648 then 10 * n + ((d.toNat : Int) - 48) else n
def stepR (n : Int) (d : UInt8) : Int := if 4294967296 < n * 10 + ((d.toNat : Int) - 48) then 4294967296 else n * 10 + ((d.toNat : Int) - 48)
/-- the digits of an exponent -/
def expD (l : B) : B := l.dropWhile (fun b => [43, 45].contains b)
def expoN (l : B) : Int := if fst [45] l then - (expD l).foldl stepP 0 else (expD l).foldl stepP 0
def heldI (e : Int) : Int := if (if e < 1073741824 then e else 1073741824) < -1073741824 then -1073741824 else (if e < 1073741824 then e else 1073741824)
def numOf (p : Pc) : Nm := ⟨p.kind, p.neg, strip (p.ahead ++ p.behind),
  if p.kind = 1 then heldI (expoN p.expo - p.behind.length) else if p.kind = 2 then heldI (expoN p.expo - 4 * p.behind.length) else 0, strip p.den⟩
/-- the document's exponent -/
def expoR (l : B) : Int := if l.contains 45 then - (l.filter isD).foldl stepR 0 else (l.filter isD).foldl stepR 0
def heldR (n : Int) : Int := if 1073741824 < n then 1073741824 else if n < -1073741824 then -1073741824 else n
/-- an exponent as written: none, or digits behind at most one sign -/
def ExpoOk (l : B) : Prop := l = [] ∨ ∃ sg ds, l = sg ++ ds ∧ (sg = [] ∨ sg = [43] ∨ sg = [45]) ∧ ds ≠ [] ∧ ds.all isD = true
structure Ok (n : Nat) (p : Pc) : Prop where
  ahead : p.ahead.all isH = true
  behind : p.behind.all isH = true
  expo : ExpoOk p.expo
  den : p.den.all isD = true
  la : p.ahead.length ≤ n
  lb : p.behind.length ≤ n
  le : p.expo.length ≤ n
  ld : p.den.length ≤ n
  st : p.stop ≤ n
  kd : p.kind = 0 ∨ p.kind = 1 ∨ p.kind = 2 ∨ p.kind = 3
theorem all_tk (t : UInt8 → Bool) (l : B) : (l.takeWhile t).all t = true := by
  induction l with
  | nil => rfl
  | cons b r ih =>
    rw [List.takeWhile_cons]
    by_cases h : t b
    · rw [if_pos h, List.all_cons, h, ih]; rfl
    · rw [if_neg h]; rfl
theorem isH_of {b : UInt8} (h : isD b = true) : isH b = true := by unfold isH; rw [h]; rfl
theorem all_mono {s t : UInt8 → Bool} (h : ∀ b, s b = true → t b = true) {l : B} (hl : l.all s = true) : l.all t = true :=
  List.all_eq_true.mpr fun b hb => h b (List.all_eq_true.mp hl b hb)
theorem allD_tk (l : B) : (tkD l).all isD = true := all_tk isD l
theorem allH_tkD (l : B) : (tkD l).all isH = true := all_mono (fun _ => isH_of) (allD_tk l)
theorem allH_tk (l : B) : (tkH l).all isH = true := all_tk isH l
theorem tk_le (t : UInt8 → Bool) (l : B) : (l.takeWhile t).length ≤ l.length := by have := dk_len t l; omega
theorem tkD_le (l : B) : (tkD l).length + (dkD l).length = l.length := dk_len isD l
theorem tkH_le (l : B) : (tkH l).length + (dkH l).length = l.length := dk_len isH l
theorem tail_len {cs l : B} (h : fst cs l = true) : l.tail.length + 1 = l.length := by
  obtain ⟨c, r, rfl, _⟩ := fst_true h; rfl
theorem expo_ok (l : B) : ExpoOk (expoL l) := by
  unfold expoL
  split
  · rename_i h
    split
    · exact Or.inl rfl
    · rename_i hn
      obtain ⟨c, r, rfl, hc⟩ := fst_true h
      refine Or.inr ⟨[c], tkD r, rfl, ?_, hn, allD_tk r⟩
      have : c = 43 ∨ c = 45 := by simpa using hc
      rcases this with rfl | rfl
      · exact Or.inr (Or.inl rfl)
      · exact Or.inr (Or.inr rfl)
  · by_cases hn : tkD l = []
    · exact Or.inl hn
    · exact Or.inr ⟨[], tkD l, rfl, Or.inl rfl, hn, allD_tk l⟩
theorem expo_le (l : B) : (expoL l).length ≤ l.length := by
  unfold expoL
  split
  · rename_i h
    split
    · simp
    · have h1 := tail_len h
      have h2 := tkD_le l.tail
      rw [List.length_append, List.length_take]; omega
  · have := tkD_le l; omega
theorem Ok.zero (n : Nat) : Ok n Pc.zero := ⟨rfl, rfl, Or.inl rfl, rfl, Nat.zero_le _, Nat.zero_le _, Nat.zero_le _, Nat.zero_le _, Nat.zero_le _, Or.inl rfl⟩
theorem ok_finE {n : Nat} {rd wh : Pc} {k : Nat} {l : B} (h1 : Ok n rd) (h2 : Ok n wh) (hk : k + l.length ≤ n) : Ok n (finE rd wh k l) := by
  unfold finE
  split
  · exact h2
  · have := expo_le l
    exact ⟨h1.ahead, h1.behind, expo_ok l, h1.den, h1.la, h1.lb, by show (expoL l).length ≤ n; omega, h1.ld, by show k + (expoL l).length ≤ n; omega, h1.kd⟩
theorem ok_finSlash {n : Nat} {rd wh : Pc} {k : Nat} {l : B} (h1 : Ok n rd) (h2 : Ok n wh) (hk : k + l.length ≤ n) : Ok n (finSlash rd wh k l) := by
  unfold finSlash
  split
  · exact h2
  · have := tkD_le l
    exact ⟨h1.ahead, h1.behind, h1.expo, allD_tk l, h1.la, h1.lb, h1.le, by show (tkD l).length ≤ n; omega, by show k + (tkD l).length ≤ n; omega, Or.inr (Or.inr (Or.inr rfl))⟩
theorem Ok.setBehind {n : Nat} {rd : Pc} (h1 : Ok n rd) {b : B} (hb : b.all isH = true) (hl : b.length ≤ n) : Ok n { rd with behind := b } :=
  ⟨h1.ahead, hb, h1.expo, h1.den, h1.la, hl, h1.le, h1.ld, h1.st, h1.kd⟩
theorem Ok.setStop {n : Nat} {rd : Pc} (h1 : Ok n rd) {k : Nat} (hl : k ≤ n) : Ok n { rd with stop := k } :=
  ⟨h1.ahead, h1.behind, h1.expo, h1.den, h1.la, h1.lb, h1.le, h1.ld, hl, h1.kd⟩
theorem Ok.setAhead {n : Nat} {rd : Pc} (h1 : Ok n rd) {b : B} {k : Int} (hb : b.all isH = true) (hl : b.length ≤ n) (hk : k = 1 ∨ k = 2) : Ok n { rd with kind := k, ahead := b } :=
  ⟨hb, h1.behind, h1.expo, h1.den, hl, h1.lb, h1.le, h1.ld, h1.st, by rcases hk with rfl | rfl; exact Or.inr (Or.inl rfl); exact Or.inr (Or.inr (Or.inl rfl))⟩
theorem Ok.setNeg {n : Nat} {rd : Pc} (h1 : Ok n rd) (b : Bool) : Ok n { rd with neg := b } :=
  ⟨h1.ahead, h1.behind, h1.expo, h1.den, h1.la, h1.lb, h1.le, h1.ld, h1.st, h1.kd⟩
theorem ok_finPoint {n : Nat} {rd wh : Pc} {k : Nat} {l : B} (h1 : Ok n rd) (h2 : Ok n wh) (hk : k + l.length ≤ n) : Ok n (finPoint rd wh k l) := by
  have hl := tkD_le l
  have hb := (h1.setBehind (allH_tkD l) (by omega)).setStop (k := k + (tkD l).length) (by omega)
  unfold finPoint
  simp only
  split
  · exact h2
  · split
    · rename_i hf
      have := tail_len hf
      exact ok_finE hb hb (by omega)
    · exact hb
theorem ok_finHexPoint {n : Nat} {rd wh : Pc} {k : Nat} {l : B} (h1 : Ok n rd) (h2 : Ok n wh) (hk : k + l.length ≤ n) : Ok n (finHexPoint rd wh k l) := by
  have hl := tkH_le l
  have hb := (h1.setBehind (allH_tk l) (by omega))
  unfold finHexPoint
  simp only
  split
  · rename_i hf
    rw [Bool.and_eq_true] at hf
    have := tail_len hf.2
    exact ok_finE hb h2 (by omega)
  · exact h2
theorem ok_finX {n : Nat} {rd wh : Pc} {k : Nat} {l : B} (h1 : Ok n rd) (h2 : Ok n wh) (hk : k + l.length ≤ n) : Ok n (finX rd wh k l) := by
  have hl := tkH_le l
  have hb := (h1.setAhead (k := 2) (allH_tk l) (by omega) (Or.inr rfl))
  unfold finX
  simp only
  split
  · rename_i hf
    have := tail_len hf
    exact ok_finHexPoint hb h2 (by omega)
  · split
    · rename_i hf
      rw [Bool.and_eq_true] at hf
      have := tail_len hf.2
      exact ok_finE hb h2 (by omega)
    · exact h2
theorem ok_finDigits {n : Nat} {rd wh : Pc} {k : Nat} {l : B} (h1 : Ok n rd) (h2 : Ok n wh) (hk : k + l.length ≤ n) : Ok n (finDigits rd wh k l) := by
  unfold finDigits
  split
  · rename_i hf
    have := tail_len hf
    exact ok_finPoint h1 h2 (by omega)
  · split
    · rename_i hf
      have := tail_len hf
      exact ok_finE h1 h2 (by omega)
    · split
      · rename_i hf
        have := tail_len hf
        exact ok_finSlash h1 h2 (by omega)
      · split
        · rename_i hf
          rw [Bool.and_eq_true] at hf
          have := tail_len hf.2
          exact ok_finX h1 h2 (by omega)
        · exact h2
theorem ok_finSign {n : Nat} {rd wh : Pc} {k : Nat} {l : B} (h1 : Ok n rd) (h2 : Ok n wh) (hk : k + l.length ≤ n) : Ok n (finSign rd wh k l) := by
  have hl := tkD_le l
  have hb := (h1.setAhead (k := 1) (allH_tkD l) (by omega) (Or.inl rfl))
  have hb2 := hb.setStop (k := k + (tkD l).length) (by omega)
  unfold finSign
  simp only
  split
  · exact ok_finDigits hb2 hb2 (by omega)
  · split
    · rename_i hf
      have := tail_len hf
      exact ok_finPoint hb h2 (by omega)
    · exact h2
theorem ok_longest (l : B) : Ok l.length (longestL l) := by
  unfold longestL finStart
  have hz := Ok.zero l.length
  split
  · rename_i hf
    have := tail_len hf
    exact ok_finSign (hz.setNeg true) hz (by omega)
  · split
    · rename_i hf
      have := tail_len hf
      exact ok_finSign (hz.setNeg false) hz (by omega)
    · exact ok_finSign (hz.setNeg false) hz (by omega)
/-- small letters: the same for hex digits -/
theorem low_same {b : UInt8} (h : isH b = true) : lowB b = lowF b := by
  unfold lowB lowF
  unfold isH isD at h
  simp only [Bool.or_eq_true, Bool.and_eq_true, decide_eq_true_eq] at h
  by_cases h1 : 65 ≤ b.toNat ∧ b.toNat ≤ 90
  · rw [if_pos h1, if_pos (by omega)]
  · rw [if_neg h1, if_neg (by omega)]
theorem all_dk {t s : UInt8 → Bool} {l : B} (h : l.all t = true) : (l.dropWhile s).all t = true :=
  List.all_eq_true.mpr fun b hb => List.all_eq_true.mp h b ((List.dropWhile_suffix s).subset hb)
theorem strip_same {l : B} (h : l.all isH = true) : strip l = bareR l := by
  unfold strip bareR
  apply List.map_congr_left
  intro b hb
  exact low_same (List.all_eq_true.mp (all_dk h) b hb)
/-- both ways of reckoning an exponent: the same, or both far off -/
theorem fold_same (ds : B) (h : ds.all isD = true) : ∀ n m : Int, 0 ≤ n → 0 ≤ m → n ≤ 21474836489 → m ≤ 4294967296 → ((n = m ∧ n < 2147483648) ∨ (2147483648 ≤ n ∧ 2147483648 ≤ m)) →
    0 ≤ ds.foldl stepP n ∧ ds.foldl stepP n ≤ 21474836489 ∧ 0 ≤ ds.foldl stepR m ∧ ds.foldl stepR m ≤ 4294967296 ∧ ((ds.foldl stepP n = ds.foldl stepR m ∧ ds.foldl stepP n < 2147483648) ∨ (2147483648 ≤ ds.foldl stepP n ∧ 2147483648 ≤ ds.foldl stepR m)) := by
  induction ds with
  | nil => intro n m h1 h2 h3 h4 h5; simp only [List.foldl_nil]; omega
  | cons d r ih =>
    intro n m h1 h2 h3 h4 h5
    rw [List.all_cons, Bool.and_eq_true] at h
    have hd : 48 ≤ d.toNat ∧ d.toNat ≤ 57 := by
      have := h.1; unfold isD at this; simpa using this
    simp only [List.foldl_cons]
    have hs : 0 ≤ stepP n d ∧ 0 ≤ stepR m d ∧ stepP n d ≤ 21474836489 ∧ stepR m d ≤ 4294967296 ∧ ((stepP n d = stepR m d ∧ stepP n d < 2147483648) ∨ (2147483648 ≤ stepP n d ∧ 2147483648 ≤ stepR m d)) := by
      unfold stepP stepR
      split <;> split <;> omega
    exact ih h.2 (stepP n d) (stepR m d) hs.1 hs.2.1 hs.2.2.1 hs.2.2.2.1 hs.2.2.2.2
theorem dk_none {t : UInt8 → Bool} {l : B} (h : ∀ c r, l = c :: r → t c = false) : l.dropWhile t = l := by
  cases l with
  | nil => rfl
  | cons c r => rw [List.dropWhile_cons, h c r rfl]; rfl
theorem digit_not {c : UInt8} (h : isD c = true) : ([43, 45] : B).contains c = false ∧ ([45] : B).contains c = false ∧ c ≠ 45 := by
  unfold isD at h
  simp only [Bool.and_eq_true, decide_eq_true_eq] at h
  have h1 : c ≠ 45 := by rintro rfl; simp at h
  have h2 : c ≠ 43 := by rintro rfl; simp at h
  simp [h1, h2]
theorem expD_digits {ds : B} (h : ds.all isD = true) : expD ds = ds := by
  apply dk_none
  rintro c r rfl
  rw [List.all_cons, Bool.and_eq_true] at h
  exact (digit_not h.1).1
theorem filter_digits {ds : B} (h : ds.all isD = true) : ds.filter isD = ds := List.filter_eq_self.mpr (List.all_eq_true.mp h)
theorem contains_digits {ds : B} (h : ds.all isD = true) : ds.contains 45 = false := by
  induction ds with
  | nil => rfl
  | cons c r ih =>
    rw [List.all_cons, Bool.and_eq_true] at h
    rw [List.contains_cons, ih h.2]
    have := (digit_not h.1).2.2
    simp [Ne.symm this]
theorem fst_digits {ds : B} (h : ds.all isD = true) : fst [45] ds = false := by
  cases ds with
  | nil => rfl
  | cons c r =>
    rw [List.all_cons, Bool.and_eq_true] at h
    exact (digit_not h.1).2.1
/-- the digits of a written exponent, and whether it has a minus -/
theorem expo_form {l : B} (h : ExpoOk l) : (expD l).all isD = true ∧ l.filter isD = expD l ∧ l.contains 45 = fst [45] l := by
  rcases h with rfl | ⟨sg, ds, rfl, hs, hn, hd⟩
  · exact ⟨rfl, rfl, rfl⟩
  · rcases hs with rfl | rfl | rfl
    · rw [List.nil_append, expD_digits hd, filter_digits hd, contains_digits hd, fst_digits hd]
      exact ⟨hd, rfl, rfl⟩
    · have e : expD ([43] ++ ds) = ds := by
        unfold expD
        rw [List.singleton_append, List.dropWhile_cons]
        exact expD_digits hd
      rw [e]
      refine ⟨hd, ?_, ?_⟩
      · rw [List.singleton_append, List.filter_cons]; exact filter_digits hd
      · rw [List.singleton_append, List.contains_cons, contains_digits hd]; rfl
    · have e : expD ([45] ++ ds) = ds := by
        unfold expD
        rw [List.singleton_append, List.dropWhile_cons]
        exact expD_digits hd
      rw [e]
      refine ⟨hd, ?_, ?_⟩
      · rw [List.singleton_append, List.filter_cons]; exact filter_digits hd
      · rw [List.singleton_append, List.contains_cons]; rfl
theorem expo_bound {l : B} (h : ExpoOk l) : -21474836489 ≤ expoN l ∧ expoN l ≤ 21474836489 := by
  obtain ⟨h1, h2, h3⟩ := expo_form h
  have := fold_same (expD l) h1 0 0 (by decide) (by decide) (by decide) (by decide) (Or.inl ⟨rfl, by decide⟩)
  unfold expoN
  split <;> omega
theorem expo_same {l : B} (h : ExpoOk l) {k : Int} (h0 : 0 ≤ k) (hk : k ≤ 1000000000) : heldI (expoN l - k) = heldR (expoR l - k) := by
  obtain ⟨h1, h2, h3⟩ := expo_form h
  have := fold_same (expD l) h1 0 0 (by decide) (by decide) (by decide) (by decide) (Or.inl ⟨rfl, by decide⟩)
  unfold expoN expoR
  rw [h2, h3]
  generalize List.foldl stepP 0 (expD l) = a at this
  generalize List.foldl stepR 0 (expD l) = b at this
  unfold heldI heldR
  cases fst [45] l
  · simp only [Bool.false_eq_true, if_false]
    split <;> split <;> (try split) <;> omega
  · simp only [if_true]
    split <;> split <;> (try split) <;> omega
/-- what the document makes of the pieces -/
def numR (p : Pc) : Nm := ⟨p.kind, p.neg, bareR (p.ahead ++ p.behind),
  if p.kind = 1 then heldR (expoR p.expo - p.behind.length) else if p.kind = 2 then heldR (expoR p.expo - 4 * p.behind.length) else 0, bareR p.den⟩
theorem num_same {n : Nat} {p : Pc} (h : Ok n p) (hn : n ≤ 100000000) : numOf p = numR p := by
  have e1 : strip (p.ahead ++ p.behind) = bareR (p.ahead ++ p.behind) := strip_same (by rw [List.all_append, h.ahead, h.behind]; rfl)
  have e2 : strip p.den = bareR p.den := strip_same (all_mono (fun _ => isH_of) h.den)
  have hb := h.lb
  unfold numOf numR
  rw [e1, e2, expo_same h.expo (by omega) (by omega), expo_same h.expo (by omega) (by omega)]
end Lx
end Go.Proofs.YtbbmoaipilmmdaaGreatDoor

import Derived.KernelRfl
namespace Go.Proofs.YtjnmgjcmagnkeabGreatDoor
set_option linter.unusedVariables false
namespace Lx
def isD (b : UInt8) : Bool:=decide (48 ≤ b.toNat) && decide (b.toNat ≤ 57)
def isH (b : UInt8) : Bool:=isD b || (decide (97 ≤ b.toNat) && decide (b.toNat ≤ 102)) || (decide (65 ≤ b.toNat) && decide (b.toNat ≤ 70))
abbrev B:=List UInt8
structure Pc where
 kind : Int
 neg : Bool
 ahead : B
 behind : B
 expo : B
 den : B
 stop : Nat
def Pc.zero : Pc:=⟨0,false,[],[],[],[],0⟩
def tkD (l : B) : B:=l.takeWhile isD
def dkD (l : B) : B:=l.dropWhile isD
def tkH (l : B) : B:=l.takeWhile isH
def dkH (l : B) : B:=l.dropWhile isH
def Pc.has (p : Pc) : Bool:=!p.ahead.isEmpty || !p.behind.isEmpty
def fst (cs : B) (l : B) : Bool:=match l with | c :: _ => cs.contains c | [] => false
def expoL (l : B) : B:=if fst [43,45] l then (if tkD l.tail = [] then [] else l.take 1 ++ tkD l.tail) else tkD l
inductive St where
 | start | sign | digits | point | e | slash | x | hexPoint | stop
deriving DecidableEq
def St.rank : St → Nat
 | .start => 8 | .sign => 7 | .digits => 6 | .x => 5 | .point => 4 | .hexPoint => 3 | .slash => 2 | .e => 1 | .stop => 0
def finE (rd wh : Pc) (k : Nat) (l : B) : Pc:=if expoL l = [] then wh else { rd with expo:=expoL l,stop:=k + (expoL l).length }
def finSlash (rd wh : Pc) (k : Nat) (l : B) : Pc:=if tkD l = [] then wh else { rd with kind:=3,den:=tkD l,stop:=k + (tkD l).length }
def finPoint (rd wh : Pc) (k : Nat) (l : B) : Pc :=
 let r1 : Pc:={ rd with behind:=tkD l }
 if r1.has = false then wh else
 let r2 : Pc:={ r1 with stop:=k + (tkD l).length }
 if fst [101,69] (dkD l) then finE r2 r2 (k + (tkD l).length + 1) (dkD l).tail else r2
def finHexPoint (rd wh : Pc) (k : Nat) (l : B) : Pc :=
 let r1 : Pc:={ rd with behind:=tkH l }
 if (r1.has && fst [112,80] (dkH l)) = true then finE r1 wh (k + (tkH l).length + 1) (dkH l).tail else wh
def finX (rd wh : Pc) (k : Nat) (l : B) : Pc :=
 let r1 : Pc:={ rd with kind:=2,ahead:=tkH l }
 if fst [46] (dkH l) then finHexPoint r1 wh (k + (tkH l).length + 1) (dkH l).tail
 else if (r1.has && fst [112,80] (dkH l)) = true then finE r1 wh (k + (tkH l).length + 1) (dkH l).tail else wh
def finDigits (rd wh : Pc) (k : Nat) (l : B) : Pc :=
 if fst [46] l then finPoint rd wh (k + 1) l.tail
 else if fst [101,69] l then finE rd wh (k + 1) l.tail
 else if fst [47] l then finSlash rd wh (k + 1) l.tail
 else if (decide (rd.ahead = [48]) && fst [120,88] l) = true then finX rd wh (k + 1) l.tail
 else wh
def finSign (rd wh : Pc) (k : Nat) (l : B) : Pc :=
 let r1 : Pc:={ rd with kind:=1,ahead:=tkD l }
 if r1.has then
  let r2 : Pc:={ r1 with stop:=k + (tkD l).length }
  finDigits r2 r2 (k + (tkD l).length) (dkD l)
 else if fst [46] (dkD l) then finPoint r1 wh (k + (tkD l).length + 1) (dkD l).tail
 else wh
def finStart (rd wh : Pc) (k : Nat) (l : B) : Pc :=
 if fst [45] l then finSign { rd with neg:=true } wh (k + 1) l.tail
 else if fst [43] l then finSign { rd with neg:=false } wh (k + 1) l.tail
 else finSign { rd with neg:=false } wh k l
def fin : St → Pc → Pc → Nat → B → Pc
 | .start => finStart | .sign => finSign | .digits => finDigits | .x => finX | .point => finPoint | .hexPoint => finHexPoint
 | .slash => finSlash | .e => finE | .stop => fun _ wh _ _ => wh
def longestL (l : B) : Pc:=finStart Pc.zero Pc.zero 0 l
def refE (cs : B) (p : Pc) (l : B) : Option Pc :=
 if fst cs l then (if expoL l.tail = [] then none else some { p with expo:=expoL l.tail,stop:=p.stop + 1 + (expoL l.tail).length }) else none
theorem QbD (cs : B) (c : UInt8) (l : B) : fst cs (c :: l) = cs.contains c:=rfl
theorem tk_dk (t : UInt8 → Bool) (l : B) : l.takeWhile t ++ l.dropWhile t = l:=List.takeWhile_append_dropWhile
theorem QlD (t : UInt8 → Bool) (l : B) : (l.takeWhile t).length + (l.dropWhile t).length = l.length:=by
 have:=congrArg List.length (tk_dk t l)
 rwa [List.length_append] at this
theorem QqW (t : UInt8 → Bool) (l : B) : l.drop (l.takeWhile t).length = l.dropWhile t:=by
 have:=List.drop_left (l₁:=l.takeWhile t) (l₂:=l.dropWhile t)
 rwa [tk_dk] at this
theorem QlE (t : UInt8 → Bool) (l : B) : l.take (l.takeWhile t).length = l.takeWhile t:=by
 have:=List.take_left (l₁:=l.takeWhile t) (l₂:=l.dropWhile t)
 rwa [tk_dk] at this
theorem Qgv {cs l : B} (h : fst cs l = true) : ∃ c r,l = c :: r ∧ cs.contains c = true:=by
 cases l with
 | nil => simp [fst] at h
 | cons c r => exact ⟨c,r,rfl,h⟩
theorem QlF {cs ds l : B} (h : fst cs l = true) (hd : ∀ c,cs.contains c = true → ds.contains c = false) : fst ds l = false:=by
 obtain ⟨c,r,rfl,hc⟩:=Qgv h
 exact hd c hc
theorem isEmpty_iff {l : B} : l.isEmpty = true ↔ l = []:=by cases l <;> simp
theorem QeC {p : Pc} : p.has = false ↔ p.ahead = [] ∧ p.behind = []:=by
 unfold Pc.has
 cases p.ahead <;> cases p.behind <;> simp
theorem Qjv {p : Pc} : p.has = true ↔ ¬ (p.ahead = [] ∧ p.behind = []):=by
 rw [← QeC]; cases p.has <;> simp
theorem dis (cs ds : B) (h : cs.all (fun c => !ds.contains c) = true) : ∀ c,cs.contains c = true → ds.contains c = false:=by
 intro c hc
 have:=List.all_eq_true.mp h c (by simpa using hc)
 simpa using this
end Lx
namespace Lx
structure Nm where
 kind : Int
 neg : Bool
 num : B
 exp : Int
 den : B
def lowB (b : UInt8) : UInt8:=if 65 ≤ b.toNat ∧ b.toNat ≤ 90 then UInt8.ofNat (b.toNat + 32) else b
def strip (l : B) : B:=(l.dropWhile (fun b => [48].contains b)).map lowB
def stepP (n : Int) (d : UInt8) : Int:=if n < 2147483648 then 10 * n + ((d.toNat : Int) - 48) else n
def stepR (n : Int) (d : UInt8) : Int:=if 4294967296 < n * 10 + ((d.toNat : Int) - 48) then 4294967296 else n * 10 + ((d.toNat : Int) - 48)
def expD (l : B) : B:=l.dropWhile (fun b => [43,45].contains b)
def expoN (l : B) : Int:=if fst [45] l then - (expD l).foldl stepP 0 else (expD l).foldl stepP 0
def heldI (e : Int) : Int:=if (if e < 1073741824 then e else 1073741824) < -1073741824 then -1073741824 else (if e < 1073741824 then e else 1073741824)
def numOf (p : Pc) : Nm:=⟨p.kind,p.neg,strip (p.ahead ++ p.behind),
 if p.kind = 1 then heldI (expoN p.expo - p.behind.length) else if p.kind = 2 then heldI (expoN p.expo - 4 * p.behind.length) else 0,strip p.den⟩
def ExpoOk (l : B) : Prop:=l = [] ∨ ∃ sg ds,l = sg ++ ds ∧ (sg = [] ∨ sg = [43] ∨ sg = [45]) ∧ ds ≠ [] ∧ ds.all isD = true
structure Ok (n : Nat) (p : Pc) : Prop where
 ahead : p.ahead.all isH = true
 behind : p.behind.all isH = true
 expo : ExpoOk p.expo
 den : p.den.all isD = true
 la : p.ahead.length ≤ n
 lb : p.behind.length ≤ n
 le : p.expo.length ≤ n
 ld : p.den.length ≤ n
 st : p.stop ≤ n
 kd : p.kind = 0 ∨ p.kind = 1 ∨ p.kind = 2 ∨ p.kind = 3
theorem Qqw (t : UInt8 → Bool) (l : B) : (l.takeWhile t).all t = true:=by
 induction l with
 | nil => rfl
 | cons b r ih =>
  rw [List.takeWhile_cons]
  by_cases h : t b
  ·rw [if_pos h,List.all_cons,h,ih]; rfl
  ·rw [if_neg h]; rfl
theorem Qqx {b : UInt8} (h : isD b = true) : isH b = true:=by unfold isH; rw [h]; rfl
theorem Qgw {s t : UInt8 → Bool} (h : ∀ b,s b = true → t b = true) {l : B} (hl : l.all s = true) : l.all t = true :=
 List.all_eq_true.mpr fun b hb => h b (List.all_eq_true.mp hl b hb)
theorem Qgx (l : B) : (tkD l).all isD = true:=Qqw isD l
theorem Qjw (l : B) : (tkD l).all isH = true:=Qgw (fun _ => Qqx) (Qgx l)
theorem QlG (l : B) : (tkH l).all isH = true:=Qqw isH l
theorem Qhc (l : B) : (tkD l).length + (dkD l).length = l.length:=QlD isD l
theorem Qqy (l : B) : (tkH l).length + (dkH l).length = l.length:=QlD isH l
theorem QaP {cs l : B} (h : fst cs l = true) : l.tail.length + 1 = l.length:=by
 obtain ⟨c,r,rfl,_⟩:=Qgv h; rfl
theorem QqX (l : B) : ExpoOk (expoL l):=by
 unfold expoL
 split
 ·rename_i h
  split
  ·exact Or.inl rfl
  ·rename_i hn
   obtain ⟨c,r,rfl,hc⟩:=Qgv h
   refine Or.inr ⟨[c],tkD r,rfl,?_,hn,Qgx r⟩
   have : c = 43 ∨ c = 45:=by simpa using hc
   rcases this with rfl | rfl
   ·exact Or.inr (Or.inl rfl)
   ·exact Or.inr (Or.inr rfl)
 ·by_cases hn : tkD l = []
  ·exact Or.inl hn
  ·exact Or.inr ⟨[],tkD l,rfl,Or.inl rfl,hn,Qgx l⟩
theorem QqY (l : B) : (expoL l).length ≤ l.length:=by
 unfold expoL
 split
 ·rename_i h
  split
  ·simp
  ·have h1:=QaP h
   have h2:=Qhc l.tail
   rw [List.length_append,List.length_take]; omega
 ·have:=Qhc l; omega
theorem Ok.zero (n : Nat) : Ok n Pc.zero:=⟨rfl,rfl,Or.inl rfl,rfl,Nat.zero_le _,Nat.zero_le _,Nat.zero_le _,Nat.zero_le _,Nat.zero_le _,Or.inl rfl⟩
theorem Qgy {n : Nat} {rd wh : Pc} {k : Nat} {l : B} (h1 : Ok n rd) (h2 : Ok n wh) (hk : k + l.length ≤ n) : Ok n (finE rd wh k l):=by
 unfold finE
 split
 ·exact h2
 ·have:=QqY l
  exact ⟨h1.ahead,h1.behind,QqX l,h1.den,h1.la,h1.lb,by show (expoL l).length ≤ n; omega,h1.ld,by show k + (expoL l).length ≤ n; omega,h1.kd⟩
theorem Qio {n : Nat} {rd wh : Pc} {k : Nat} {l : B} (h1 : Ok n rd) (h2 : Ok n wh) (hk : k + l.length ≤ n) : Ok n (finSlash rd wh k l):=by
 unfold finSlash
 split
 ·exact h2
 ·have:=Qhc l
  exact ⟨h1.ahead,h1.behind,h1.expo,Qgx l,h1.la,h1.lb,h1.le,by show (tkD l).length ≤ n; omega,by show k + (tkD l).length ≤ n; omega,Or.inr (Or.inr (Or.inr rfl))⟩
theorem Ok.setBehind {n : Nat} {rd : Pc} (h1 : Ok n rd) {b : B} (hb : b.all isH = true) (hl : b.length ≤ n) : Ok n { rd with behind:=b } :=
 ⟨h1.ahead,hb,h1.expo,h1.den,h1.la,hl,h1.le,h1.ld,h1.st,h1.kd⟩
theorem Ok.setStop {n : Nat} {rd : Pc} (h1 : Ok n rd) {k : Nat} (hl : k ≤ n) : Ok n { rd with stop:=k } :=
 ⟨h1.ahead,h1.behind,h1.expo,h1.den,h1.la,h1.lb,h1.le,h1.ld,hl,h1.kd⟩
theorem Ok.setAhead {n : Nat} {rd : Pc} (h1 : Ok n rd) {b : B} {k : Int} (hb : b.all isH = true) (hl : b.length ≤ n) (hk : k = 1 ∨ k = 2) : Ok n { rd with kind:=k,ahead:=b } :=
 ⟨hb,h1.behind,h1.expo,h1.den,hl,h1.lb,h1.le,h1.ld,h1.st,by rcases hk with rfl | rfl; exact Or.inr (Or.inl rfl); exact Or.inr (Or.inr (Or.inl rfl))⟩
theorem Ok.setNeg {n : Nat} {rd : Pc} (h1 : Ok n rd) (b : Bool) : Ok n { rd with neg:=b } :=
 ⟨h1.ahead,h1.behind,h1.expo,h1.den,h1.la,h1.lb,h1.le,h1.ld,h1.st,h1.kd⟩
theorem QeD {n : Nat} {rd wh : Pc} {k : Nat} {l : B} (h1 : Ok n rd) (h2 : Ok n wh) (hk : k + l.length ≤ n) : Ok n (finPoint rd wh k l):=by
 have hl:=Qhc l
 have hb:=(h1.setBehind (Qjw l) (by omega)).setStop (k:=k + (tkD l).length) (by omega)
 unfold finPoint
 simp only
 split
 ·exact h2
 ·split
  ·rename_i hf
   have:=QaP hf
   exact Qgy hb hb (by omega)
  ·exact hb
theorem Qfy {n : Nat} {rd wh : Pc} {k : Nat} {l : B} (h1 : Ok n rd) (h2 : Ok n wh) (hk : k + l.length ≤ n) : Ok n (finHexPoint rd wh k l):=by
 have hl:=Qqy l
 have hb:=(h1.setBehind (QlG l) (by omega))
 unfold finHexPoint
 simp only
 split
 ·rename_i hf
  rw [Bool.and_eq_true] at hf
  have:=QaP hf.2
  exact Qgy hb h2 (by omega)
 ·exact h2
theorem QqZ {n : Nat} {rd wh : Pc} {k : Nat} {l : B} (h1 : Ok n rd) (h2 : Ok n wh) (hk : k + l.length ≤ n) : Ok n (finX rd wh k l):=by
 have hl:=Qqy l
 have hb:=(h1.setAhead (k:=2) (QlG l) (by omega) (Or.inr rfl))
 unfold finX
 simp only
 split
 ·rename_i hf
  have:=QaP hf
  exact Qfy hb h2 (by omega)
 ·split
  ·rename_i hf
   rw [Bool.and_eq_true] at hf
   have:=QaP hf.2
   exact Qgy hb h2 (by omega)
  ·exact h2
theorem Qhd {n : Nat} {rd wh : Pc} {k : Nat} {l : B} (h1 : Ok n rd) (h2 : Ok n wh) (hk : k + l.length ≤ n) : Ok n (finDigits rd wh k l):=by
 unfold finDigits
 split
 ·rename_i hf
  have:=QaP hf
  exact QeD h1 h2 (by omega)
 ·split
  ·rename_i hf
   have:=QaP hf
   exact Qgy h1 h2 (by omega)
  ·split
   ·rename_i hf
    have:=QaP hf
    exact Qio h1 h2 (by omega)
   ·split
    ·rename_i hf
     rw [Bool.and_eq_true] at hf
     have:=QaP hf.2
     exact QqZ h1 h2 (by omega)
    ·exact h2
theorem Qdz {n : Nat} {rd wh : Pc} {k : Nat} {l : B} (h1 : Ok n rd) (h2 : Ok n wh) (hk : k + l.length ≤ n) : Ok n (finSign rd wh k l):=by
 have hl:=Qhc l
 have hb:=(h1.setAhead (k:=1) (Qjw l) (by omega) (Or.inl rfl))
 have hb2:=hb.setStop (k:=k + (tkD l).length) (by omega)
 unfold finSign
 simp only
 split
 ·exact Qhd hb2 hb2 (by omega)
 ·split
  ·rename_i hf
   have:=QaP hf
   exact QeD hb h2 (by omega)
  ·exact h2
theorem QfF (l : B) : Ok l.length (longestL l):=by
 unfold longestL finStart
 have hz:=Ok.zero l.length
 split
 ·rename_i hf
  have:=QaP hf
  exact Qdz (hz.setNeg true) hz (by omega)
 ·split
  ·rename_i hf
   have:=QaP hf
   exact Qdz (hz.setNeg false) hz (by omega)
  ·exact Qdz (hz.setNeg false) hz (by omega)
theorem QsG {t s : UInt8 → Bool} {l : B} (h : l.all t = true) : (l.dropWhile s).all t = true :=
 List.all_eq_true.mpr fun b hb => List.all_eq_true.mp h b ((List.dropWhile_suffix s).subset hb)
theorem Qhe (ds : B) (h : ds.all isD = true) : ∀ n m : Int,0 ≤ n → 0 ≤ m → n ≤ 21474836489 → m ≤ 4294967296 → ((n = m ∧ n < 2147483648) ∨ (2147483648 ≤ n ∧ 2147483648 ≤ m)) →
  0 ≤ ds.foldl stepP n ∧ ds.foldl stepP n ≤ 21474836489 ∧ 0 ≤ ds.foldl stepR m ∧ ds.foldl stepR m ≤ 4294967296 ∧ ((ds.foldl stepP n = ds.foldl stepR m ∧ ds.foldl stepP n < 2147483648) ∨ (2147483648 ≤ ds.foldl stepP n ∧ 2147483648 ≤ ds.foldl stepR m)):=by
 induction ds with
 | nil => intro n m h1 h2 h3 h4 h5; simp only [List.foldl_nil]; omega
 | cons d r ih =>
  intro n m h1 h2 h3 h4 h5
  rw [List.all_cons,Bool.and_eq_true] at h
  have hd : 48 ≤ d.toNat ∧ d.toNat ≤ 57:=by
   have:=h.1; unfold isD at this; simpa using this
  simp only [List.foldl_cons]
  have hs : 0 ≤ stepP n d ∧ 0 ≤ stepR m d ∧ stepP n d ≤ 21474836489 ∧ stepR m d ≤ 4294967296 ∧ ((stepP n d = stepR m d ∧ stepP n d < 2147483648) ∨ (2147483648 ≤ stepP n d ∧ 2147483648 ≤ stepR m d)):=by
   unfold stepP stepR
   split <;> split <;> omega
  exact ih h.2 (stepP n d) (stepR m d) hs.1 hs.2.1 hs.2.2.1 hs.2.2.2.1 hs.2.2.2.2
theorem Qq0 {t : UInt8 → Bool} {l : B} (h : ∀ c r,l = c :: r → t c = false) : l.dropWhile t = l:=by
 cases l with
 | nil => rfl
 | cons c r => rw [List.dropWhile_cons,h c r rfl]; rfl
theorem Qci {c : UInt8} (h : isD c = true) : ([43,45] : B).contains c = false ∧ ([45] : B).contains c = false ∧ c ≠ 45:=by
 unfold isD at h
 simp only [Bool.and_eq_true,decide_eq_true_eq] at h
 have h1 : c ≠ 45:=by rintro rfl; simp at h
 have h2 : c ≠ 43:=by rintro rfl; simp at h
 simp [h1,h2]
theorem Qb2 {ds : B} (h : ds.all isD = true) : expD ds = ds:=by
 apply Qq0
 rintro c r rfl
 rw [List.all_cons,Bool.and_eq_true] at h
 exact (Qci h.1).1
theorem Qb3 {ds : B} (h : ds.all isD = true) : ds.filter isD = ds:=List.filter_eq_self.mpr (List.all_eq_true.mp h)
theorem Qcj {ds : B} (h : ds.all isD = true) : ds.contains 45 = false:=by
 induction ds with
 | nil => rfl
 | cons c r ih =>
  rw [List.all_cons,Bool.and_eq_true] at h
  rw [List.contains_cons,ih h.2]
  have:=(Qci h.1).2.2
  simp [Ne.symm this]
theorem Qkt {ds : B} (h : ds.all isD = true) : fst [45] ds = false:=by
 cases ds with
 | nil => rfl
 | cons c r =>
  rw [List.all_cons,Bool.and_eq_true] at h
  exact (Qci h.1).2.1
theorem Qhf {l : B} (h : ExpoOk l) : (expD l).all isD = true ∧ l.filter isD = expD l ∧ l.contains 45 = fst [45] l:=by
 rcases h with rfl | ⟨sg,ds,rfl,hs,hn,hd⟩
 ·exact ⟨rfl,rfl,rfl⟩
 ·rcases hs with rfl | rfl | rfl
  ·rw [List.nil_append,Qb2 hd,Qb3 hd,Qcj hd,Qkt hd]
   exact ⟨hd,rfl,rfl⟩
  ·have e : expD ([43] ++ ds) = ds:=by
    unfold expD
    rw [List.singleton_append,List.dropWhile_cons]
    exact Qb2 hd
   rw [e]
   refine ⟨hd,?_,?_⟩
   ·rw [List.singleton_append,List.filter_cons]; exact Qb3 hd
   ·rw [List.singleton_append,List.contains_cons,Qcj hd]; rfl
  ·have e : expD ([45] ++ ds) = ds:=by
    unfold expD
    rw [List.singleton_append,List.dropWhile_cons]
    exact Qb2 hd
   rw [e]
   refine ⟨hd,?_,?_⟩
   ·rw [List.singleton_append,List.filter_cons]; exact Qb3 hd
   ·rw [List.singleton_append,List.contains_cons]; rfl
theorem Qku {l : B} (h : ExpoOk l) : -21474836489 ≤ expoN l ∧ expoN l ≤ 21474836489:=by
 obtain ⟨h1,h2,h3⟩:=Qhf h
 have:=Qhe (expD l) h1 0 0 (by decide) (by decide) (by decide) (by decide) (Or.inl ⟨rfl,by decide⟩)
 unfold expoN
 split <;> omega
end Lx
namespace Lx
def Stops (l : B) : Prop:=∀ c r,l = c :: r → isH c = false ∧ ([46,47,120,88] : B).contains c = false
theorem Stops.nil : Stops []:=fun c r h => by cases h
theorem Stops.cons {c : UInt8} {r : B} (h : (isH c || ([46,47,120,88] : B).contains c) = false) : Stops (c :: r):=by
 intro d q e
 cases e
 rw [Bool.or_eq_false_iff] at h
 exact h
theorem Stops.fst {l : B} (h : Stops l) {cs : B} (hc : cs.all (fun c => isH c || ([46,47,120,88] : B).contains c) = true) : fst cs l = false:=by
 cases l with
 | nil => rfl
 | cons c r =>
  rw [QbD]
  cases hh : cs.contains c with
  | false => rfl
  | true =>
   have:=List.all_eq_true.mp hc c (by simpa using hh)
   obtain ⟨h1,h2⟩:=h c r rfl
   rw [h1,h2] at this; cases this
theorem Qc1 {t : UInt8 → Bool} {h r : B} (hh : h.all t = true) (hr : ∀ c q,r = c :: q → t c = false) : (h ++ r).takeWhile t = h ∧ (h ++ r).dropWhile t = r:=by
 induction h with
 | nil =>
  rw [List.nil_append]
  cases r with
  | nil => exact ⟨rfl,rfl⟩
  | cons c q =>
   have:=hr c q rfl
   exact ⟨by rw [List.takeWhile_cons,this]; rfl,by rw [List.dropWhile_cons,this]; rfl⟩
 | cons b q ih =>
  rw [List.all_cons,Bool.and_eq_true] at hh
  obtain ⟨i1,i2⟩:=ih hh.2
  rw [List.cons_append,List.takeWhile_cons,List.dropWhile_cons,hh.1]
  exact ⟨by rw [if_pos rfl,i1],by rw [if_pos rfl,i2]⟩
theorem Stops.notD {l : B} (h : Stops l) : ∀ c q,l = c :: q → isD c = false:=by
 intro c q e
 have:=(h c q e).1
 unfold isH at this
 rw [Bool.or_eq_false_iff,Bool.or_eq_false_iff] at this
 exact this.1.1
theorem Stops.notH {l : B} (h : Stops l) : ∀ c q,l = c :: q → isH c = false:=fun c q e => (h c q e).1
theorem QlH {e r : B} (he : ExpoOk e) (hn : e ≠ []) (hr : ∀ c q,r = c :: q → isD c = false) : expoL (e ++ r) = e:=by
 rcases he with rfl | ⟨sg,ds,rfl,hs,hd,ha⟩
 ·exact absurd rfl hn
 ·have k:=(Qc1 ha hr).1
  rcases hs with rfl | rfl | rfl
  ·rw [List.nil_append]
   unfold expoL
   rw [if_neg]
   ·exact k
   ·cases ds with
    | nil => exact absurd rfl hd
    | cons c q =>
     rw [List.all_cons,Bool.and_eq_true] at ha
     rw [List.cons_append,QbD,(Qci ha.1).1]; simp
  ·unfold expoL
   rw [if_pos (by rfl)]
   show (if tkD (ds ++ r) = [] then [] else [43] ++ tkD (ds ++ r)) = _
   rw [show tkD (ds ++ r) = ds from k,if_neg hd]
  ·unfold expoL
   rw [if_pos (by rfl)]
   show (if tkD (ds ++ r) = [] then [] else [45] ++ tkD (ds ++ r)) = _
   rw [show tkD (ds ++ r) = ds from k,if_neg hd]
theorem QdA {sg l : B} (hs : sg = [] ∨ sg = [43] ∨ sg = [45]) (hl : sg = [] → fst [43,45] l = false) :
  longestL (sg ++ l) = finSign ⟨0,decide (sg = [45]),[],[],[],[],0⟩ Pc.zero sg.length l:=by
 unfold longestL finStart
 rcases hs with rfl | rfl | rfl
 ·have:=hl rfl
  rw [List.nil_append]
  have h1 : fst [45] l = false:=by
   cases l with
   | nil => rfl
   | cons c r => rw [QbD] at this ⊢; simp at this ⊢; first | exact this.2 | exact this.1
  have h2 : fst [43] l = false:=by
   cases l with
   | nil => rfl
   | cons c r => rw [QbD] at this ⊢; simp at this ⊢; first | exact this.2 | exact this.1
  rw [h1,h2]
  rfl
 ·rfl
 ·rfl
def ExpW (cs : B) (ex : B) : Prop:=ex = [] ∨ ∃ c e,ex = c :: e ∧ cs.contains c = true ∧ e ≠ [] ∧ ExpoOk e
theorem Qhg {cs : B} {c : UInt8} {l : B} (h : cs.contains c = true) : fst cs (c :: l) = true:=h
theorem Qgz {rd wh : Pc} {k : Nat} {e r : B} (he : ExpoOk e) (hn : e ≠ []) (hr : ∀ c q,r = c :: q → isD c = false) : finE rd wh k (e ++ r) = { rd with expo:=e,stop:=k + e.length }:=by
 unfold finE
 rw [QlH he hn hr,if_neg hn]
theorem QlI {rd : Pc} {k : Nat} {ex r : B} (hx : ExpW [101,69] ex) (hr : Stops r) (h0 : rd.expo = []) (hk : rd.stop = k) :
  (if fst [101,69] (ex ++ r) = true then finE rd rd (k + 1) (ex ++ r).tail else rd) = { rd with expo:=ex.tail,stop:=k + ex.length }:=by
 rcases hx with rfl | ⟨c,e,rfl,hc,hn,he⟩
 ·rw [List.nil_append,hr.fst (by decide)]
  simp only [Bool.false_eq_true,if_false,List.tail_nil,List.length_nil,Nat.add_zero]
  cases rd
  simp only at h0 hk
  subst h0; subst hk
  rfl
 ·rw [List.cons_append,if_pos (Qhg hc)]
  rw [List.tail_cons,Qgz he hn hr.notD,List.tail_cons,List.length_cons]
  have : k + 1 + e.length = k + (e.length + 1):=by omega
  rw [this]
theorem Qq1 {cs ex r : B} (hx : ExpW cs ex) (hc : cs.all (fun c => !isD c) = true) (hr : Stops r) : ∀ c q,ex ++ r = c :: q → isD c = false:=by
 intro c q e
 rcases hx with rfl | ⟨d,f,rfl,hd,_,_⟩
 ·exact hr.notD c q e
 ·cases e
  have:=List.all_eq_true.mp hc c (by simpa using hd)
  simpa using this
theorem Qq2 {cs ex r : B} (hx : ExpW cs ex) (hc : cs.all (fun c => !isH c) = true) (hr : Stops r) : ∀ c q,ex ++ r = c :: q → isH c = false:=by
 intro c q e
 rcases hx with rfl | ⟨d,f,rfl,hd,_,_⟩
 ·exact hr.notH c q e
 ·cases e
  have:=List.all_eq_true.mp hc c (by simpa using hd)
  simpa using this
theorem QbQ {l : B} (h : l ≠ []) : l.isEmpty = false:=by cases l with | nil => exact absurd rfl h | cons _ _ => rfl
theorem QlJ {cs h r : B} (hn : h ≠ []) (hh : h.all (fun c => !cs.contains c) = true) : fst cs (h ++ r) = false:=by
 cases h with
 | nil => exact absurd rfl hn
 | cons c q =>
  rw [List.all_cons,Bool.and_eq_true] at hh
  rw [List.cons_append,QbD]; simpa using hh.1
theorem QfG {h : B} (hh : h.all isD = true) : h.all (fun c => !([43,45] : B).contains c) = true :=
 Qgw (fun b hb => by rw [(Qci hb).1]; rfl) hh
theorem Qip {sg head tail ex rest : B} {pt : Bool} (hs : sg = [] ∨ sg = [43] ∨ sg = [45]) (hh : head.all isD = true) (ht : tail.all isD = true)
  (hne : ¬ (head = [] ∧ tail = [])) (hpt : pt = false → tail = []) (hx : ExpW [101,69] ex) (hr : Stops rest) :
  longestL (sg ++ (head ++ ((if pt then 46 :: tail else []) ++ (ex ++ rest)))) =
   ⟨1,decide (sg = [45]),head,tail,ex.tail,[],sg.length + head.length + (if pt then 1 + tail.length else 0) + ex.length⟩:=by
 have hxd:=Qq1 hx (by decide) hr
 have hx46 : ∀ {l},l = ex ++ rest → fst [46] l = false:=by
  rintro l rfl
  rcases hx with rfl | ⟨c,e,rfl,hc,_,_⟩
  ·exact hr.fst (by decide)
  ·exact QlF (Qhg (l:=e ++ rest) hc) (dis [101,69] [46] rfl)
 cases pt with
 | false =>
  have ht0:=hpt rfl
  subst ht0
  have hhn : head ≠ []:=fun h => hne ⟨h,rfl⟩
  simp only [Bool.false_eq_true,if_false,List.nil_append,Nat.add_zero]
  rw [QdA hs (fun _ => QlJ hhn (QfG hh))]
  obtain ⟨k1,k2⟩:=Qc1 hh hxd
  have k1' : tkD (head ++ (ex ++ rest)) = head:=k1
  have k2' : dkD (head ++ (ex ++ rest)) = ex ++ rest:=k2
  unfold finSign
  simp only [k1',k2',Pc.has,QbQ hhn,Bool.not_false,Bool.true_or,if_true]
  unfold finDigits
  rw [hx46 rfl]
  simp only [Bool.false_eq_true,if_false]
  have:=QlI (rd:=⟨1,decide (sg = [45]),head,[],[],[],sg.length + head.length⟩) (k:=sg.length + head.length) hx hr rfl rfl
  rcases hx with rfl | ⟨c,e,rfl,hc,hn,he⟩
  ·rw [List.nil_append,hr.fst (by decide),hr.fst (by decide),hr.fst (by decide)]
   simp
  ·rw [List.cons_append,if_pos (Qhg hc)] at this ⊢
   exact this
 | true =>
  simp only [if_true]
  have e1 : (head ++ (46 :: tail ++ (ex ++ rest))) = head ++ (46 :: (tail ++ (ex ++ rest))):=rfl
  rw [e1]
  have hf : sg = [] → fst [43,45] (head ++ (46 :: (tail ++ (ex ++ rest)))) = false:=by
   intro _
   by_cases hhn : head = []
   ·subst hhn; rfl
   ·exact QlJ hhn (QfG hh)
  rw [QdA hs hf]
  obtain ⟨k1,k2⟩:=Qc1 (r:=46 :: (tail ++ (ex ++ rest))) hh (by rintro c q e; cases e; rfl)
  have k1' : tkD (head ++ (46 :: (tail ++ (ex ++ rest)))) = head:=k1
  have k2' : dkD (head ++ (46 :: (tail ++ (ex ++ rest)))) = 46 :: (tail ++ (ex ++ rest)):=k2
  obtain ⟨m1,m2⟩:=Qc1 ht hxd
  have m1' : tkD (tail ++ (ex ++ rest)) = tail:=m1
  have m2' : dkD (tail ++ (ex ++ rest)) = ex ++ rest:=m2
  have hpnt : ∀ (st : Nat) (wh : Pc),finPoint ⟨1,decide (sg = [45]),head,[],[],[],st⟩ wh (sg.length + head.length + 1) (tail ++ (ex ++ rest)) =
    ⟨1,decide (sg = [45]),head,tail,ex.tail,[],sg.length + head.length + (1 + tail.length) + ex.length⟩:=by
   intro st wh
   unfold finPoint
   simp only [m1',m2']
   rw [if_neg]
   ·have:=QlI (rd:=⟨1,decide (sg = [45]),head,tail,[],[],sg.length + head.length + 1 + tail.length⟩) (k:=sg.length + head.length + 1 + tail.length) hx hr rfl rfl
    rw [this]
    have : sg.length + head.length + 1 + tail.length + ex.length = sg.length + head.length + (1 + tail.length) + ex.length:=by omega
    rw [this]
   ·rw [QeC]; exact hne
  unfold finSign
  simp only [k1',k2']
  by_cases hhn : head = []
  ·have h0 : (⟨1,decide (sg = [45]),head,[],[],[],0⟩ : Pc).has = false:=QeC.mpr ⟨hhn,rfl⟩
   rw [h0]
   simp only [Bool.false_eq_true,if_false,List.tail_cons]
   rw [if_pos (show fst [46] (46 :: (tail ++ (ex ++ rest))) = true from rfl)]
   exact hpnt _ _
  ·have h0 : (⟨1,decide (sg = [45]),head,[],[],[],0⟩ : Pc).has = true:=Qjv.mpr (fun h => hhn h.1)
   rw [h0]
   simp only [if_true]
   unfold finDigits
   rw [if_pos (by rfl)]
   exact hpnt _ _
theorem QeE {sg head tail ex rest : B} {pt : Bool} {x : UInt8} (hs : sg = [] ∨ sg = [43] ∨ sg = [45]) (hX : x = 120 ∨ x = 88) (hh : head.all isH = true) (ht : tail.all isH = true)
  (hne : ¬ (head = [] ∧ tail = [])) (hpt : pt = false → tail = []) (hx : ExpW [112,80] ex) (hx0 : ex ≠ []) (hr : Stops rest) :
  longestL (sg ++ (48 :: x :: (head ++ ((if pt then 46 :: tail else []) ++ (ex ++ rest))))) =
   ⟨2,decide (sg = [45]),head,tail,ex.tail,[],sg.length + 2 + head.length + (if pt then 1 + tail.length else 0) + ex.length⟩:=by
 have hxd:=Qq2 hx (by decide) hr
 obtain ⟨c,e,rfl,hc,hn,he⟩:=hx.resolve_left hx0
 have hx46 : fst [46] (c :: e ++ rest) = false:=QlF (Qhg (l:=e ++ rest) hc) (dis [112,80] [46] rfl)
 have hxp : fst [112,80] (c :: e ++ rest) = true:=Qhg hc
 rw [QdA hs (fun _ => rfl)]
 have hxd2 : isD x = false:=by rcases hX with rfl | rfl <;> rfl
 generalize hL : head ++ ((if pt then 46 :: tail else []) ++ (c :: e ++ rest)) = L
 have k1' : tkD (48 :: x :: L) = [48]:=(Qc1 (h:=[48]) (r:=x :: L) (by rfl) (by rintro d q e; cases e; exact hxd2)).1
 have k2' : dkD (48 :: x :: L) = x :: L:=(Qc1 (h:=[48]) (r:=x :: L) (by rfl) (by rintro d q e; cases e; exact hxd2)).2
 have hfx : ∀ (cs : B),cs.contains (120 : UInt8) = false → cs.contains (88 : UInt8) = false → fst cs (x :: L) = false:=by
  intro cs h1 h2; rw [QbD]; rcases hX with rfl | rfl <;> assumption
 have hfx2 : fst [120,88] (x :: L) = true:=by rw [QbD]; rcases hX with rfl | rfl <;> rfl
 unfold finSign
 simp only [k1',k2',Pc.has,List.isEmpty_cons,Bool.not_false,Bool.true_or,if_true]
 unfold finDigits
 rw [hfx [46] rfl rfl,hfx [101,69] rfl rfl,hfx [47] rfl rfl]
 simp only [Bool.false_eq_true,if_false,hfx2,decide_true,Bool.and_self,if_true,List.tail_cons,List.length_singleton]
 subst hL
 unfold finX
 cases pt with
 | false =>
  have ht0:=hpt rfl
  subst ht0
  have hhn : head ≠ []:=fun h => hne ⟨h,rfl⟩
  simp only [Bool.false_eq_true,if_false,List.nil_append,Nat.add_zero]
  obtain ⟨m1,m2⟩:=Qc1 hh hxd
  have m1' : tkH (head ++ (c :: e ++ rest)) = head:=m1
  have m2' : dkH (head ++ (c :: e ++ rest)) = c :: e ++ rest:=m2
  rw [m1',m2',hx46,hxp]
  simp only [Bool.false_eq_true,if_false,Pc.has,QbQ hhn,Bool.not_false,Bool.true_or,Bool.and_self,if_true]
  show finE _ _ _ (e ++ rest) = _
  rw [Qgz he hn hr.notD]
  simp only [List.length_cons]
  have : sg.length + 1 + 1 + head.length + 1 + e.length = sg.length + 2 + head.length + (e.length + 1):=by omega
  rw [this]
 | true =>
  simp only [if_true]
  obtain ⟨k1,k2⟩:=Qc1 (h:=head) (r:=46 :: (tail ++ (c :: e ++ rest))) hh (by rintro c q e; cases e; rfl)
  have k1' : tkH (head ++ (46 :: tail ++ (c :: e ++ rest))) = head:=k1
  have k2' : dkH (head ++ (46 :: tail ++ (c :: e ++ rest))) = 46 :: (tail ++ (c :: e ++ rest)):=k2
  obtain ⟨m1,m2⟩:=Qc1 ht hxd
  have m1' : tkH (tail ++ (c :: e ++ rest)) = tail:=m1
  have m2' : dkH (tail ++ (c :: e ++ rest)) = c :: e ++ rest:=m2
  rw [k1',k2',if_pos (by rfl),List.tail_cons]
  unfold finHexPoint
  simp only [m1',m2',hxp,Bool.and_true]
  have h0 : (⟨2,decide (sg = [45]),head,tail,[],[],sg.length + 1⟩ : Pc).has = true:=Qjv.mpr hne
  rw [h0]
  simp only [if_true]
  show finE _ _ _ (e ++ rest) = _
  rw [Qgz he hn hr.notD]
  simp only [List.length_cons]
  have : sg.length + 1 + 1 + head.length + 1 + tail.length + 1 + e.length = sg.length + 2 + head.length + (1 + tail.length) + (e.length + 1):=by omega
  rw [this]
end Lx
namespace Ry
def ryB (n : Nat) : Nat:=Nat.log2 (5 ^ n) + 1
def ryU (i : Nat) : Nat:=if 348 ≤ i then (if ryB (i - 348) ≤ 128 then 5 ^ (i - 348) * 2 ^ (128 - ryB (i - 348)) else 5 ^ (i - 348) / 2 ^ (ryB (i - 348) - 128)) else 2 ^ (ryB (348 - i) + 127) / 5 ^ (348 - i)
def ryX (i : Nat) : Nat:=if 348 ≤ i then ryB (i - 348) + 872 else 873 - ryB (348 - i)
def ryW (i : Nat) : Bool:=Nat.ble 348 i && Nat.ble i 403
def ryK (i : Nat) : Nat:=(i * 315653 + 800912) / 1048576
def ryT (i : Nat) : Nat:=ryK (i + 124) + 37
def ryN (i : Nat) : Nat:=2 ^ (i - (ryT i + 676)) * 5 ^ (400 - ryT i)
def ryD (i : Nat) : Nat:=2 ^ (ryT i + 676 - i) * 5 ^ (ryT i - 400)
def ryV (i : Nat) : Nat:=if ryW (748 - ryT i) = true then ryU (748 - ryT i) else ryU (748 - ryT i) + 1
def ryS (i : Nat) : Nat:=ryT i + 1676 - i - ryX (748 - ryT i)
def ryF : List Nat:=[
0x13e83904bd93a2774d1ab1a146cb27d072097b2744774d1ab1a146cb4fa0e412f64e88774d1ab1a146cb0fecfa6a3142e8774d1ab1a146cb1fd9f4d46285d0676020477003e33fb3e9a8c50ba047862b730d7e137f67d3518a174007d241ca4872737f67d3518a17400190738edb4a177dd75fc2aecd290320e71db6942e7dd75fc2aecd290641ce3b6d285c5082ab3df3682f6d6ed3bbbe43085082ab3df3682f39d850fb95b5b25082ab3df3682f73b0a1f72b6b645082ab3df3682f77c021155ff8e679c7e0a47a3fa7273d75d76c90b77dd75fc2aecd29273d75d76c90b730b659db64197657f3cfb2d0aa2d616cb3b6c832ec57f3cfb2d0aa2d0978e403f788bf7712474dd41fe00978e403f788bf7c79de6c0dd6cc,
0x1323a6c3e60c3977f9cdc95b975a26474d87cc187264d62705758b214c8e9b0f9830e464d62705758b214c8e9b0f9830e44219fe70d93929570337ae57289f4219fe70d939296bec70ebd518154219fe70d9392953a4e4f5f7bdd84219fe70d93929459c2c8b78ed4c4219fe70d93929491e5aa618a16f4219fe70d93929491e5aa618a16f3b15a23b99d0e30e9fabbad1b9e375945126e0b86f0e9fabbad1b9e3762b447733a1c61d3f5775a373c6678b98bc61e7e3495abbf96cfec57576207d3689c4495abbf96cfec55836c9079315fe74fd5dd68dcf180edc0d0e261739731a533beae4680edc0d0e26173972652a25d9f96340a09b9a00084e31c48e8bd9f1154f7ca8a8261f8763891d17b3e22a4f7ca8a8261f87,
0x119710dc5819117c6ccd9daf4d46119710dc5819117db82534f5eb15119710dc5819116eb7c3872b0da2119710dc581911719cb1fb391eac232e21b8b032226005a11ee1059b465c43716064443cd77f6630d3790984c40b2f90cb79aefecc61a6f2727af984708a2f1a3d8d5e503e597bffbd8fa01afa1a3d8d5e503e5974cbb847aefe371a3d8d5e503e596b541c6f56fa5b1a3d8d5e503e596b541c6f56fa5b347b1abca07cb236d901b2b67da968f6357940f96434f448edd8167d68f6357940f96434f448edd8167d6803d916d1c5ce69e891dbb02cfa330f9028f9af5136d901b2b67da9661f2051f35ea25fb241d37e3d1d741ee1e3e21cd75fb241d37e3d1d28d94020c7bf745fb241d37e3d1d51b280418f7ee8,
0x34c9433f6359556ed326b2bd218b34c9433f6359557413c6e6b3906c34c9433f6359557e95074ea06e2e34c9433f6359557854e0e839506f6992867ec6b2aa7854e0e839506f5ad02c155414e57854e0e839506f5ad02c155414e53b0969a5ca771478c87d3ac0974a1df851256c82655ad02c155414e53bf0a24ad904ca1edf89ca7b101b77e14495b2099460a0642f00790836206a312ca0a72a7ff9fdd3d8616c40d46259414e54fff3fba7b0c241c0da648568ed10fffd98bb235a74c0d32eb6d2fb21fffb317646b463c0d595fbafa143fff662ec8d6863c0d595fbafa1683f0d92c9f8971fc0df330f22397fda1023505d2f27e6bbd597dfda57f3544db87d554fcd77ab2fbfb457f3544db87d5547a79b08a70213,
0x5beebffbd8a013396e99d9c68fab5beebffbd8a01372dd33b38d1f56731224d093c25d16ee73b7b47f43202fcf3fff59c7777de177b28c98405f9e7ffeb38e574e1237b332d169d0c94848e7d916ee73b7b47f4377e7c3b1bfd2a616ee73b7b47f433cabe0497a5c26539a54012edb697957c092f4b84c539a54012edb694b7ad9238bb9c6539a54012edb693089803ac849b8539a54012edb6961130075909370539a54012edb696e8bace9f24b77539a54012edb69161bef61fd424b7fd232c5295fff161bef61fd424b7afcc93e63323c2c37dec3fa849664e0d9dc65eff1586fbd87f5092c38a8fb186b6b5b7574af41a1ed471d04f1b9ace41b76d5979c904a221d04f1b9ace41b59d0a5e2e366073a09e37359c836,
0x86cdc140cc8037ac4472ad5b7ae086cdc140cc8037f94853cf87f3210d9b8281990067727a928ebb72f21b3705033200c664df100d2272921b3705033200c79904df0c367f94366e0a066401879904df0c367f90d3d735009183779904df0c367f95387be36e2eb5b33460309e994d55387be36e2eb5b668c0613d329aa5387be36e2eb5b79904df0c367f962be5e1ad650676a59ae0cd002ed62be5e1ad6506771f4fdfec9b57362be5e1ad650671e6d3fc7e6ca1844511e52ef864f3cda7f8fcd9430277f58d788ecf659ac450b342d894efeb1af11d9ec322cec33ab40931cd1c57b6699596459d867568126648ec9845d242d396e99d9c68fab56405f552d2904396e99d9c68fab731224d093c25d396e99d9c68fab,
0x5327dcaa42b5822e92963e0b080d2495466c37ad755d252c7c16101a2495466c37ad75711fcc1fbcc54a492a8cd86f5aea4c8a85b38517d567c85bed0afe0c7717437758cf9d73b74a9c4312b20f4ee78a4dd1917c464070656a6d0f4ee78a4dd1914ff6e8085fa1535f45cf92ad72e44ff6e8085fa1536e94b71cfb4475315918f3c3fe316e94b71cfb447573b2539ec12744161dbe38ff0db15d949565c219932c3b7c71fe1b62315918f3c3fe315876f8e3fc36c4315918f3c3fe317f94d8d4346f5740fea5ba40e19f50a43280bdc50d315918f3c3fe3150a43280bdc50d315918f3c3fe316fef4c0db78be92a204c643fe80f7728189d3ba20b2a204c643fe80f6fef4c0db78be92a204c643fe80f617db2eeaf5fa5,
0x52bc1542dd0cca4555f2088e264b0d66233a4ee67f7d45c0d6cd66170d66233a4ee67f748e216685cb380d66233a4ee67f7deb28fa946278719df0b2f3382b6437cd78a451ac719df0b2f3382b56d1aa3e556b2d35988ce93b99fc56d1aa3e556b2d2d726047947cde56d1aa3e556b2d5ae4c08f28f9bc295f49f6c0ee4f31857698680b6d52be93ed81dc9e245b80394397185fe88a4ca650f348b70072872e305fe88a4ca650f37a3c770aef399d173189da1f22c37a3c770aef399d2e6313b43e45866b10fcc6656f325be58281dba4c77a3c770aef399d5be58281dba4c77a3c770aef399d3d8e8df8c80ff155a7309eb78c283111ea327fdeb32495466c37ad756223d464ffbd662495466c37ad757b1d1bf1901fe2,
0x369d0243f5bb1351f0354a5c22776d3a0487eb762651f0354a5c227736939e7b1ea75e51f0354a5c22776d273cf63d4ebc51f0354a5c227746fe5f5ddd246d51f0354a5c227746fe5f5ddd246d5ce20b36db2081311ab384df28595ce20b36db2081429da365aa58694b5f1b560ff07139dc2b7544c0614b5f1b560ff07139dc2b7544c0615ce20b36db208166048fe520e09b30b9a6c6ff00476a95d23c43c0a830b9a6c6ff004773b856ea8980c230b9a6c6ff004742feb0238a807b61734d8dfe008e6ed970c84ce70d61734d8dfe008e0d66233a4ee67f7fe7eaf87180a10d66233a4ee67f79d275a9ce004c60b808f66cdcbd5351e5bc1df63e0d66233a4ee67f7e7161c94f38ff0d66233a4ee67f76e5634b897108,
0x5551abf361240d2e5fe6e7c81cfb7c4370fefa2b1f2e5fe6e7c81cfb6d672d469bff4d2e5fe6e7c81cfb6d672d469bff4d5cbfcdcf9039f64d87b7bddc22a35cbfcdcf9039f67c9f43585016a00f381611b417537f7dd622ff72a80f381611b417534111643507539350497a46bb6ae6411164350753935f8190586f8239411164350753937df1bc7bd7b0df411164350753937448b1fc9bcb944eeb7aa27a2f2533374dc79478016a9fa77d5fe64933374dc79478016ed0b36b96dc9033374dc79478015ddd90c687a0eb33374dc7947801554c85fde651d433374dc79478012215383651d9d3666e9b8f28f002666537c651dc4d44469bc728eec5443d37fe51db1044469bc728eec57ff801f9b9da18000963c8d713b5,
0x77030525de60b976b216bc8ae18076d27619df7aca76c2466b352e2576e2a5c889c76f76c2466b352e2577030525de60b976c2466b352e2577030525de60b917c0747bd76fa17743c3e087934d17c0747bd76fa177c54155d9f87517c0747bd76fa168b5cc4fd4e06e17c0747bd76fa17269c6b04c025817c0747bd76fa16e1146f562d68b17c0747bd76fa16e1146f562d68b2f80e8f7aedf427e85751ec7afad2f80e8f7aedf427e85751ec7afad5f01d1ef5dbe841f83a32f69f1297efc5d7fe79ab6524efbc8f9c8a56bb4a815c1b463524efbc8f9c8a532cb58998fd77c1f83a32f69f1296596b1331faef820ec64b6ca5042642defabbf4fdf41d8c96d94a084642defabbf4fdf1f83a32f69f129642defabbf4fdf,
0x79a09520dc6c753c2ddcbac19e8e6c93860c07f3ab3c2ddcbac19e8e6c93860c07f3ab785bb975833d1c6c93860c07f3ab179066d2f692e25b92e633d146b64a92465b9a99c111009fd836acf573234d06c7d99811009fd836acf56f423b2410f87d5375e4de61d38b427545062b269611009fd836acf573e9ea341fa03722013fb06d59ea73e9ea341fa03744027f60dab3d473e9ea341fa0377260104280f3ea172ec870d3200b5b3147d1add3df2e5d90e1a640162cd3b6f00793c95cbb21c34c802c77030525de60b9128bd38d75b33c77030525de60b92517a71aeb667877030525de60b94a2f4e35d6ccf077030525de60b90ed642d7915c3077030525de60b91dac85af22b86077030525de60b93b590b5e4570c0,
0x5db74b6b26e03d5ae092fc7e50116fe4359da689da122cea327fa99d72baee0c4f1a06122cea327fa99d78685ee9a03a5e122cea327fa99d59835e17b86e486bb0484a3817e57c7ffd97f1dfb9122cea327fa99d79c593ce661c27122cea327fa99d4ee175c0c69c12610e5ff34645af3cb48b8e46f275610e5ff34645af7969171c8de4ea610e5ff34645af185ab729479f3b790c9a6ab5adad30906fa5058ec4795697c5c90d116120df4a0b1d88795697c5c90d1179a09520dc6c751835b87bbdef895c3a87b8ae0dbf3a38201a35fea42202679e780f1b747040346bfd484404cf3cf01e36526dd895f3ee2d621bbd9a50ed7d1e16ee5d60cf4769f2b01c7f6d251e16ee5d60cf4779a09520dc6c751e16ee5d60cf47,
0x7a11905dad2b2b0a148d0d737c122c9303c73ccd93633a949bed17382c9303c73ccd936d4f21a960934a2c9303c73ccd9354e537fd0abddb08ea33f4a5c2b7788e07cfa1c8b708ea33f4a5c2b77d376c32d8ae2311d467e94b856e7d376c32d8ae2311d467e94b856e6ea03b9d2f701723a8cfd2970adc5ccbd3b3e3eaa947519fa52e15b85ccbd3b3e3eaa979290b3ba6567f157a340eb5d4f134c2754e00806359e0c9fc5bab0d34c2754e0080637eff1eaab6d5b76984ea9c0100c67eff1eaab6d5b72e80cea7be5e197eff1eaab6d5b72e80cea7be5e19727bd15e3291232e80cea7be5e19597536c52a07fb2e80cea7be5e195c4bef33d298275d019d4f7cbc325c4bef33d298275db74b6b26e03d5c4bef33d29827,
0x59fe005069da3274b80ef57a6d476a073c4d0d65a56f5fa5a143e9767e87e356b28e3a055869543683d1792f7a027c0a690ab0d2a86d07a227343f52b1732b5919514dcfedf84e687ea562e65631e511fb1e7acd1c836caa446b8963ca23f63cf59a19a91cece6ad077d7340e323a2a119a91cece6ad077a98f125c5e41f335239d9cd5a0e7a98f125c5e41f66a473b39ab41c4746b74bf88a1166a473b39ab41c605e81387a454d6cea662ebb22eb605e81387a454d6cea662ebb22eb53d29c423967af7dae1f08c69e0e10c3b8da0b7b236cea662ebb22eb218771b416f6466cea662ebb22eb430ee3682dec8c38fa565aba707a76fef33c2e9efd71f4acb574e0f476fef33c2e9efd7f1bd6e466e934050a4686b9be09,
0x396228bc6f29216df2755d7d6800396228bc6f29214f5f7368bb7121396228bc6f2921655cbe1507b92172c45178de5242655cbe1507b9212b39cfe92e0247655cbe1507b9212b39cfe92e02477445dc57b36db456739fd25c048e490c0c6e856b6d63db3336329daf490c0c6e856b6d13f8a3d7a3b92370fd541dccddb313f8a3d7a3b9237e1f7505671db713f8a3d7a3b92370726f25542b797e5703cf30fe9b6a5e5ff78d45787e5703cf30fe9b5665bc1fe98c554fe28f5e8ee48c5665bc1fe98c55328934b946cc3e5665bc1fe98c55651269728d987c23dc8766a2c0175e8f3cb132f0b323dc8766a2c01775656a9520613823dc8766a2c01750db878ed7ad3074b80ef57a6d472cff002834ed1974b80ef57a6d47,
0x63c77059360cc223ce7587b35cad4d3f05b7c363a2710d7b3f76c04f76af95e7d36a9723ce7587b35cad76af95e7d36a97479ceb0f66b95a260f4cfe3ed3fd6dac380da58d574c1e99fc7da7fa6dac380da58d572a90fbeb55c29d6dac380da58d572a90fbeb55c29d5ba57c5949d2d74568ad92a8e08160405f39fbfe654568ad92a8e0817b1810e14f1c494568ad92a8e0816b5ec69d4c77904568ad92a8e0815ae2087eeb5ed14568ad92a8e081705b636b2ddd211a75f7ba23e3e1705b636b2ddd213cd1bc675b14614dff9ebdf6aca179a378ceb628c24dff9ebdf6aca12ba3da10bf7c21705b636b2ddd215747b4217ef842705b636b2ddd21396228bc6f292154dec613ce8321396228bc6f2921705b636b2ddd21,
0x35168ab759474e501315009f4c156a5a6434231bdc1aa1ecbe64ea474fb87775be31953543d97cc9d48e1a749df8f45d076a87b2f993a91c55151cf6827cb02fe733fc0589737a4305f0ff6fed2fe733fc05897364d06fedee43812fe733fc05897369d277e3d1741c2fe733fc058973583a93f4cb3e0d2fe733fc058973583a93f4cb3e0d5fce67f80b12e6583a93f4cb3e0d67623bfb4ae7bf11a550ca8f0c6979078cc5d9f428234aa1951e18d267623bfb4ae7bf4695432a3c31a444179a662cceed7e0d9bca6631de1bbc2c5015001d62516f7a5131c1377858a02a003a2ad916da2731876ef0b1405400742ad916da2731875d561df2326c53727601e98deae123ce7587b35cad7980a33c01bfbb23ce7587b35cad,
0x2120d09ebfd32f6429c8503109a306a029b95990a37eaa6f35974c2f06a029b95990a37f71c5a988dc4506a029b95990a37a6048d8126bce06a029b95990a37d2f5592eeac0a06a029b95990a37c7b9264379bfb06a029b95990a37b140c06c97bdd06a029b95990a37ee5290546cc4406a029b95990a37b703e8508857a06a029b95990a37f9d8e01c4df7e0d405372b3214678fd64486b4edb5d1ac5fc85bccb4fda7289d29b856a5b196f38de114fda7289d29b8535014dcacc85184fda7289d29b856a6ccc3458d53e4fda7289d29b853524b3550c73724fda7289d29b856a4966aa18e6e44fda7289d29b8534dde8408c96be4fda7289d29b856a65b7e57f3f2c4fda7289d29b851a8b455baca3a76a9e5a5c4befbc,
0x28c9b01e477a0572763c0bea47330828566c74b2017a9e92785ef9341050acd8e9640272763c0bea473320a159b1d2c80472763c0bea47336884ecab3f848223f1c97cb65e3f65347ce05bee4723f1c97cb65e3f65347ce05bee4747e392f96cbc7e1d50e9e6ef31c972763c0bea4733739533df0b472d1cc16dfd5eb1cc739533df0b472d3982dbfabd63983a1257e44de3957305b7f57ac7307edc618090f4b350a0b327593ea17edc618090f4b3226504ce21888f7edc618090f4b344ca099c43111e7edc618090f4b340808f52adcbb43e5bd22de328ff42a54c77786e697cb7a45bc651fe42a54c77786e697424afc89bc72a42a54c77786e6931e30e8b1c20cc74885b02948f3563c61d1638419842a54c77786e69,
0x32275bec7dd9eb551f154525842b472264bb48d9ab4e20bd00372eeb472264bb48d9ab551f154525842b3925b4316c2f2b551f154525842b3925b4316c2f2b71187658ded92b6662b054f886097d012e66beb1786662b054f886092d3cfc238c56de3925b4316c2f2b5a79f84718adbc5d567de7760e436f6ee2c27afdcf4b3e190c711eb76f6ee2c27afdcf4b3e190c711eb74861936c13be300f0c6b68e36c8b7586d5a6be03d10f0c6b68e36c8b72aa500660a34a0f0c6b68e36c8b7bfdb02e894ec71e18d6d1c6d9167bfdb02e894ec71e18d6d1c6d9167f20ca6c25f1d93c31ada38db22c6107f39a5f18c378635b471b645824d645f6d166977669a633605aa126cffb0a8c704e7669a633605aa14d9ff61518e09c,
0x24490c75f32a977afd0b84d332386e14135f3eaf1f1899024dc3d6d86e14135f3eaf1f3132049b87adb03ce20ec3b7016f626409370f5b6079c41d876e02de2581fa735859f1185a6c4e4933c66e913f5e33f54330b4d89c92678c5636d30feac17d6169b13924cf185636d30feac17d5ab192539b93bb587432b1c32a9c5ab192539b93bb5636d30feac17d5f2c51974c65f95636d30feac17d24470754a4a17e7a7dda648f62fb488e0ea94942fc5636d30feac17d3ae54a42a7c47b5636d30feac17d3ae54a42a7c47b71885bdd2dbe7f45d2b42e5c29af50c01e1a108ee33ae54a42a7c47b50c01e1a108ee33ae54a42a7c47b669af1f179594b43a33898d1af0b4c6126eefb999b43a33898d1af0b551f154525842b,
0x30e398972921555ee30c5fcda97e1cc15431648ef77ba460913238751cc15431648ef767821c2b6da6173982a862c91dee67821c2b6da617730550c5923bdc67821c2b6da617730550c5923bdc70b7dfd9f1511b7552c1b133269d70b7dfd9f1511b7552c1b133269d6c1cfe02af7b991776f389d707b96c1cfe02af7b992eede713ae0f726c1cfe02af7b995ddbce275c1ee43d2f16ef016c275752dcb5b0618b50c9eb4404a4325752dcb5b0618b4a40f9d258e6d95752dcb5b0618b3d2f16ef016c275752dcb5b0618b7a5e2dde02d84e5752dcb5b0618b4cde273303ff6361c792385cc3b34cde273303ff6361c792385cc3b337f4bc2dab3b1361c792385cc3b31ebf42e134cc8e61c792385cc3b33d7e85c269991c,
0x3b5d0ce5fee7087a0ecaf82808e73b5d0ce5fee70853c668b13a1c0376ba19cbfdce1053c668b13a1c0345e7623587641a53c668b13a1c0338085bb9d4ac3153c668b13a1c032cb76f6c0e940b53c668b13a1c03596eded81d281653c668b13a1c035f1754ff00342953c668b13a1c0379cfbde406fdad66cb134aa08cd81304aa996670d56e7ed19640e58726095532cce1aa6e7ed19640e58770a9ed3124586825504bff2bbb5f4b59a131f89d094aa097fe5776be00b90933a1264b7f921befcc70b200b90933a1264b7fede460ce8dd43bd8aea29966a776f8541191a70377b15d4532cd4e76f8541191a70300b90933a1264b7f5a2847d36b33302a8f6387fb0a5f9c15936ecfc960551ec70ff6142f71862fe6d4bf,
0x740c94516a78355248201552570a740c94516a78353083abd93a35df668acc3960d15759090421572a79668acc3960d1574b873c094d839b668acc3960d1573083abd93a35df668acc3960d157473a69b445bb94668acc3960d15727ea072f2aa5d1668acc3960d1574fd40e5e554ba24d7db09bb18cbb347094fe02481f668acc3960d157347094fe02481f668acc3960d15768e129fc04903e668acc3960d157297bfe0aade051668acc3960d15752f7fc155bc0a21392d0240510b57eca57e2ad5fda2725a0480a216a6b3787bea84f25251a280fbf50656d42fff6f3202a251a280fbf50656b3787bea84f254a34501f7ea0ca6b3787bea84f250ed743397fb9c27a0ecaf82808e71dae8672ff73847a0ecaf82808e7,
0x74be75d11fb0d934e23df2ded9f274be75d11fb0d969c47be5bdb3e42c8096be2c475969c47be5bdb3e42c8096be2c47597a87ca4f22d9162c8096be2c47596f8dd063c0dc212c8096be2c47597837421cbb2f642c8096be2c47596aecbffef188bd2c8096be2c47597cd852818a82c82c8096be2c47597adfc28916b71f59012d7c588eb27adfc28916b71f6e4530df34cc8a21de950cbe286d4c669bd276a41d43bd2a197c50da750b4eae8e07d30d8c3b9eb27692750b4eae8e07d31b18773d64ed2459f2d771291aaf3630ee7ac9da486152733fba25093281209381551b6152733fba25096502412702aa367c989e551267bb03afcde748852d77bc6238b2fd622924100aa92b85740c94516a78352924100aa92b85,
0x75c645b3d9cab725925fdc7470cf7ad56bd256430125925fdc7470cf2f1c1be18a511654ae7bbdfec1e55e3837c314a22c25925fdc7470cf38a5d7e6a0315d4b24bfb8e8e19e310474af5b7df15a678627724876310474af5b7df152c622f02d950a310474af5b7df17487d130ffac237957466883b7e94852d1b92839f8310474af5b7df15fa12ec2f4f5ff310474af5b7df15d39742732f01c310474af5b7df15869feefaee456310474af5b7df17d8566e4ec42bd310474af5b7df167fd6fbbc60ba7310474af5b7df16df1f618d51b6c310474af5b7df15a9d07c7444f67310474af5b7df15331262fd1a2ec6208e95eb6fbe2222cb1807624fb7c7a08582668db1a711ef96f6cf974be75d11fb0d91a711ef96f6cf9,
0x797c6f9acf7fef2d2473e71f6d224c57fbb3b012cd5a48e7ce3eda444f21c485cca11851eb8d57e92f634c57fbb3b012cd51eb8d57e92f634c57fbb3b012cd577f1efc224bf97192a8c0a16fd3324471ef30eef37e9c6da2e101c0324471ef30eef3666b85782f36a7324471ef30eef346c0596da0c6ae7904cb5cd1b5a15b3c40ec109e69324471ef30eef351ef9df9bf5eec324471ef30eef31fab2c0a8e6ff96488e3de61dde656c2f24d9dfb1d6488e3de61dde6766e1e582c6b160dc5f190c3e2c97eacb02a39bfe40dc5f190c3e2c93fe66137633afa4dac52c8271dc37fccc26ec675f44dac52c8271dc36440df4d3eb0624dac52c8271dc375c645b3d9cab761b94c3e00743d75c645b3d9cab74dac52c8271dc3,
0x5fd1a0288dc39438902050e6b9b34e82ffaf4e13c238902050e6b9b31b03d3333dc2b16e97c6b7623f151b03d3333dc2b1712040a1cd73663607a6667b8562561c6d6e8fb0b53c72349b4c5ad97f4ef76b698b293c72349b4c5ad949475104ee05c778e4693698b5b249475104ee05c75730e8ee8b3af9357d68a67dc04021b380480d7ab96afad14cfb808021b380480d7ab970db21c1ce90d5436700901af57270db21c1ce90d559f93a83aaac03708b74773a6294703bc72ca63453169239f38fb6916f9c6c977dd7d1169239f38fb6914376f0056bcb7f5a0929f8fb8210705ba61747e06d169239f38fb6916fdc2a6cc13005169239f38fb691797c6f9acf7fef480754c72f9b40797c6f9acf7fef169239f38fb691,
0x497d8374237f584036ac37a8863152c45ab09e787f4036ac37a886315d9c13ffb6b9214036ac37a886317b017bc7c4ec114036ac37a8863175959f2038cbc04036ac37a88631716a77545db16b4036ac37a88631626796396a56744036ac37a886314461d40383a0864036ac37a88631488cfbcf5ebadb4036ac37a886315b910105dd2ccd4036ac37a8863176eb55d411d3694036ac37a886316d695338d29a704036ac37a8863162f045b48df31e4036ac37a88631457332f9cad9da4036ac37a886314aafb9bbed2d834036ac37a886315bfe5a352cdd554036ac37a8863177c60832b134794036ac37a8863177c60832b1347908a7503c9fd7e917f4680a2370e56878f0652d9b7d2fe8d01446e1ca6878f0652d9b7d,
0x544446e34573c44e22005784cbe90622468bc0a7db7d989ff446508b22eef743a8b64762aa9f3f397afa22eef743a8b6477f774ff721896645ddee87516c8e5c8858b378d31f2e740ac06bef3f73f23c7a5e506e2e740ac06bef3f5c8858b378d31f2e740ac06bef3f5c289be619c7c05ce81580d7de7e2db49125add8815ce81580d7de7e660c32886109cb79d35fccef8de109241d07892b4d7cd14637e7e8d909241d07892b4d44d732fc27319d4dfb5003b05cea77662be93c0ca009241d07892b4d77f6de7080e65709241d07892b4d77493b67c7e1154036ac37a886316e251e603eb5c84036ac37a886315bdce4512c5f2e4036ac37a8863177831c6ab0382b4036ac37a8863164f56df1ba45dd4036ac37a88631,
0x4901fb12d8a7f04ffa2a826f37a97d1b67d6eda0b506f82f6f968fb97fe51469f6a6ff0164d6498483257fe51469f6a6ff02c9ac9309064a7fe51469f6a6ff05935926120c947b80c97f09e898204508a946fd4b5b3bc0d5c2eb4d408a11528dfa965b3bc0d5c2eb4d25d861cf5909df5b3bc0d5c2eb4d4bb0c39eb213be5b3bc0d5c2eb4d581ff4978c59ca5b3bc0d5c2eb4d5504285955c8475b3bc0d5c2eb4d4ecc8fdce8a5415b3bc0d5c2eb4d467ff6dfa37b0814bbc9f61f7045784423c92785cb297793ec3ee08a784423c92785cb6955589c16d0b538665f194f95a06955589c16d0b570ccbe329f2b406955589c16d0b5784423c92785cb5a668d6f061b9f784423c92785cb2a222371a2b9e2784423c92785cb,
0x2d0beed078419a64399a7c7be2075a17dda0f0833464399a7c7be207381511261294e34e2755d1473b75702a224c2529c64e2755d1473b752202cc7addee517a4bdf27b088992cdda751a8771c6496297a1b770359bb4ea350ee3837b8822872ffe77bbe1b1e2edc8937b8822872ffe75052afc304b95d37b8822872ffe73ca424e0f68b65745ca709698b4c794849c1ed16ca37b8822872ffe7418fc7997a16e36f710450e5ffce308350b3f86f844ffa2a826f37a96106a167f0df084ffa2a826f37a97213184d7286674ffa2a826f37a97d9b676e36a09f66cac8f852ec247d9b676e36a09f4ffa2a826f37a95b4279d78ed1ec4ffa2a826f37a9668ac92cae6c2f4ffa2a826f37a9747b280bdb8ba14ffa2a826f37a9,
0x11b96458445d077dcf4acb12b6cb2372c8b088ba0e7dcf4acb12b6cb67d833d3df02853969dfa7bc6e5467d833d3df028572d3bf4f78dca867d833d3df02857dcf4acb12b6cb67d833d3df028542b323b09025914a4a20469db9e842b323b09025910796fc960d94577dcf4acb12b6cb0f2df92c1b28ae7dcf4acb12b6cb6dc16af01f443e4e8591e910a9031f3bd9070e9b3b7dcf4acb12b6cb3e77b20e1d36767dcf4acb12b6cb322622fb0f6d8b57fab6e311122b644c45f61edb1657fab6e311122b709dd5092ca40157fab6e311122b1685f7683c20cd6e80ae4b4d32f81685f7683c20cd6c63878d6dc1ef1685f7683c20cd7eaf3179eb00aa1685f7683c20cd763a96826d3c861685f7683c20cd7abf91e4b802d4,
0x159a2783ce70ab7bac09f0eabff1159a2783ce70ab75bb26cafedbe0159a2783ce70ab72467a8562d1fb159a2783ce70ab788a2f77bd709f159a2783ce70ab6f7771d8a43d3c2b344f079ce15659dd4a54d5cc912b344f079ce1566861acecfe1ec956689e0f39c2ac6861acecfe1ec9446f8f3175668f6861acecfe1ec94c50eacb498d626861acecfe1ec9304028a994fbfb6861acecfe1ec96080515329f7f66861acecfe1ec93d0d88a2a13de86861acecfe1ec97a1b1145427bd06861acecfe1ec911b96458445d0778246420a66c6f37ee957235f0565e23c68c2783a56fdd2ae46be0ac5e23c68c2783a511b96458445d077561fbb73d932e11b96458445d076eb239049c9b2b597dbbe9efe6f047c45791ab89e9,
0x7a83d438581a2709395238927fb8714a81ffc59a6f1272a47124ff703f3e509278ea7351b0f5039de9e33f3e509278ea7364239974c2e9537e7ca124f1d4e664239974c2e9531a5907b02eeb93793c1bd8f90fed329840752d885c7d6fb9af59ad81653080ea5b10b84ad7793a2c25257f89889a89fc4b4ad7793a2c25253771b2362d41514ad7793a2c25253771b2362d41515e3d403e2b08f96ee3646c5a82a25e3d403e2b08f96ee3646c5a82a23f3401d16002d95f5ec535f4ff923f3401d16002d9202ac36494fcb97e6803a2c005b2405586c929f9725e3d403e2b08f96c02c593083357329001744ccf146c02c593083357652002e8999e286c02c5930833575e3d403e2b08f9159a2783ce70ab73d767c1f979a4,
0x6f788e6b44ab06139382cbb820317d0f8edbf0b517139382cbb820316cc0c187ef0f69402a2229d397cd592d3ebc36ef38402a2229d397cd72305b4e9a46a3402a2229d397cd72305b4e9a46a30e23e9050ce8f74a2b60cac8212b3628e388df0e6f5e2dde0cb133e73628e388df0e6f5e2dde0cb133e76c51c711be1cde73d7d2a9d739ad15a9f49d2605c673d7d2a9d739ad2b53e93a4c0b8c73d7d2a9d739ad56a7d27498171856d64216d2c0d339d4b183ce47f956d64216d2c0d373a963079c8ff27406424c11e3681cd320f0c9cf1f74c000d4fc8a541cd320f0c9cf1f7a83d438581a2705c3d3635b8fd37a83d438581a270b87a6c6b71fa67a83d438581a27170f4d8d6e3f4c7f207d54a15a03049ca91c493fdc,
0x7d8b7e9451f68149953b35860ebd67ec86bd97cf8849953b35860ebd4fa6b0b723354c49953b35860ebd061175819d268f7ae4a06497833e0c22eb033a4d1e74d32ae2fa5caf1845d606749a3c68b03fdfc00f9160cb8528e347ab387066c3c5fc5e285b1e651d4b4d70e0cd878bf8bc50b63cca3a969a4885af226ead6f2eca082493f8876a71e3c8154b822eca082493f887774fb74702a5f62eca082493f887624156204962572eca082493f8875e8384a761d4835d94104927f10e5e8384a761d4835ca49beaee0d995e8384a761d4835ca49beaee0d9960626d63d59b6d5d642c364f905d5e23bc81b113215d642c364f905d5ee34ccd1295e55be50b9f8c8ad55ee34ccd1295e537bc4735a255834b4fca015a75b4,
0x16e22db45687936cf2b3c9cb0bbd16e22db45687937e5cb0c23bf92e16e22db45687936ba72e49a9e6b42dc45b68ad0f2654c50095535f215b88b6d15a1e4c2700a52ca64ffb69102349679ca22700a52ca64ffb660a53f24ae129510719b0695b6f7b0d8e342c66e3510719b0695b6f540ce9078616e8510719b0695b6f720b1a3b993f1a510719b0695b6f2104008b2fe3ab6006324a72ef882104008b2fe3ab7e04637e8617ba476ce175c4437b6dd5c26058a34b476ce175c4437b4cd1c1d528bfa0476ce175c4437b5236a2348d3bc53ca320b6fb4b315236a2348d3bc5454487b602783949953b35860ebd40f3d4367ee1b549953b35860ebd38526d3777b4ad49953b35860ebd63905ce4ec029f49953b35860ebd,
0x7c48391df2a1ab09533dd7d1151672f4fb46218c9512a67bafa22a2c604e7f967f6269254cf75f4454587e25abe2b60c490775cb130daa787e25abe2b60c490eeb96261b54f07e25abe2b60c491dd72c4c36a9e02b223cf4ab9b95741ba6358de10a2b223cf4ab9b9566d0958d18ef552b223cf4ab9b95775cb130daa78076c443240baafb4ba2062f600f6676c443240baafb207fc93ab473d16b89615d4586b2207fc93ab473d14b0998229112e140ff927568e7a261056a0c44916f3601a9808f285b560781176ad2283601a9808f285b2005d796dba9cd6c0353011e50b6726ae485b0a5df6c0353011e50b6726ae485b0a5df659bc17c8bfb8d726ae485b0a5df58cc9e7367513b16e22db45687936faecc27bdd8ce,
0x4da144a65f6f4d53b86a1ed207067ccecdf281e7fd061725787297b97ccecdf281e7fd0c2e4af0e52f72633f11734b83af2524742165910b7c353aa3cbe5482524742165910b63d8a4c20186642524742165910b4f65a78f6f9c8c748a1bb0d52d972a41336e0a0b81748a1bb0d52d972a41336e0a0b816a509d178c38ab615248cac7b9a43711155cbdae23548266dc1417023711155cbdae2371f3b85b6a7fe13711155cbdae2375c545fd59a37c3711155cbdae2359a25ad528be763711155cbdae23229145786b10536e222ab97b5c46229145786b105374908509b5879339e16013f5c50a51317aaf8079c173c2c027eb8a1417501a9b8ab4b772f4fb46218c9517501a9b8ab4b77c48391df2a1ab04a99eebe88a8b,
0x785d238ff1cc11161f7b22a0e0b1785d238ff1cc112c3ef64541c1624c1e2d4ab00aaf587dec8a8382c420ec052aa3e9177969f1b5276bdb20ec052aa3e9176f23cebfbf335a41d80a5547d22e4e37c9951b4a4378fe6c0cab9257372661b763c0294c89b2f32be433372661b763c02961ed042ef4083d372661b763c02977fc5e784f21e70b07ad24ad8cd577fc5e784f21e7160f5a495b19aa77fc5e784f21e72c1eb492b633544bdda9e598ee93583d69256c66a8790fa027a0aae7583d69256c66a820d2370234443f6ed664467044d241a46e0468887e4e042d443c00936b80a313d18c0129dc350f690383596ca6f9680d7929dc350f6903835f20e3d3fe13ec29dc350f690383777d79b5c872d029dc350f690383,
0x20124c6bf075ce6f4b5d10ff54b3402498d7e0eb9c6f4b5d10ff54b351226d76a36e212f26c4391e69175d32cd4dfb63f523166461c673437438d1d869e16423166461c6734351226d76a36e21462cc8c38ce686485de9b42b01a5462cc8c38ce686485de9b42b01a543fba7d2eecb674cc02b956737e343fba7d2eecb6772088ec62cb9bc62aeec751814f50f59a25114a4c7789dad54c8f2070f59a25114a4c7766e4820ecbdd60f59a25114a4c7720f7db93455740311ed436a875b7e5732c6de72e00623da86d50eb67b45458373eb850c47b50daa1d6c7b45458373eb850c47b50daa1d6c7ae51cbace80e1188f6a1b543ad86e9d67ad246375311ed436a875b06e9d67ad246375737d459e8b17c3161f7b22a0e0b1,
0x2f864569865a7458f72375234b295f0c8ad30cb4e82970de0b9cf0b5359bacc76fc43352e1bc1739e16a260504546b7b906278648a3e2a0d4c0a08a8d6f7206278648a3e2a0d359bacc76fc4336278648a3e2a0d1e6a69dd22c9406278648a3e2a0d3cd4d3ba4592806278648a3e2a0d79a9a7748b25006278648a3e2a0d3fb87ce834b1d26278648a3e2a0d7f70f9d06963a422bfe7a209783b73e25518ace65c22bfe7a209783b51226d76a36e21457fcf4412f0761e20728bbe12eb63a041cfd103613c40e5177c25d663a041cfd103617881ca2ef84bac275f5cb854dd8b780772fa9327dd27d9b3ecba015a502dbf0dd926834fb367d97402b4502dbf0dd926834f3910a50edee510092635f83ae77f548346f78f9a,
0x75697aa63699b6181c6a0b402fd55d4d109af669e13038d416805faa5d4d109af669e16071a82d00bf544b44f865fa65cb393ce030fe61b55d4d109af669e1393ce030fe61b55d4d109af669e17279c061fcc36a7b1411e0d9c727152cafc70659894ee030709333693206701bccc6796bb9f0c559a0593206701bccc6796bb9f0c559a059640ce037998cf23f19c05a0f5c5451935048d474a37e3380b41eb8a851935048d474a32ca0306b4a4405768670265ea5414a2f7d1c859e1d58f72375234b293b67d6c3e7f11158f72375234b2976cfad87cfe22258f72375234b2917c322b4c32d3a70ba4629e67863,
0,
0,
0,
0,
0,
0,
0,
0,
0,
0,
0,
0,
0,
0x628a6144ed1f1924e0347e352c590000000000000000000000000000000000000000000000000000000000000000000000000000000000000000000000000000000000000000000000000000000000000000000000000000000000000000000000000000000000000000000000000000000000000000000000000000000000000000000000000000000000000000000000000000000000000000000000000000000000000000000000000000000000000000000000000000000000000000000000000000000000000000000000000000000000000000000000000000000000000000000000000000000000000000000000000000000000000000000000000000000000000000000000000000000000000000000000000000,
0x7182706392b0261b8796d65467117c8579861ad9600581849144149d7703f4f4d6c4c30b03092288293a7703f4f4d6c4c31606124510527443d9bbee4b990f59dfce335beb8343d9bbee4b990f6fe5e0786c3df717cd97642af4276fe5e0786c3df771524af7b4bf5316612ce4e272cb72beb576fd40af16612ce4e272cb72beb576fd40af2cc259c9c4e59645fc5bad385b195984b39389cb2c43b54ae19125b95984b39389cb2c43b54ae19125b96f541c4582709f43b54ae19125b9573da2c7e295cc43b54ae19125b97dc7fec4158d8443b54ae19125b9742567c508cf9643b54ae19125b960e039c6ef53ba7fb5502a4b4d1a3c000548ba276143b54ae19125b978000a91744ec243b54ae19125b968957f5fc65212,
0x7ec3f775bc51ce01b08f0094136b7ebdec7c52bdbb40373dbe7368937ebdec7c52bdbb01b08f0094136b7ebdec7c52bdbb03611e012826d66611c3307d6c5a4d6599e4a81af97ebdec7c52bdbb4d6599e4a81af962b0a52f5545844d6599e4a81af951a7cf59fdf0484d6599e4a81af90442357555d54f7cfbbd93f760c90442357555d54f7e776cdd35979f08846aeaabaa9e7e776cdd35979f4749571f7684753ec4ec34cad9d74749571f7684757d89d86995b3ae4749571f7684756c8102943e5e7279807a7ce599213237235d6f14ac79807a7ce59921646e46bade2958151233c2076fc97493be6d9e938c3099ca985bd6da7cbb2c070c14c561339530b7adb47cbb2c070c14c56fd065de7226351b8796d6546711,
0x658592321627b727bc00b7ac41be7b9d1f1ac44c7927bc00b7ac41be7b9d1f1ac44c794f78016f58837c2c251dab6bc8fd72cae533453dfb683107a7e62c6136befb36cada97683107a7e62c616d7df66d95b52e7b9322f4d3cbf2054ceec5af88cd7e1705bdd0ea372bcbfc2bd57bac524b0991fb6e8b5797f857aaf7587f7b8bbc2a1f7b054ceec5af88cd7f7b8bbc2a1f7b0a99dd8b5f119a1fdb6dac74aa756a2c2690bd10f93fb6db58e954ea6a2c2690bd10f97f6db6b1d2a9d42a754b37d3bc0f3b768b524b698b6e6c76975afc583b768b524b698b65ebd68a1f259a76ed16a496d3162a754b37d3bc0f76ed16a496d3164fd8e96deb3ddd4e285a6d572a724fd8e96deb3ddd7f9735d0d90ac901b08f0094136b,
0x76d927f191eb9b15ce239c7004592d932b998d337870f47acf8a6b495b2657331a66f043614f35fd37d172eb5f3037960f43614f35fd37d12475bc7ad75c6067d70bb0d4943148eb78f5aeb8c067d70bb0d4943172eb5f3037960f1eeb92bb25db71408517b6c68c7d703d6cefbcc0745151da3496e5032fb85538f633f772eb5f3037960f2fb85538f633f772eb5f3037960f5f70aa71ec67ee673b592470e0c8635601cb2ea45b6b20b07db31d35635601cb2ea45b72eb5f3037960f635601cb2ea45b72eb5f3037960f13de005bd620df6ea2bc396a66e413de005bd620df79ef76a7a6296d13de005bd620df77bfe640bea61113de005bd620df784bca5a7886e813de005bd620df7963928dec489613de005bd620df,
0x77d5ca16d281d50bbde1ea650a9877d5ca16d281d51a50bc003e4f4977d5ca16d281d534a178007c9e9277d5ca16d281d56942f000f93d242d04f204c259656942f000f93d242d04f204c25965787bfbf86dc77e5a09e40984b2ca4b7709f3ab6e190e92da15d944b179c85fbba452d071e035adc2f2062119c932a339c75f594690f8fcf02119c932a339c77c7efabcab86522119c932a339c77c338dbda594ff2119c932a339c773fff6b0be42e22119c932a339c752e62d7e1b091b4233926546738e458a7e370a91774233926546738e0356ebd1c41de97db94d2704ab4a06add7a3883bd27a626155408d611c7bfb3ff8402b6b42155c58c4da38f7f67ff080564ec61a1c6084af71efecffe100ac15ce239c700459,
0x6dd2307537166518135804b7d4d77c443211a562e604d0ab3424c42b7b5700d78ed96e04d0ab3424c42b7e4d4997868aa904d0ab3424c42b7f43d23b8de51800f688a4075a6f7e4d4997868aa901ed11480eb4de7c60384f77d5cb03da22901d69bc788615bf5a6c0f07b445203ad378792d6b55f74aeb07b445203ad37871792635bc77730f688a4075a6f071792635bc77731ed11480eb4de058885f30619cce3bacb9d8a675571cdba557bb2777775973b14ceaae1cdba557bb27777b445203ad37805de99d39b09d04410df7e1f5758d7ac542916bc47b410df7e1f5758d7ac542916bc47b0756ad327f269f7ac542916bc47b0ead5a64fe4d3e7db4bb0c05072102ef787a9942a67db4bb0c05072105def0f532854c,
0xe01c33a24c307f234778c45fed00e01c33a24c307f270e880574f901c038674498607f270e880574f9038070ce8930c07d66d620c0dc994d795f24e1a14a7275d6500dd98f75f6471e970a4f24fc772b2c384575f6471e970a4f49f8ee5658708a75f6471e970a4f1dfb958e19d6c575f6471e970a4f352e6d8f0e624775f6471e970a4f6a5cdb1e1cc48e0b996c007a45c177ee5638675b145c0cbce52d2d7f2839a8725973df67a628e5a773402839a8725973df3f6c80734dff61507350e4b2e7be1cc65d1199c7d36d39adf64caf911cc65d1199c7d36759e7a6323fd61cc65d1199c7d37860b817972833398cba23338fa67860b817972833398cba23338fa651a01227eb647d73197446671f4c18135804b7d4d7,
0x740eaf8f30791224f87513cbbf8f6a9ade69b5a1cd5364bb4d1256632e6c46394696d45364bb4d1256635cd88c728d2da824f87513cbbf8f6075836784caa9215b7e1ed4228e3f1a0548b0a81b42b6fc3da8451c3f1a0548b0a81b4653f3329fe21d3f1a0548b0a81b4d8de11c8f1c1f5b3b99c357028d775d2e3dfd5cff3f1a0548b0a81b775d2e3dfd5cff7e340a91615036775d2e3dfd5cff78bb5a4eaaf40a775d2e3dfd5cff015e2c10ad970b7fee6b350def83015e2c10ad970b7f48a84a5e68fc004608d022b7cf7fd4b9eaa3d89a004608d022b7cf7fe76025f26297008c11a0456f9e7fe76025f26297011823408adf3c7f5b4e85acf2f90038070ce8930c7fcb5c9f7e191100700e19d126187f935592958605,
0x659710682aaf2f1efbe73470b5b1659710682aaf2f1a83cb1f524760659710682aaf2f3507963ea48ec0659710682aaf2f6a0f2c7d491d807acd4c81394eaf15363c190e9f807acd4c81394eaf2a6c78321d3f005060d44f1c0faf54d8f0643a7e005060d44f1c0faf59510c7958ec5110135da96c03237977c7cc30f29710135da96c03237254a24d01cc162026bb52d80646624144a395c8f36dacb3d57ad35b4d85f882a2cd15404d76a5b00c8c4d85f882a2cd1573626b6e6d588f0d3881dcf2c08952738f1f345c123b5fe0091e7d8f69873e354a3a953b5fe0091e7d8f69873e354a3a9576bfc0123cfb1e69873e354a3a951a7103b9e5811269873e354a3a952f7fe66db1fe0c3a0757c7983c895effccdb63fc18,
0x3a5e16072f74936edf1211349d4b713782dcdf22093805a53b84efd5713782dcdf2209700b4a7709dfaa012c3865d5425f7fec844fc47ce6012c3865d5425f7ed8ccdde674fa5a56c3cf87dac1592a8b69b298625a56c3cf87dac157fe5303dd56035caf349b325f7f57fe5303dd56037ef18f1813800135bbf886fc35817ef18f181380016b77f10df86b027ef18f1813800157fe5303dd560377274fe0d5779b6f5d10a9976f3577274fe0d5779b6792d1725966cf1f28fcdcf821986792d1725966cf7204d79ed940a414b6f6b07847c35d4de0ee60f8e1296ded60f08f8633dff38d70695b52dbdac1e11f0c67bfe71ae0d2b61efbe73470b5b1659710682aaf2f2124bde726d938659710682aaf2f42497bce4db270,
0x66d0f1210262b956637508b050237c3abcaaa0da4f56637508b050237c3abcaaa0da4f308c2d66bfc5f77c3abcaaa0da4f61185acd7f8bee1b2261dd214e6170c990039b2cb968cf774e5424b926d68ab8996b2c41f8ec95bab98d4dad157132d658783db04ffd564f0bb428db781ccb1a6391d57de3d2754270316fac1334c723aafbc7a4754270316fac13698e4755f78f48754270316fac13151c74aacb1ca8754270316fac132a38e955963950754270316fac135471d2ab2c72a0754270316fac1367426a49d2725a20d09d864339737af2c8cd94619f06901f8140a5177fc35a849d27a006901f8140a51779333b035c82890d203f02814a2e549e940c3208ef61bed30eb3531d549e940c3208ef6edf1211349d4b,
0x3a15e394cdee3660711abd44cd3d3a15e394cdee36649baa5c94768b742bc7299bdc6c649baa5c94768b1f20399a0ecbc2649baa5c94768b3e4073341d9784649baa5c94768b710ef49a33fb3f649baa5c94768b7d823ed7d37ff3649baa5c94768b31cd28f67e12d0649baa5c94768b5a725d482995cc649baa5c94768b77ecec15d1e71e0a294d146ae0bf75ea3b36a145480a294d146ae0bf4c6c030eb26b56569550231d4c157a5c1ee024346f0a294d146ae0bf7a5c1ee024346f14529a28d5c17e7a5c1ee024346f28a53451ab82fc3912b069fd959269eea2c7d221d9722560d3fb2b2469eea2c7d221d90836be0c29094b79831b09e0dd792f4d198a6cacb756637508b050235e9a3314d9596e56637508b05023,
0x719bd7a805272e497d8dc01352d7719bd7a805272e52dd0424d3c1ad1ebed383316581683c614344b8581ebed383316581743c47fcf5402d3d7da70662cb02743c47fcf5402d61093d3a4133a5238b9633de68a37afb4e0cc59604238b9633de68a367c8434a11897c238b9633de68a3468512f107adfd6a10a924e616a0697e8fae30f357238b9633de68a3697e8fae30f35747172c67bcd146386a758d9fbe64782b46884e063970d4eb1b3f7cc83fc0d0faae47d531141a209134f37f81a1f55c8faa622834412269e64e6d87d4cb5ab771d7b5d217e2710faf8190f5788b71d7b5d217e2711f5f0321eaf1165278b2b02cf15b3ebe0643d5e22c1d0af1ca66f71b78d3e9d8a3d0621d0af1ca66f71b7d7c0c87abc458,
0x72e9c30970e80757b8560f0731213f825f39fb66a34b9d5aa4814be23f825f39fb66a357b8560f0731217f04be73f6cd4657b8560f0731214e98d0c9df384a57b8560f0731214459f6fe30f58957b8560f07312130fb97ed5ab9f157b8560f07312130fb97ed5ab9f17e751430b3a8515dde0befa2f2c82ce274024838d730fb97ed5ab9f159c4e8049071ae30fb97ed5ab9f15192a02e6b6f7a3780332d9144a67585019b5914016f00665b22894c3e04ce6dc7cf5b61f72fdab573e23e04ce6dc7cf5b23f2616ceda4877c099cdb8f9eb638cdebd40293977c099cdb8f9eb638cdebd40293974da9763b1782a738cdebd4029397628500a22c71b738cdebd402939779f3a89e0d86ce38cdebd4029397497d8dc01352d7,
0x1e735b3003e3526dd25912d318c73ce6b66007c6a46dd25912d318c73ce6b66007c6a452dd94fd6531ff79cd6cc00f8d4815f6de9d5d6b5b6fd1a1cfee966e15f6de9d5d6b5b351d24d2b2812f4b1403700fec8a6a3a49a565025e15f6de9d5d6b5b7c9918d554575015f6de9d5d6b5b2ee249fb3b166b73bb7293d398315dc493f6762cd673bb7293d3983179a48c14d4179b15f6de9d5d6b5b79a48c14d4179b2bedbd3abad6b618541c042a6b1f74ea11473a181330a8380854d63e74ea11473a181361507010a9ac7c4441d93ee541d57ea54faf4b0fb96b2ed2df29206d7ea54faf4b0fb957b8560f0731214dd9f34087bd3057b8560f07312132a886461e064a57b8560f07312165510c8c3c0c9457b8560f073121,
0x73275b900be3777f1cecccfc79aa7aac9bfba27f230bf5913cf096332bab6dfa3b09bf634c6d3166a9b12bab6dfa3b09bf6f41fe6e573fe42bab6dfa3b09bf5b81b2edfd628b2bab6dfa3b09bf69a3ffbda8c0cd5756dbf476137e69a3ffbda8c0cd77c64c8d541f0f124d23c932ad4f7020afdc3b8fea50da2bd5e344611f468406584b8963274f9f15f1b03e8d080cb0971243e0cb98bda6277d1a1019612e240553c38c0d0f1567471bcebbfac31b26b7d6b242764c2063f809b84d364d6fad6484ec4c2063f809b84d6c9adf5ac909d80f39ad9801f1a97bd48cf2cafb810f39ad9801f1a97ddbad258669ba0f39ad9801f1a972b03ff2fb54830f39ad9801f1a97b6cb9b5724bdc0f39ad9801f1a97d0c06aad50a70,
0x497d88e2cd682f731d604770ef1d497d88e2cd682f533faec9470ddc5a23df0b0ed15b6aca3533503a875a23df0b0ed15b7b708b5b91a3b35a23df0b0ed15b429958a105a4b05a23df0b0ed15b556e90f5d9c86c5a23df0b0ed15b50b942e0a4bf7d5a23df0b0ed15b474ea6b63aad9f7a6df9cb50b78d204a1ac041e6325a23df0b0ed15b4094358083cc645a23df0b0ed15b27048bf5f8c76d663ea62a2c13dc27048bf5f8c76d4fea6806d735c53b7779fe67fe994fea6806d735c576eef3fccffd324fea6806d735c54e0917ebf18eda4fea6806d735c53f8e76667e3cd5604659a7302eb53f8e76667e3cd5416fc68163e3c03f8e76667e3cd573275b900be377595ae8fb45102673275b900be3773f8e76667e3cd5,
0x73c4e5dfa12b89157c6d2640194773c4e5dfa12b892af8da4c80328e6480ea1cd3ca1b2af8da4c80328e39880fd053978d55f1b49900651c73101fa0a72f1a1c69a4c8accd8f506721b0a96e7c3f12a2b8aa8e2d61bba0a8a84ecb3f12a2b8aa8e2d4551fbdffb813c3f12a2b8aa8e2d7f652412cbb35d3f12a2b8aa8e2d7f652412cbb35d7e254571551c5a013fdea17697037f5793d0573b88027fbd42ed2e067e17b52ee0a48567ea4dde2d811c32b5484da0298b353505908d5791656a909b4053166a6a0b211aaf2230358b0ab2fb85720e8f874d896b289106a480213c497d88e2cd682f51220d49004278497d88e2cd682f58c691af331cc12f26ba4a8f95d3731d604770ef1d5e4d74951f2ba6731d604770ef1d,
0x2923b55a174507f2b4775328161052476ab42e8a07c990c1f910d11052476ab42e8a07fc4ae34572f1d0a48ed5685d1407fc4ae34572f1d1491daad0ba280757bc0ddd15ddd1491daad0ba2807200e8bf5d10f92923b55a1745005d6f0e12516e7952476ab42e8a00344b58b83a29797da640bab32fe52b5ed60684a5e57da640bab32fe556bdac0d094bca7da640bab32fe52fd5175f5f67af7da640bab32fe55faa2ebebecf5e7da640bab32fe55e85c9c95e79693e40ede2a96cf85e85c9c95e79697c81dbc552d9f05e85c9c95e7969519d71d37c746f5e85c9c95e7969519d71d37c746f6b6e21bf407e6337ccc1e7b86a7b6b6e21bf407e637842095a78b650157c6d264019476f9983cf70d4f6157c6d26401947,
0x7e80c3a2003d450430d4c4b7a7447e80c3a2003d450861a9896f4e8877a444aff510fc20017b8e5917e157a2c9219bf91b4002f71cb22fc2179fd204e9c95968661c347a962b7e0af6ffa07c29199ac93eadacb464702dc0f2cf753335927d5b596864702dc0f2cf75666b24fab6b2d064702dc0f2cf7568661c347a962b14166f8cfd5cb17c7c8bc177f2dc14166f8cfd5cb16c5c0aa8025ce114166f8cfd5cb17447e78f11ea4d04047cb5cc45bd7c50e0faaa75c704047cb5cc45bd7c16a7f19879ab04047cb5cc45bd7fa6b29540c73000cdb28ac274597fa6b29540c730019b651584e8b27ed9000a7e52d70336ca2b09d1647d3d9af4f96a2500a48ed5685d147fcfd64a9ade7501491daad0ba287f2b4775328161,
0x5ccff9455591914401f1db80c35418ce0769d4ce3d6f35dc4d2cb86b3b5df62b2b2be94ca5ed8bd65abf76bbec565657d24ca5ed8bd65abf2a15feca7ffd136f35dc4d2cb86b2f7e5e88ef565464651cd04e05e95efcbd11deaca834e6be475eaf952a15feca7ffd1369cd7c8ebd5f2a2a15feca7ffd137f6efb887ac42e653dc9bafeeec53b27caf07ef1b22a15feca7ffd13764f95e0fde3642a15feca7ffd136e5d2f627bcf8f5969078ae58b3b2f5308c0658e285969078ae58b3b5ea61180cb1c507e6fab7ad36ba4053d09f5e591157f7be0ac015575010c35312de9d17f2667e8213d50010c35312de9d17f87ab918ef6d7010c35312de9d17f87ab918ef6d702186a625bd3a27e80c3a2003d4502186a625bd3a2,
0x1c1b043d44d98b6460de0125f0243836087a89b3164845d9c3e1169973a26e03be7a133b6c658934c6fd73a26e03be7a1376d8cb12698dfa7d42dd236f635f03365d0eab13e77fd4c12f2b734b00a47902ef03fb7fd4c12f2b734b0148f205de07f67e8bcf294d6b550291e40bbc0fec7bf9eb1d915b690523c817781fd87f0f632ba63b5101072804b19ff87e083b26f49b59020e5009633ff07e083b26f49b59041ca012c67fe05dff853d00566a310e12a7e36b2559e2e52a39d68a310e12a7e36b2551a9a504acd6ca310e12a7e36b2578f6c9fcde7d2d55026e5260f42947e8b754fb120855026e5260f4293acf0057952fe755026e5260f4293acf0057952fe76f35dc4d2cb86b7ed0f23315f33b2200f8edc061aa,
0x3f6bcf4c792c5f53fa5da17d56627ed79e98f258be148e8e55042a037ed79e98f258be36d928b494f8b347fe75e45d600b6db2516929f1666a491043ee2ebb25b3db84cc915b7c1868fd3c9e355f4c39d51744977c1868fd3c9e3542800aacf1eaf97330bca095667842800aacf1eaf9616163e746f6fe42800aacf1eaf97bfb01c60e21c80d4cceef63956572f5ee32386d9e0d4cceef6395657b8564e95430140d4cceef6395657dc8d27d38df6a0d4cceef63956576918fa08de8e20d4cceef639565756fd8d69b91370d4cceef6395657f3a4642f4aa520d4cceef63956571ed77539114ed1a999ddec72aca5753d974c9ea2335333bbd8e559422209db73b948f6a66777b1cab281c1b043d44d98b6a66777b1cab28,
0x491abd8ee2c56750f9cbf34ebaca7a984ff081aaa507df0e646bf5637f51589328d77a019302e0e264477dbe55b2467333032605c1c4c88e7a984ff081aaa5064c0b8389911c5db5219b9f9d237f0adb50ad57385db5219b9f9d2342ab736a1b742a1b09ae318428f96a4d38a2b2bf5b36135c630851f26a4d38a2b2bf5b0ad0ac13ce76ca7fee90ca4facef15a158279ced94751de4b68136252b42b04f39db285f7c8c8ee4489108a6f00fd85f0879715cbe6d65a9114de01fb0be1070ca6cae9506a1229bc03f617c2070ca6cae9506a174204e5b15182741e19ed242e6ba74204e5b1518270fa2ef4970b54d74204e5b1518271f45de92e16a9a54da6fc833ad8d3e8bbd25c2d5343f6bcf4c792c5f6968fe1d37d790,
0x74c64a0cae4b5a135eb2154a40f9616797f7640a6126bd642a9481f23a38828f421d9f60f5e6b9d69f917471051e843b3e60f5e6b9d69f9126f63cc95b375a60f5e6b9d69f914dec7992b66eb460f5e6b9d69f91365e749ae0bc5e60f5e6b9d69f916cbce935c178bc2a97721ef5e33342257716cb9589552ee43debc666754199a2590c93110960d92f27ae643838c929e4e52212c1b25e4f5c42257716cb958944258364bc9eb85dce1481e0d6dc287ce5f9a75d656aa25d1072f2ee287ce5f9a75d655bce0833efcdad287ce5f9a75d6566a2447490e090287ce5f9a75d656580a671054e1a287ce5f9a75d657a0780eebbe16a287ce5f9a75d657a984ff081aaa5287ce5f9a75d657197a3888a22cc287ce5f9a75d65,
0x14276a87902b256f081dc2a5da17284ed50f20564a6f081dc2a5da174498f223bc249c52be00ae0a0bc53673e3996e3d7352be00ae0a0bc53673e3996e3d736f081dc2a5da176ce7c732dc7ae66f081dc2a5da1715c7f4a3c5b22e6f081dc2a5da172b8fe9478b645c5940291ee027e9571fd28f16c8b85940291ee027e97ad316350a0be211d9a1d2f9a19568f97462106a4d23b343a5f3432a454630bc1d27234766874be686546242782a6e6fe82a6a3fdd953d8f37d8384cd9325954d47fbb2a7b1e6fb07099b264b21cfc476e5148c56b6fc37a1fa6501cfc476e5148c56abe1e89f2af6b43dd32fc21fc1826e0eb8dd0b35360d97a6a7344dd4dc1d71ba166a660d97a6a7344dd747f3b4635e898135eb2154a40f9,
0x423af045be287e542d49130f531f304897786cfddd542d49130f531f73a00521460d2910d5db6a3643d371670a5b103f8d10d5db6a3643d371670a5b103f8d21abb6d46c87a64fbb5386a3b7e743576da8d90f4c633bf5784dbf425349b190936747732e396008173d5349b1909367473fc90f9ee95fec5349b1909367473ebad41020b78d5349b1909367473ebad41020b78d67d88f110617013ebad41020b78d523b7601cabee83ebad41020b78d74d06ae6f67f103ebad41020b78d6c2b2dadab8f067d75a820416f1a2d70599d8ad779729a4367e257c92d70599d8ad7793b45885f9c578968b5e1fd272f02768b10bf38af122d70599d8ad77964c514a5d0d7b92d70599d8ad77955bf2eacab2dc34197c4251b029e,
0x14a759f0dcba5d7e4aeb2cf2d03014a759f0dcba5d6c0260c3dc87d5042178635f58797c88425159e9b90842f0c6beb0f27c88425159e9b91085e18d7d61e47c88425159e9b9210bc31afac3c87c88425159e9b9069bf3d23227287c88425159e9b90d37e7a4644e5075ec4e7f27c2911a6fcf48c89ca068b466dac3744179313098419dfa2f60b0a7bc80ad49d07ff0851d4d5ec1614f79015a49d07ff0851d4d73b242ae6ce5676fb773a9e8b77125e6f3b9639a2449d07ff0851d4d4bcde772c7344849d07ff0851d4d4dcb4ef5094b4349d07ff0851d4d51c61df98d793977b1ec4f7041442de16c5eeb23f749d07ff0851d4d5bc2d8bdd647ee6fbc4e4667e55811f258cd512aa1211d7822df143f754ac135ee675e,
0x1c8586f0912f1d7cf119ebb965361c8586f0912f1d6b4691249cdedb390b0de1225e3a6b4691249cdedb4e7f914edb579963f414bc9450f872161bc244bc741574836db8f95f5ca198548bc3152ae906db71f2be7ef59dd0e6ebad0895015f16ca2676609c71d02187112a02be2d944c653699b3a28d3b2254057c5b289879cf69cb0c726306dd9ab278a1b872f1cf1893d0ab0dbb3564f1437072f1cf1893d0ab1b766ac9e286e05aefd1b0411c4d2777697e0be10f66f0d0646a767c2777697e0be10f7ef2cdccbd2ada2777697e0be10f577b644eb149cb4eeed2fc17c21e770e1f19edfdd70fc95d659e5a066744c1b44fa3d11f92bacb3cb40c6744c1b44fa3d13f25759679681853cccf875622753f257596796818,
0x7fee505c28355d07df59c87dfc517a07aa67f2a95907df59c87dfc517a07aa67f2a9590fbeb390fbf8a25daf04f91ece416d6db88a1ac6e35daf04f91ece417d2c6c1b16bf855daf04f91ece413eface43efe2885daf04f91ece413211c4d7a2b3022b9d40217c1b3f642389af456604573a8042f8367e3886498dc94ac52e324203f1f18d618e87cccf8fb62e324203f1f18d66b88b91bb3c525c648407e3e31a3886498dc94ac547bc74f43530aa3886498dc94ac5553811ef782b0946df2dbea0bae7553811ef782b093886498dc94ac5553811ef782b09710c931b92958a553811ef782b0938b28afee6fbec1c8586f0912f1d716515fdcdf7d81c8586f0912f1d70b4103957333c5afe13e66de1b83e788cf5dcb29b,
0x5ff065b34a9030350482beb2726955d7c5e9303b8e350482beb2726976ab0913ae04b3350482beb27269772a538e640214350482beb272694f471ee0b0aced350482beb272694f471ee0b0aced6a09057d64e4d27f0b1bfefd13a23a45085f187e1d44c6139fe49585748a10be30fc3a59c82a217cc4552fc3fd1e4c66b578bdaed81c38ca382b395222dfd548f9b1b9cfd215382b395222dfd548f9b1b9cfd215705672a445bfaa6a96a28929b695275cc0ea75ed957a55561a25af3707df59c87dfc517e946974e995af07df59c87dfc517f333661f3664e07df59c87dfc517e3521b37d4bb607df59c87dfc517e74a6df1ad25c07df59c87dfc517ef3b13655dfa807df59c87dfc517b02498dc4ff0e07df59c87dfc51,
0x7f4fad11deace7038a05adfdc3697f4fad11deace707140b5bfb86d2783ba1b5e326150e2816b7f70da43730ebec4cf26d7c89ee9090f27e3730ebec4cf26d5381195c3b0db56e61d7d899e4da5381195c3b0db56901b1bfba203963a18ba6da5b9805602618dfc4a17c0101f177f6620ac04c31bf894276a0dbd89831c15c9b318dfaedfc28ed72ae1db25d33adbedfdd3b9f51dae55c3b64ba33adbedfdd3b9f70080bd8998dd5675b7dbfba773e70080bd8998dd5546bb437f4fd83417beab02f83c812efc987c579bb70080bd8998dd512efc987c579bb6e715e829241483bf63f900e9a1e64fcb59857ba8177ec7f201d343c64fcb59857ba8125df930f8af37664fcb59857ba812ff832d9a5481864fcb59857ba81,
0x286749f2a082fa6c051d46edf85750ce93e54105f46c051d46edf85735980a839413916c051d46edf8574b87e07812cc1e6c051d46edf857769284214a6c03207d3ccedb2c39769284214a6c0340fa799db65872769284214a6c0324b5cc59668db1769284214a6c03496b98b2cd1b62769284214a6c031c44ad444fcac1769284214a6c031d5e3d14520af4769284214a6c033abc7a28a415e8769284214a6c037578f451482bd001198fd00240337f28db01b3c41a5f13ecddd596732efd2e86e9ab205f13ecddd596735dfa5d0dd356405f13ecddd596735ce0cd3dd1160d5f13ecddd596732597586bee2280397c9471e773f34b2eb0d7dc450072f928e3cee7e611b21c65f4d10d7d9739edc83221038a05adfdc369,
0xe4a93679b24cf7cfc06c36ee2bd1c9526cf36499e7cfc06c36ee2bd392a4d9e6c933c6066dff438991f392a4d9e6c933c4c72140277e50f72549b3cd926781347c6640b51d370fa90216e61fe1347c6640b51d36708599fe7b6453d281001f9840c6708599fe7b6457a502003f308186708599fe7b645268f8cc816a3a66708599fe7b64545881ebb2927b16708599fe7b6452407e3d66a991d6708599fe7b645480fc7acd5323a1ef891f312840b7126fd6697e069650238de9147712304d375bf61b3650238de9147714609a6eb7ec366650238de914771271114f86c3f5b1433a4f950417d77dfa8ddad454f1433a4f950417d768973e37901b01433a4f950417d73dd09ef107a721433a4f950417d6c051d46edf857,
0x4b8fa4614e96725639e3dd12e23977208a4f50498f0aaa3f7bc44bc778f05a4d3151910aaa3f7bc44bc73e94f699cc8783493f361590d34a3e94f699cc878353e97591551f117d29ed33990f0653e97591551f117d29ed33990f065be172a26cdc074290f5225865fe5be172a26cdc076bd16cc49c55f319507d801476096bd16cc49c55f332a0fb0028ec1275f19ef7d7b85d0a2032333b626a6bd16cc49c55f31440646676c4d45791085e25911f2880c8cced89a821b6eb980020e36bee9ffcedcb6e21b6eb980020e372b87d31db3433436dd7300041c672b87d31db3433436dd7300041c63f66cd59f8cb814774e10607b80b3f66cd59f8cb814774e10607b80b7ecd9ab3f197024774e10607b80b6eb1735bd3bdee,
0x4c5c04de40a0bb520ba66f3fec724c5c04de40a0bb57bb48003f382940fcc1bc42094d57bb48003f38291e8b3525b3737e76467d25f2aba73d166a4b66e6fc76467d25f2aba77a2cd496cdcdf876467d25f2aba77a2cd496cdcdf817a7b2a13088bb7e132c07a8f04917a7b2a13088bb7e132c07a8f0492f4f65426111767e132c07a8f0495e9eca84c222ec7e132c07a8f04912ec8ee75a06fc6b269d204ee94d25d91dceb40df86b269d204ee94d4bb23b9d681bf07a4a42a630887d0f23a585e19f307a4a42a630887d1e474b0bc33e605c02f79a6d4a1d3c8e9617867cc0743c0070a3159d0c1c846b1ae5c0743c0070a3159d183908d635cb805c02f79a6d4a1d307211ac6b97002b90e5ee01b31d60e42358d72e00,
0x5b406e9cb6d63142ccd18b07163418739d11afbffd6d2606045e6c6b18739d11afbffd787d97c1fdd8e23f38800fe591c265fd630e1b63877e71001fcb238465fd630e1b638730e73a235f7ffa65fd630e1b6387329399a651416865fd630e1b63876527334ca282d03369c967ca221f31bd69e4d860b166d392cf94443e637ad3c9b0c162351628eabbe38d13e55d8ebcf37a70c64196f2bdfb27cabb1d79e6f470c64196f2bdfb4f95763af3cde848fb867978d7077b5f93b7091bb90e98b47eb1c49b7b5f93b7091bb91d3168fd6389367b5f93b7091bb93a62d1fac7126c7b5f93b7091bb90bad5d3227d07c6fb23684e14b3d175aba644fa0f86fb23684e14b3d2eb574c89f41f040fcc1bc42094d5d6ae9913e83e0,
0x608ca9a4bb3dff4f3c81d7785ef2608ca9a4bb3dff3dec5a0a357fe545409f350b7c343dec5a0a357fe55b170df4cb4a70330122aa5598c72815eb4a75b1a966024554ab318e502bd694eb63523dec5a0a357fe548df3e5d6f6ec04538f241b174774c858a792d69094538f241b1747753d222b0a95d9b4538f241b17477626b531fa146bf4538f241b1747766c033552866b54538f241b17477430e8226ede47c4538f241b174777f9db3fd911907022a701ac38ffb36f1de959a0d2d538005edc8dbc16de3bd2b341a5a538005edc8dbc134c76e7ad67d32538005edc8dbc177944005dd936610b33462c1c58d7a4211586ebff110b33462c1c58d7a4211586ebff1216668c5838b1a7a4211586ebff142ccd18b071634,
0x69e958c3c9ba3162af45fc9b8fb769e958c3c9ba315b7533356d653d785d7e52260f255b7533356d653d42700991f1e71b4ef29e63afa62c785d7e52260f250c8294d1bdbf1173a12c72e2a7a00c8294d1bdbf1176ab1d861997a70c8294d1bdbf117bd07942597d430c8294d1bdbf117a8722534983dc0c8294d1bdbf1177f4747529910e0c8294d1bdbf11608ca9a4bb3dff6d0f3e7678fd10608ca9a4bb3dff7991d34836bc21608ca9a4bb3dff320a5346f6fc44608ca9a4bb3dff43f0100aa1be0d608ca9a4bb3dff27537670883e1b608ca9a4bb3dff4ea6ece1107c36608ca9a4bb3dff49a8fb8fda0ad7608ca9a4bb3dff32c54d7af8d7af608ca9a4bb3dff658a9af5f1af5e608ca9a4bb3dff6a888c472820bd,
0x1a415b409faca566f2b9ecf7cef83482b6813f594a4cb15eac58225369056d027eb294182ea82b18c90972b1b046ef02fe7787d1e9272b336ddb8ea4b6dac97787d1e9272b336ddb8ea4b6dac913588688e0a0d45a83081bd639f526b10d11c141a82bf16c41e2bdea5542a8ebb4bdb357e2d883c57bd429513ca9d1ffc95d2337b3e6f81629513ca9d1ffc958efb85a3294ae2b6afc56ac317d2d84bc0386633156d5f8ad5862fa2d84bc0386633152a27953a3ff92091a8c00b47a3d770ca95675e8861235180168f47a6df21d55c16e49246a3002d1e8f45bbd05545879cf48d46005a3d1e83752d5518690db36c33113b067b75b7533356d653d6d86622760cf6e5b7533356d653d7f97911954399f5b7533356d653d,
0x7a0fb602f2289d060c042ae9e2957b2f18ab9e9d96060c042ae9e2957d6dddfcf78788060c042ae9e2957fe2400c1ff3cd060c042ae9e2957abc2468266ecc060c042ae9e2957c87f5760729f4060c042ae9e2957a139366debdaf060c042ae9e2957b95c83ac1dd15060c042ae9e2957b95c83ac1dd150c180855d3c52a7b95c83ac1dd15183010aba78a5430e79f1dce502579ff4ee7442a9e30e79f1dce50256147c0751d64cd30e79f1dce502560c042ae9e295009c7ec9f8fa9a17e18088d4d2633138fd93f1f53427e18088d4d2633271fb27e3ea6847e18088d4d26334e3f64fc7d4d087e18088d4d26334e3f64fc7d4d08677766b25987df6a0ec68d422462193801b5dc3ad750d6c4d765e98b3270036bb875ae,
0x122ac85db3efb97c24a5fba74177122ac85db3efb9791dd16762f4df245590bb67df72791dd16762f4df599ffb32cec32d354a6a7766e3bb599ffb32cec32d6a94d4eecdc776599ffb32cec32d7b89aeaacccbbf599ffb32cec32d43d366effc112411eccbd6f627097999ca74de863f23d997adec4e127999ca74de863f47b32f5bd89c247999ca74de863f47b32f5bd89c2451ae1b2da697c37b70871415410a09faebd1cdfb9f7f1e005282b6a009faebd1cdfb9f70b94fcf64944d3d5a1dd09947f6335f31fecb4c577ab43ba1328fec66be63fd9698ae475509a26743953ed2b4b65eaa32475509a26743952918f4cbd5d6ac706dfe6e3d1a415231e997abad58706dfe6e3d1a4167eba9823480de1e3c14d6916ce9,
0x4b52b324b623d046ec5b638cb3c34fb90ae5df93dd46ec5b638cb3c34fb90ae5df93dd3e1fabe139d3a96c1795da7e422b1c5e8af49eae4e6c1795da7e422b38bd15e93d5c9c6c1795da7e422b717a2bd27ab9386c1795da7e422b76dcc1ca773045430262b317241f5cef923ec72a326c1795da7e422b19ed2f8bb00613707a6d863c6c0a19ed2f8bb00613306c12402282157ac5540bf50a3d60d8248045042a7ac5540bf50a3d73e8ba5d79f61b19ed2f8bb006137966021c42d303311bbb37fb9db2484a46e44735516237766ff73b64484a46e44735517c24a5fba74177146fe7cce7292b7c24a5fba7417735bea3f40abc057c24a5fba741776b7d47e815780a7c24a5fba741775ad5e9d483ae9d7c24a5fba74177,
0x75b137e95c97f542373031415186337a07b81b466f50f458aa675c9d66f40f70368cde50f458aa675c9d5e275fede3acc459c1082cba3cb7046657c129700d7eb5f34b8338d2046657c129700d7dd3f5b554c02b]
def ryP (i : Nat) : Nat:=(ryF.getD (i / 20) 0) / 2 ^ (112 * (i % 20)) % 2 ^ 112
def allR (f : Nat → Bool) : Nat → Bool
 | 0 => true
 | n + 1 => f n && allR f n
theorem QlK {f : Nat → Bool} {k : Nat} (h : allR f k = true) {i : Nat} (hi : i < k) : f i = true:=by
 induction k with
 | zero => omega
 | succ k ih =>
  have h' : (f k && allR f k) = true:=h
  rw [Bool.and_eq_true] at h'
  by_cases e : i = k
  ·rw [e]; exact h'.1
  ·exact ih h'.2 (by omega)
def farB (N D V P k k' : Nat) : Bool :=
 Nat.ble (N * P) (V * D) && (Nat.blt (2 ^ 55 * (V * D - N * P)) P || (Nat.beq ((k' * N / D + 1) * k) (k * N / D * k' + 1) && (Nat.ble 1 k && (Nat.blt (2 ^ 55) (k + k') && Nat.blt (2 ^ 55 * (V * D - N * P)) (((k' * N / D + 1) * D - k' * N) * P)))))
def chkA (i : Nat) : Bool:=farB (ryN i) (ryD i) (ryV i) (2 ^ ryS i) (ryP i % 2 ^ 56) (ryP i / 2 ^ 56)
def chkB (i : Nat) : Bool:=Nat.ble (10 * ryD i) (ryN i) && (Nat.blt (ryN i) (100 * ryD i) && (Nat.ble 121 (ryS i) && (Nat.ble (ryS i) 124 && (Nat.beq (ryN i * 10 ^ ryT i * 2 ^ 1076) (ryD i * 2 ^ i * 10 ^ 400) && (Nat.ble 75 (ryT i) && (Nat.ble (ryT i) 690 && (Nat.beq (ryT i + 1676) (ryS i + i + ryX (748 - ryT i)) && (Nat.ble (2 ^ 127) (ryV i) && Nat.blt (ryV i) (2 ^ 128)))))))))
theorem QoD : allR chkA 2046 = true:=by kernel_rfl
theorem QoE : allR chkB 2046 = true:=by kernel_rfl
end Ry
namespace Ry
theorem farey {N D h k h' k' c m C : Int} (u : h' * k = h * k' + 1) (hk : 1 ≤ k) (hk' : 0 ≤ k') (al : h * D ≤ k * N) (be : k' * N ≤ h' * D) (hC : C < k + k') (c0 : 0 ≤ c) (cC : c ≤ C) (hm : c * N < m * D) : h' * D - k' * N ≤ m * D - c * N:=by
 have e1 : c = k * (h' * c - k' * m) + k' * (k * m - h * c):=by grind
 have e2 : m * D - c * N = (k * m - h * c) * (h' * D - k' * N) - (h' * c - k' * m) * (k * N - h * D):=by grind
 generalize h' * c - k' * m = a at *
 generalize k * m - h * c = b at *
 have ha : 0 ≤ k * N - h * D:=by omega
 have hb : 0 ≤ h' * D - k' * N:=by omega
 generalize k * N - h * D = α at *
 generalize h' * D - k' * N = β at *
 have hp : 0 < b * β - a * α:=by omega
 by_cases q : b ≤ 0
 ·exfalso
  have h1 : b * β ≤ 0:=Int.mul_nonpos_of_nonpos_of_nonneg q hb
  have h2 : a * α < 0:=by omega
  have h3 : a ≤ -1:=by
   by_cases z : 0 ≤ a
   ·have:=Int.mul_nonneg z ha; omega
   ·omega
  have h4 : k * a ≤ k * (-1):=Int.mul_le_mul_of_nonneg_left h3 (by omega)
  have h5 : k' * b ≤ 0:=Int.mul_nonpos_of_nonneg_of_nonpos hk' q
  omega
 ·by_cases z : 1 ≤ a
  ·exfalso
   have h4 : k * 1 ≤ k * a:=Int.mul_le_mul_of_nonneg_left z (by omega)
   have h5 : k' * 1 ≤ k' * b:=Int.mul_le_mul_of_nonneg_left (show 1 ≤ b by omega) hk'
   omega
  ·have h1 : a * α ≤ 0:=Int.mul_nonpos_of_nonpos_of_nonneg (by omega) ha
   have h2 : 1 * β ≤ b * β:=Int.mul_le_mul_of_nonneg_right (by omega) hb
   omega
theorem QlL {N D V P k k' : Nat} (hD : 0 < D) (hP : 0 < P) (h : farB N D V P k k' = true) {c : Nat} (hc : c ≤ 2 ^ 55) : c * V / P = c * N / D:=by
 unfold farB at h
 rw [Bool.and_eq_true,Bool.or_eq_true,Bool.and_eq_true,Bool.and_eq_true,Bool.and_eq_true] at h
 obtain ⟨h1,h2⟩:=h
 have h1 : N * P ≤ V * D:=Nat.le_of_ble_eq_true h1
 have key : ∀ m,c * N < m * D → c * V < m * P:=by
  intro m hm
  have hg : c * (V * D - N * P) < (m * D - c * N) * P:=by
   rcases h2 with h2 | ⟨u,hk,hC,hb⟩
   ·have h2:=Nat.blt_eq.mp h2
    have a1 : c * (V * D - N * P) ≤ 2 ^ 55 * (V * D - N * P):=Nat.mul_le_mul_right _ hc
    have a2 : 1 * P ≤ (m * D - c * N) * P:=Nat.mul_le_mul_right _ (by omega)
    omega
   ·have hb:=Nat.blt_eq.mp hb
    have hC:=Nat.blt_eq.mp hC
    have hk:=Nat.le_of_ble_eq_true hk
    have u:=Nat.eq_of_beq_eq_true u
    have a1 : c * (V * D - N * P) ≤ 2 ^ 55 * (V * D - N * P):=Nat.mul_le_mul_right _ hc
    have al : k * N / D * D ≤ k * N:=Nat.div_mul_le_self _ _
    have be : k' * N < (k' * N / D + 1) * D:=by
     have:=Nat.lt_div_mul_add (a:=k' * N) hD
     rw [Nat.add_mul,Nat.one_mul]; exact this
    generalize k * N / D = f at *
    generalize k' * N / D + 1 = f' at *
    have fa:=farey (N:=N) (D:=D) (h:=f) (k:=k) (h':=f') (k':=k') (c:=c) (m:=m) (C:=2 ^ 55) (by exact_mod_cast u) (by omega) (by omega) (by exact_mod_cast al) (by exact_mod_cast Nat.le_of_lt be) (by omega) (by omega) (by omega) (by exact_mod_cast hm)
    have fb : f' * D - k' * N ≤ m * D - c * N:=by
     have e1 : ((f' * D - k' * N : Nat) : Int) = (f' : Int) * D - k' * N:=by rw [Int.ofNat_sub (Nat.le_of_lt be)]; simp
     have e2 : ((m * D - c * N : Nat) : Int) = (m : Int) * D - c * N:=by rw [Int.ofNat_sub (Nat.le_of_lt hm)]; simp
     omega
    have:=Nat.mul_le_mul_right P fb
    omega
  have e1 : c * (V * D - N * P) = c * V * D - c * N * P:=by rw [Nat.mul_sub,Nat.mul_assoc,Nat.mul_assoc]
  have e2 : (m * D - c * N) * P = m * P * D - c * N * P:=by rw [Nat.sub_mul,Nat.mul_right_comm]
  rw [e1,e2] at hg
  have l1 : c * V * D < m * P * D:=by omega
  exact Nat.lt_of_mul_lt_mul_right l1
 have q1 : c * N < (c * N / D + 1) * D:=by
  have:=Nat.lt_div_mul_add (a:=c * N) hD
  rw [Nat.add_mul,Nat.one_mul]; exact this
 have q2:=key _ q1
 have q3 : c * N / D * D ≤ c * N:=Nat.div_mul_le_self _ _
 generalize c * N / D = f at *
 have q4 : f * P * D ≤ c * V * D:=by
  have a1:=Nat.mul_le_mul_right P q3
  have a2:=Nat.mul_le_mul_left c h1
  have e1 : f * P * D = f * D * P:=Nat.mul_right_comm _ _ _
  have e2 : c * N * P = c * (N * P):=Nat.mul_assoc _ _ _
  have e3 : c * V * D = c * (V * D):=Nat.mul_assoc _ _ _
  omega
 have q5 : f * P ≤ c * V:=Nat.le_of_mul_le_mul_right q4 hD
 have r1:=(Nat.le_div_iff_mul_le hP).mpr q5
 have r2:=(Nat.div_lt_iff_lt_mul hP).mpr q2
 omega
structure ScF (i : Nat) : Prop where
 lo : 10 * ryD i ≤ ryN i
 hi : ryN i < 100 * ryD i
 s0 : 121 ≤ ryS i
 s1 : ryS i ≤ 124
 eq : ryN i * 10 ^ ryT i * 2 ^ 1076 = ryD i * 2 ^ i * 10 ^ 400
 t0 : 75 ≤ ryT i
 t1 : ryT i ≤ 690
 sx : ryT i + 1676 = ryS i + i + ryX (748 - ryT i)
 v0 : 2 ^ 127 ≤ ryV i
 v1 : ryV i < 2 ^ 128
theorem Qav {i : Nat} (h : i < 2046) : ScF i:=by
 have c:=QlK QoE h
 unfold chkB at c
 simp only [Bool.and_eq_true] at c
 obtain ⟨c1,c2,c3,c4,c5,c6,c7,c8,c9,c10⟩:=c
 exact ⟨Nat.le_of_ble_eq_true c1,Nat.blt_eq.mp c2,Nat.le_of_ble_eq_true c3,Nat.le_of_ble_eq_true c4,Nat.eq_of_beq_eq_true c5,Nat.le_of_ble_eq_true c6,Nat.le_of_ble_eq_true c7,Nat.eq_of_beq_eq_true c8,Nat.le_of_ble_eq_true c9,Nat.blt_eq.mp c10⟩
theorem Qck (i : Nat) : 0 < ryD i:=by unfold ryD; exact Nat.mul_pos (Nat.pow_pos (by omega)) (Nat.pow_pos (by omega))
theorem Qiq {i : Nat} (h : i < 2046) {c : Nat} (hc : c ≤ 2 ^ 55) : c * ryV i / 2 ^ ryS i = c * ryN i / ryD i :=
 QlL (Qck i) (Nat.pow_pos (by omega)) (QlK QoD h) hc
def Ls (t : Bool) (L y : Nat) : Prop:=if t = true then L ≤ y else L < y
def leN (t : Bool) (L D : Nat) : Nat:=if (t && decide (L % D = 0)) = true then L / D else L / D + 1
def grN (t : Bool) (H D : Nat) : Nat:=if (!t && decide (H % D = 0)) = true then H / D - 1 else H / D
theorem QsH {t : Bool} {L D : Nat} (hD : 0 < D) (y : Nat) : Ls t L (y * D) ↔ leN t L D ≤ y:=by
 unfold Ls leN
 have e:=Nat.div_add_mod L D
 have l:=Nat.mod_lt L hD
 have a1 : L ≤ y * D ↔ (if L % D = 0 then L / D else L / D + 1) ≤ y:=by
  constructor
  ·intro h
   split
   ·rename_i z
    have : L / D * D ≤ y * D:=by rw [Nat.mul_comm]; omega
    exact Nat.le_of_mul_le_mul_right this hD
   ·rename_i z
    have : L / D * D < y * D:=by rw [Nat.mul_comm]; omega
    exact Nat.lt_of_mul_lt_mul_right this
  ·intro h
   split at h
   ·rename_i z
    have:=Nat.mul_le_mul_right D h
    rw [Nat.mul_comm] at this; omega
   ·have:=Nat.mul_le_mul_right D h
    rw [Nat.add_mul,Nat.mul_comm] at this; omega
 have a2 : L < y * D ↔ L / D + 1 ≤ y:=by
  constructor
  ·intro h
   have : L / D * D < y * D:=by rw [Nat.mul_comm]; omega
   exact Nat.lt_of_mul_lt_mul_right this
  ·intro h
   have:=Nat.mul_le_mul_right D h
   rw [Nat.add_mul,Nat.mul_comm] at this; omega
 cases t
 ·simpa using a2
 ·rw [if_pos rfl,a1]; simp
theorem QsI {t : Bool} {H D : Nat} (hD : 0 < D) (hH : 0 < H) (y : Nat) : Ls t (y * D) H ↔ y ≤ grN t H D:=by
 unfold Ls grN
 have e:=Nat.div_add_mod H D
 have l:=Nat.mod_lt H hD
 have a1 : y * D ≤ H ↔ y ≤ H / D:=(Nat.le_div_iff_mul_le hD).symm
 have a2 : y * D < H ↔ y ≤ (if H % D = 0 then H / D - 1 else H / D):=by
  split
  ·rename_i z
   have p : 0 < H / D:=by
    rcases Nat.eq_zero_or_pos (H / D) with q | q
    ·rw [q,Nat.mul_zero] at e; omega
    ·exact q
   constructor
   ·intro h
    have : y * D < H / D * D:=by rw [Nat.mul_comm (H / D)]; omega
    have:=Nat.lt_of_mul_lt_mul_right this
    omega
   ·intro h
    have:=Nat.mul_le_mul_right D (show y + 1 ≤ H / D by omega)
    rw [Nat.add_mul,Nat.mul_comm (H / D)] at this; omega
  ·rename_i z
   constructor
   ·intro h; exact a1.mp (by omega)
   ·intro h
    have:=a1.mpr h
    have ne : y * D ≠ H:=fun q => z (by rw [← q]; exact Nat.mul_mod_left _ _)
    omega
 cases t
 ·rw [if_neg (by simp),a2]; simp
 ·simpa using a1
structure Sp where
 low : Nat
 high : Nat
 own : Nat
 last : Nat
 more : Bool
 tens : Nat
def lessS (s : Sp) : Sp:=⟨(s.low + 9) / 10,s.high / 10,s.own / 10,s.own % 10,s.more || !decide (s.last = 0),s.tens + 1⟩
def goS : Nat → Sp → Sp
 | 0,s => s
 | n + 1,s => if (lessS s).high < (lessS s).low then s else goS n (lessS s)
def neS (s : Sp) : Nat:=max (if 5 < s.last ∨ (s.last = 5 ∧ (s.more = true ∨ s.own % 2 ≠ 0)) then s.own + 1 else s.own) s.low
structure SpI (t : Bool) (L H X U : Nat) (s : Sp) : Prop where
 lo : ∀ y,Ls t L (y * U) ↔ s.low ≤ y
 hi : ∀ y,Ls t (y * U) H ↔ y ≤ s.high
 ow : s.own * U ≤ X ∧ X < (s.own + 1) * U
 mo : (s.more || !decide (s.last = 0)) = !decide (X = s.own * U)
theorem QeF {t : Bool} {L H X U : Nat} {s : Sp} (h : SpI t L H X U s) : SpI t L H X (10 * U) (lessS s) ∧ (lessS s).last = s.own % 10 ∧ (lessS s).more = !decide (X = s.own * U):=by
 obtain ⟨h1,h2,⟨h3,h4⟩,h5⟩:=h
 refine ⟨⟨fun y => ?_,fun y => ?_,?_,?_⟩,rfl,h5⟩
 ·have:=h1 (y * 10)
  rw [show y * (10 * U) = y * 10 * U by rw [Nat.mul_assoc],this]
  show _ ↔ (s.low + 9) / 10 ≤ y
  omega
 ·have:=h2 (y * 10)
  rw [show y * (10 * U) = y * 10 * U by rw [Nat.mul_assoc],this]
  show _ ↔ y ≤ s.high / 10
  omega
 ·show s.own / 10 * (10 * U) ≤ X ∧ X < (s.own / 10 + 1) * (10 * U)
  have a:=Nat.mul_le_mul_right U (show s.own / 10 * 10 ≤ s.own by omega)
  have b:=Nat.mul_le_mul_right U (show s.own + 1 ≤ (s.own / 10 + 1) * 10 by omega)
  rw [Nat.mul_assoc] at a b
  omega
 ·show ((s.more || !decide (s.last = 0)) || !decide (s.own % 10 = 0)) = !decide (X = s.own / 10 * (10 * U))
  rw [h5]
  have e : s.own / 10 * (10 * U) = s.own / 10 * 10 * U:=by rw [Nat.mul_assoc]
  rw [e,Bool.eq_iff_iff]
  simp only [Bool.or_eq_true,Bool.not_eq_true',decide_eq_false_iff_not]
  constructor
  ·intro q r
   have hle:=Nat.mul_le_mul_right U (show s.own / 10 * 10 ≤ s.own by omega)
   have hX : X = s.own * U:=by omega
   rcases q with q | q
   ·exact q hX
   ·have : s.own / 10 * 10 + 1 ≤ s.own:=by omega
    have:=Nat.mul_le_mul_right U this
    have up : 0 < U:=by
     rcases Nat.eq_zero_or_pos U with z | z
     ·rw [z] at h4; omega
     ·exact z
    rw [Nat.add_mul] at this
    omega
  ·intro q
   by_cases z : s.own % 10 = 0
   ·left; intro r; apply q; rw [r]; congr 1; omega
   ·right; exact z
end Ry
namespace Ry
theorem QsJ {t : Bool} {L H X U : Nat} {s : Sp} (h : SpI t L H X U s) (o : Nat) (ho : o = if 5 < (lessS s).last ∨ ((lessS s).last = 5 ∧ ((lessS s).more = true ∨ (lessS s).own % 2 ≠ 0)) then (lessS s).own + 1 else (lessS s).own) :
  2 * o * (10 * U) ≤ 2 * X + 10 * U ∧ (2 * o * (10 * U) = 2 * X + 10 * U → o % 2 = 0) ∧ 2 * X ≤ (2 * o + 1) * (10 * U) ∧ (2 * X = (2 * o + 1) * (10 * U) → o % 2 = 0):=by
 obtain ⟨-,e2,e3⟩:=QeF h
 obtain ⟨-,-,⟨h3,h4⟩,-⟩:=h
 rw [e2,e3] at ho
 change o = if 5 < s.own % 10 ∨ (s.own % 10 = 5 ∧ ((!decide (X = s.own * U)) = true ∨ s.own / 10 % 2 ≠ 0)) then s.own / 10 + 1 else s.own / 10 at ho
 have up : 0 < U:=by
  rcases Nat.eq_zero_or_pos U with z | z
  ·rw [z] at h4; omega
  ·exact z
 have d : s.own = s.own / 10 * 10 + s.own % 10:=by omega
 have l : s.own % 10 < 10:=by omega
 generalize s.own / 10 = p at *
 generalize s.own % 10 = q at *
 rw [d] at h3 h4 ho
 simp only [Bool.not_eq_true',decide_eq_false_iff_not] at ho
 have e1 : (p * 10 + q) * U = 10 * (p * U) + q * U:=by rw [Nat.add_mul,Nat.mul_right_comm,Nat.mul_comm]
 have e1' : (p * 10 + q + 1) * U = 10 * (p * U) + q * U + U:=by rw [Nat.add_mul,e1,Nat.one_mul]
 have e4 : 2 * p * (10 * U) = 20 * (p * U):=by rw [show 2 * p * (10 * U) = 2 * 10 * (p * U) by rw [Nat.mul_mul_mul_comm]]
 have e5 : 2 * (p + 1) * (10 * U) = 20 * (p * U) + 20 * U:=by rw [Nat.mul_add,Nat.add_mul,e4]; omega
 have e6 : (2 * p + 1) * (10 * U) = 20 * (p * U) + 10 * U:=by rw [Nat.add_mul,e4,Nat.one_mul]
 have e7 : (2 * (p + 1) + 1) * (10 * U) = 20 * (p * U) + 30 * U:=by rw [Nat.add_mul,e5,Nat.one_mul]; omega
 rw [e1] at h3 ho
 rw [e1'] at h4
 generalize p * U = P at *
 split at ho
 ·rename_i c
  subst ho
  rw [e5,e7]
  rcases c with c | ⟨c,c'⟩
  ·have b:=Nat.mul_le_mul_right U (show 6 ≤ q by omega)
   have b':=Nat.mul_le_mul_right U (show q ≤ 9 by omega)
   refine ⟨by omega,by omega,by omega,by omega⟩
  ·subst c
   refine ⟨by omega,?_,by omega,by omega⟩
   intro z
   rcases c' with c' | c'
   ·omega
   ·omega
 ·rename_i c
  subst ho
  rw [e4,e6]
  by_cases c5 : q = 5
  ·subst c5
   have c1 : X = 10 * P + 5 * U:=Decidable.byContradiction fun z => c (Or.inr ⟨rfl,Or.inl z⟩)
   have c2 : o % 2 = 0:=Decidable.byContradiction fun z => c (Or.inr ⟨rfl,Or.inr (by omega)⟩)
   refine ⟨by omega,by omega,by omega,fun _ => c2⟩
  ·have b:=Nat.mul_le_mul_right U (show q ≤ 4 by omega)
   refine ⟨by omega,by omega,by omega,by omega⟩
structure ShI (t : Bool) (L H X U R : Nat) : Prop where
 lo : Ls t L (R * U)
 hi : Ls t (R * U) H
 no : ∀ y,Ls t L (y * (10 * U)) → ¬ Ls t (y * (10 * U)) H
 nb : ∀ y,y < R → Ls t L (y * U) → (R + y) * U ≤ 2 * X ∧ ((R + y) * U = 2 * X → R % 2 = 0)
 na : ∀ y,R < y → Ls t (y * U) H → 2 * X ≤ (R + y) * U ∧ (2 * X = (R + y) * U → R % 2 = 0)
theorem QsK {t : Bool} {L H X U : Nat} {s : Sp} (h : SpI t L H X U s) (hX : 2 * X ≤ L + H) (hl : (lessS s).low ≤ (lessS s).high) (he : (lessS (lessS s)).high < (lessS (lessS s)).low) :
  ShI t L H X (10 * U) (neS (lessS s)):=by
 obtain ⟨h',-,-⟩:=QeF h
 obtain ⟨h'',-,-⟩:=QeF h'
 have o:=QsJ h _ rfl
 unfold neS
 generalize (if 5 < (lessS s).last ∨ ((lessS s).last = 5 ∧ ((lessS s).more = true ∨ (lessS s).own % 2 ≠ 0)) then (lessS s).own + 1 else (lessS s).own) = r at *
 obtain ⟨o1,o2,o3,o4⟩:=o
 obtain ⟨a1,a2,a3,-⟩:=h'
 obtain ⟨b1,b2,-,-⟩:=h''
 have up : 0 < 10 * U:=by
  rcases Nat.eq_zero_or_pos (10 * U) with z | z
  ·rw [z] at a3; omega
  ·exact z
 generalize lessS s = s1 at *
 generalize lessS s1 = s2 at *
 generalize 10 * U = V at *
 have hno : ∀ y,Ls t L (y * (10 * V)) → ¬ Ls t (y * (10 * V)) H:=by
  intro y q q'
  have:=(b1 y).mp q
  have:=(b2 y).mp q'
  omega
 have hrh : r ≤ s1.high:=by
  by_cases z : r ≤ s1.high
  ·exact z
  ·exfalso
   have z1 : ¬ Ls t (r * V) H:=fun q => z ((a2 r).mp q)
   have z2:=(a1 s1.high).mpr hl
   have z3:=Nat.mul_le_mul_right V (show s1.high + 1 ≤ r by omega)
   rw [Nat.add_mul] at z3
   have z4 : 2 * r * V = r * V + r * V:=by rw [Nat.two_mul,Nat.add_mul]
   unfold Ls at z1 z2
   cases t
   ·simp at z1 z2; omega
   ·simp at z1 z2; omega
 have e2r : 2 * r * V = r * V + r * V:=by rw [Nat.two_mul,Nat.add_mul]
 have e2r' : (2 * r + 1) * V = r * V + r * V + V:=by rw [Nat.add_mul,e2r,Nat.one_mul]
 rw [e2r] at o1 o2
 rw [e2r'] at o3 o4
 rcases Nat.lt_or_ge r s1.low with z | z
 ·rw [Nat.max_eq_right (Nat.le_of_lt z)]
  refine ⟨(a1 _).mpr (Nat.le_refl _),(a2 _).mpr hl,hno,fun y q q' => ?_,fun y q q' => ?_⟩
  ·have:=(a1 y).mp q'; omega
  ·have g:=Nat.mul_le_mul_right V (show 2 * r + 2 ≤ s1.low + y by omega)
   have : (2 * r + 2) * V = r * V + r * V + V + V:=by rw [Nat.add_mul,e2r,Nat.two_mul]; omega
   exact ⟨by omega,by omega⟩
 ·rw [Nat.max_eq_left z]
  refine ⟨(a1 _).mpr z,(a2 _).mpr hrh,hno,fun y q q' => ?_,fun y q q' => ?_⟩
  ·have g:=Nat.mul_le_mul_right V (show y + 1 ≤ r by omega)
   rw [Nat.add_mul] at g
   rw [Nat.add_mul]
   refine ⟨by omega,fun e => o2 (by omega)⟩
  ·have g:=Nat.mul_le_mul_right V (show r + 1 ≤ y by omega)
   rw [Nat.add_mul] at g
   rw [Nat.add_mul]
   refine ⟨by omega,fun e => o4 (by omega)⟩
theorem go_is {t : Bool} {L H X : Nat} (hX : 2 * X ≤ L + H) (n : Nat) : ∀ (U : Nat) (s : Sp),SpI t L H X U s → (lessS s).low ≤ (lessS s).high → 1 ≤ (lessS s).low → (lessS s).high < 10 ^ n →
  ∃ k,(goS n (lessS s)).tens = s.tens + 1 + k ∧ ShI t L H X (10 ^ (k + 1) * U) (neS (goS n (lessS s))):=by
 induction n with
 | zero => intro U s h h1 h2 h3; simp at h3; omega
 | succ n ih =>
  intro U s h h1 h2 h3
  rw [goS]
  split
  ·rename_i c
   refine ⟨0,rfl,?_⟩
   rw [Nat.zero_add,Nat.pow_one]
   exact QsK h hX h1 c
  ·rename_i c
   have c1 : (lessS (lessS s)).low = ((lessS s).low + 9) / 10:=rfl
   have c2 : (lessS (lessS s)).high = (lessS s).high / 10:=rfl
   obtain ⟨k,e,q⟩:=ih (10 * U) (lessS s) (QeF h).1 (by omega) (by omega) (by rw [Nat.pow_succ] at h3; omega)
   refine ⟨k + 1,?_,?_⟩
   ·rw [e]; show s.tens + 1 + 1 + k = _; omega
   ·have : 10 ^ (k + 1) * (10 * U) = 10 ^ (k + 1 + 1) * U:=by rw [Nat.pow_succ 10 (k + 1),Nat.mul_assoc]
    rw [this] at q
    exact q
def dnR (m i : Nat) : Nat:=if m = 4503599627370496 ∧ 0 < i then 1 else 2
def evR (m : Nat) : Bool:=decide (m % 2 = 0)
def s0R (m i : Nat) : Sp:=⟨leN (evR m) ((4 * m - dnR m i) * ryN i) (ryD i),grN (evR m) ((4 * m + 2) * ryN i) (ryD i),4 * m * ryN i / ryD i,0,!decide (4 * m * ryN i % ryD i = 0),ryT i⟩
def finR (m i : Nat) : Sp:=goS 20 (s0R m i)
theorem s0_is {m i : Nat} (hm : 0 < m) (hi : i < 2046) : SpI (evR m) ((4 * m - dnR m i) * ryN i) ((4 * m + 2) * ryN i) (4 * m * ryN i) (ryD i) (s0R m i):=by
 have f:=Qav hi
 have dp:=Qck i
 have hN : 0 < ryN i:=by have:=f.lo; omega
 refine ⟨fun y => QsH dp y,fun y => QsI dp (Nat.mul_pos (by omega) hN) y,?_,?_⟩
 ·show 4 * m * ryN i / ryD i * ryD i ≤ _ ∧ _ < (4 * m * ryN i / ryD i + 1) * ryD i
  refine ⟨Nat.div_mul_le_self _ _,?_⟩
  have:=Nat.lt_div_mul_add (a:=4 * m * ryN i) dp
  rw [Nat.add_mul,Nat.one_mul]; exact this
 ·show (!decide (4 * m * ryN i % ryD i = 0) || !decide (0 = 0)) = !decide (4 * m * ryN i = 4 * m * ryN i / ryD i * ryD i)
  have e:=Nat.div_add_mod (4 * m * ryN i) (ryD i)
  rw [Nat.mul_comm (ryD i)] at e
  rw [Bool.eq_iff_iff]
  simp
  omega
theorem room {t : Bool} {L H U : Nat} (hU : 0 < U) (h : L + U < H) : ∃ y,Ls t L (y * U) ∧ Ls t (y * U) H:=by
 have a:=Nat.lt_div_mul_add (a:=L) hU
 have b : L / U * U ≤ L:=Nat.div_mul_le_self _ _
 refine ⟨L / U + 1,?_,?_⟩
 ·unfold Ls; rw [Nat.add_mul,Nat.one_mul]; split <;> omega
 ·unfold Ls; rw [Nat.add_mul,Nat.one_mul]; split <;> omega
theorem Qc2 (m i : Nat) : (dnR m i = 1 ∧ m = 4503599627370496) ∨ dnR m i = 2:=by
 unfold dnR; split
 ·rename_i h; exact Or.inl ⟨rfl,h.1⟩
 ·exact Or.inr rfl
theorem Qjx {m i : Nat} (hm : 0 < m) (hm' : m < 9007199254740992) (hi : i < 2046) : ∃ j,1 ≤ j ∧ (finR m i).tens = ryT i + j ∧
  ShI (evR m) ((4 * m - dnR m i) * ryN i) ((4 * m + 2) * ryN i) (4 * m * ryN i) (10 ^ j * ryD i) (neS (finR m i)):=by
 have s:=s0_is hm hi
 have f:=Qav hi
 have dp:=Qck i
 have l1:=(QeF s).1
 have dc:=Qc2 m i
 have hN:=f.lo
 have eL : (4 * m - dnR m i) * ryN i = 4 * m * ryN i - dnR m i * ryN i:=Nat.sub_mul _ _ _
 have eH : (4 * m + 2) * ryN i = 4 * m * ryN i + 2 * ryN i:=Nat.add_mul _ _ _
 have g4 : 4 * ryN i ≤ 4 * m * ryN i:=Nat.mul_le_mul_right _ (by omega)
 have gd : dnR m i * ryN i ≤ 2 * ryN i:=Nat.mul_le_mul_right _ (by omega)
 have gd1 : 1 * ryN i ≤ dnR m i * ryN i:=Nat.mul_le_mul_right _ (by omega)
 have hlow : (lessS (s0R m i)).low ≤ (lessS (s0R m i)).high:=by
  obtain ⟨y,q,q'⟩:=room (t:=evR m) (L:=(4 * m - dnR m i) * ryN i) (H:=(4 * m + 2) * ryN i) (U:=10 * ryD i) (by omega) (by rw [eL,eH]; omega)
  have:=(l1.lo y).mp q
  have:=(l1.hi y).mp q'
  omega
 have hone : 1 ≤ (lessS (s0R m i)).low:=by
  rcases Nat.eq_zero_or_pos (lessS (s0R m i)).low with z | z
  ·have:=(l1.lo 0).mpr (by omega)
   rw [Nat.zero_mul] at this
   unfold Ls at this
   have p : 0 < (4 * m - dnR m i) * ryN i:=Nat.mul_pos (by omega) (by omega)
   split at this <;> omega
  ·exact z
 have htop : (lessS (s0R m i)).high < 10 ^ 19:=by
  have a:=(l1.hi (lessS (s0R m i)).high).mpr (Nat.le_refl _)
  have b : (lessS (s0R m i)).high * (10 * ryD i) ≤ (4 * m + 2) * ryN i:=by unfold Ls at a; split at a <;> omega
  have c : (4 * m + 2) * ryN i < 36028797018963968 * (100 * ryD i):=Nat.lt_of_le_of_lt (Nat.mul_le_mul_left _ (Nat.le_of_lt f.hi)) (Nat.mul_lt_mul_of_pos_right (by omega) (by omega))
  rcases Nat.lt_or_ge (lessS (s0R m i)).high (10 ^ 19) with z | z
  ·exact z
  ·have:=Nat.mul_le_mul_right (10 * ryD i) z
   omega
 have e20 : finR m i = goS 19 (lessS (s0R m i)):=by
  unfold finR
  rw [goS,if_neg (by omega)]
 obtain ⟨k,e,q⟩:=go_is (X:=4 * m * ryN i) (by rw [eL,eH]; omega) 19 (ryD i) (s0R m i) s hlow hone htop
 refine ⟨k + 1,by omega,?_,?_⟩
 ·rw [e20,e]; show ryT i + 1 + k = _; omega
 ·rw [e20]; exact q
structure ToI (R T : Nat) : Prop where
 r0 : 0 < R
 r1 : R < 100000000000000000
 ne : R % 10 ≠ 0
 t0 : 76 ≤ T
 t1 : T ≤ 708
theorem bnd {R U K N c : Nat} (up : 0 < U) (top : R * U ≤ K * N) (a : c * N ≤ 10 * U) : c * R ≤ 10 * K:=by
 have h1:=Nat.mul_le_mul_left c top
 have h2:=Nat.mul_le_mul_left K a
 have e1 : c * (R * U) = c * R * U:=by rw [Nat.mul_assoc]
 have e2 : c * (K * N) = K * (c * N):=by rw [Nat.mul_left_comm]
 have e3 : K * (10 * U) = 10 * K * U:=by rw [← Nat.mul_assoc,Nat.mul_comm K]
 exact Nat.le_of_mul_le_mul_right (show c * R * U ≤ 10 * K * U by omega) up
theorem Qq3 {a b : Nat} (h : Nat.ble a b = false) : ¬ a ≤ b:=by
 intro q
 have:=Nat.ble_eq.mpr q
 rw [h] at this
 cases this
theorem Qq4 {m i e K M A B C : Nat} (hm : 4 * m + 2 ≤ C) (hi : i ≤ K) (hz : M ≤ e) (hbig : Nat.ble (10 ^ M * A) (C * 2 ^ K * B) = false) (b : 10 ^ e * A ≤ (4 * m + 2) * 2 ^ i * B) : False :=
 Qq3 hbig (Nat.le_trans (Nat.mul_le_mul_right _ (Nat.pow_le_pow_right (Nat.succ_pos 9) hz)) (Nat.le_trans b (Nat.mul_le_mul_right _ (Nat.mul_le_mul hm (Nat.pow_le_pow_right (Nat.succ_pos 1) hi)))))
theorem Qq5 {m i : Nat} (hm : 0 < m) (hm' : m < 9007199254740992) (hi : i < 2046) : ToI (neS (finR m i)) (finR m i).tens:=by
 obtain ⟨j,hj,e,q⟩:=Qjx hm hm' hi
 have f:=Qav hi
 have dp:=Qck i
 rw [e]
 generalize neS (finR m i) = R at *
 have dc:=Qc2 m i
 have hN:=f.lo
 have eL : (4 * m - dnR m i) * ryN i = 4 * m * ryN i - dnR m i * ryN i:=Nat.sub_mul _ _ _
 have eH : (4 * m + 2) * ryN i = 4 * m * ryN i + 2 * ryN i:=Nat.add_mul _ _ _
 have g4 : 4 * ryN i ≤ 4 * m * ryN i:=Nat.mul_le_mul_right _ (by omega)
 have gd : dnR m i * ryN i ≤ 2 * ryN i:=Nat.mul_le_mul_right _ (by omega)
 have gd1 : 1 * ryN i ≤ dnR m i * ryN i:=Nat.mul_le_mul_right _ (by omega)
 have up : 0 < 10 ^ j * ryD i:=Nat.mul_pos (Nat.pow_pos (by omega)) dp
 have w : (4 * m + 2) * ryN i ≤ (4 * m - dnR m i) * ryN i + 10 * (10 ^ j * ryD i):=by
  rcases Nat.lt_or_ge ((4 * m - dnR m i) * ryN i + 10 * (10 ^ j * ryD i)) ((4 * m + 2) * ryN i) with z | z
  ·obtain ⟨y,a,b⟩:=room (t:=evR m) (by omega) z
   exact absurd b (q.no y a)
  ·exact z
 have top : R * (10 ^ j * ryD i) ≤ (4 * m + 2) * ryN i:=by have:=q.hi; unfold Ls at this; split at this <;> omega
 have r0 : 0 < R:=by
  rcases Nat.eq_zero_or_pos R with z | z
  ·have:=q.lo
   rw [z,Nat.zero_mul] at this
   unfold Ls at this
   have p : 0 < (4 * m - dnR m i) * ryN i:=Nat.mul_pos (by omega) (by omega)
   split at this <;> omega
  ·exact z
 refine ⟨r0,?_,?_,by have:=f.t0; omega,?_⟩
 ·generalize hU : 10 ^ j * ryD i = U at *
  rcases dc with ⟨d1,d2⟩ | d2
  ·rw [d1] at eL w
   have:=bnd (c:=3) up top (by omega)
   omega
  ·rw [d2] at eL w
   have:=bnd (c:=4) up top (by omega)
   omega
 ·intro z
  have e10 : R / 10 * (10 * (10 ^ j * ryD i)) = R * (10 ^ j * ryD i):=by
   rw [← Nat.mul_assoc]; congr 1; omega
  exact q.no (R / 10) (by rw [e10]; exact q.lo) (by rw [e10]; exact q.hi)
 ·rcases Nat.lt_or_ge (ryT i + j) 709 with z | z
  ·omega
  ·exfalso
   have c0 : 4 * m + 2 ≤ 2 ^ 55:=by omega
   have c2 : i ≤ 2045:=by omega
   have a : 10 ^ j * ryD i ≤ (4 * m + 2) * ryN i:=Nat.le_trans (Nat.le_mul_of_pos_left _ r0) top
   have b:=Nat.mul_le_mul_right (10 ^ ryT i * 2 ^ 1076) a
   have e1 : 10 ^ j * ryD i * (10 ^ ryT i * 2 ^ 1076) = 10 ^ (ryT i + j) * 2 ^ 1076 * ryD i:=by rw [Nat.pow_add]; generalize 10 ^ ryT i = A; generalize 10 ^ j = B; generalize 2 ^ 1076 = C; grind
   have e2 : (4 * m + 2) * ryN i * (10 ^ ryT i * 2 ^ 1076) = (4 * m + 2) * 2 ^ i * 10 ^ 400 * ryD i:=by
    rw [Nat.mul_assoc,← Nat.mul_assoc (ryN i),f.eq]
    generalize 10 ^ 400 = A; generalize 2 ^ i = B; grind
   rw [e1,e2] at b
   have b:=Nat.le_of_mul_le_mul_right b dp
   exact Qq4 (K:=2045) (M:=709) c0 c2 z (by kernel_rfl) b
end Ry
namespace Lx
def dv (l : B) : Int:=l.foldl (fun a b => a * 10 + ((b.toNat : Int) - 48)) 0
theorem Qq6 (l : B) (b : UInt8) : dv (l ++ [b]) = dv l * 10 + ((b.toNat : Int) - 48):=by unfold dv; rw [List.foldl_append]; rfl
theorem Qq7 (l : B) (a : Int) : l.foldl (fun a b => a * 10 + ((b.toNat : Int) - 48)) a = a * 10 ^ l.length + dv l:=by
 induction l generalizing a with
 | nil => simp [dv]
 | cons b r ih =>
  unfold dv
  rw [List.foldl_cons,List.foldl_cons,ih,ih,List.length_cons,Int.pow_succ]
  grind
theorem QbR (l m : B) : dv (l ++ m) = dv l * 10 ^ m.length + dv m:=by
 have : dv (l ++ m) = m.foldl (fun a b => a * 10 + ((b.toNat : Int) - 48)) (dv l):=by unfold dv; rw [List.foldl_append]
 rw [this,Qq7]
theorem QfH {b : UInt8} (h : isD b = true) : 48 ≤ b.toNat ∧ b.toNat ≤ 57:=by
 unfold isD at h
 simpa using h
theorem QdB (n : Nat) : (0 : Int) < 10 ^ n:=Int.pow_pos (by omega)
theorem dv_bd {l : B} (h : ∀ b ∈ l,isD b = true) : 0 ≤ dv l ∧ dv l < 10 ^ l.length:=by
 induction l with
 | nil => simp [dv]
 | cons b r ih =>
  obtain ⟨i0,i1⟩:=ih (fun c hc => h c (List.mem_cons_of_mem _ hc))
  obtain ⟨b0,b1⟩:=QfH (h b (List.mem_cons_self ..))
  have e : dv (b :: r) = ((b.toNat : Int) - 48) * 10 ^ r.length + dv r:=by
   have:=QbR [b] r
   rw [List.singleton_append] at this
   rw [this]
   congr 2
   simp [dv]
  rw [e,List.length_cons,Int.pow_succ]
  have hp:=QdB r.length
  generalize (10 : Int) ^ r.length = P at *
  have q0 : 0 ≤ ((b.toNat : Int) - 48) * P:=Int.mul_nonneg (by omega) (by omega)
  have q1 : ((b.toNat : Int) - 48) * P ≤ 9 * P:=Int.mul_le_mul_of_nonneg_right (by omega) (by omega)
  omega
theorem QlM {l : B} (h : ∀ b ∈ l,isD b = true) : dv l = 0 ↔ ∀ b ∈ l,b = 48:=by
 induction l with
 | nil => simp [dv]
 | cons b r ih =>
  have hr : ∀ c ∈ r,isD c = true:=fun c hc => h c (List.mem_cons_of_mem _ hc)
  have i:=ih hr
  obtain ⟨j0,j1⟩:=dv_bd hr
  obtain ⟨b0,b1⟩:=QfH (h b (List.mem_cons_self ..))
  have e : dv (b :: r) = ((b.toNat : Int) - 48) * 10 ^ r.length + dv r:=by
   have:=QbR [b] r
   rw [List.singleton_append] at this
   rw [this]
   congr 2
   simp [dv]
  rw [e]
  have hp:=QdB r.length
  constructor
  ·intro hz
   have q0 : 0 ≤ ((b.toNat : Int) - 48) * 10 ^ r.length:=Int.mul_nonneg (by omega) (by omega)
   have z1 : ((b.toNat : Int) - 48) * 10 ^ r.length = 0:=by omega
   have z2 : (b.toNat : Int) - 48 = 0:=by
    rcases Int.mul_eq_zero.mp z1 with h | h
    ·exact h
    ·omega
   intro c hc
   rcases List.mem_cons.mp hc with rfl | hc
   ·apply UInt8.toNat_inj.mp
    show c.toNat = 48
    omega
   ·exact i.mp (by omega) c hc
  ·intro hz
   have hb : b = 48:=hz b (List.mem_cons_self ..)
   have hr0:=i.mpr (fun c hc => hz c (List.mem_cons_of_mem _ hc))
   rw [hr0,hb]
   simp
def allD (l : B) : Bool:=l.all isD
def said (l : B) : B:=l.dropWhile (fun b => ([48] : B).contains b)
def usedN (l : B) : Nat:=min (said l).length 19
def cutV (l : B) : Int:=if allD l = true then dv ((said l).take (usedN l)) else 0
def cutN (l : B) : Nat:=if allD l = true then l.length - (said l).length + usedN l else 0
def cutMr (l : B) : Bool:=if allD l = true then ((said l).drop (usedN l)).any (fun b => b != 48) else false
def cutE (l : B) : Int:=if allD l = true then 0 else 41
theorem Qct {l : B} : allD l = true ↔ ∀ b ∈ l,isD b = true:=by unfold allD; exact List.all_eq_true
theorem QdC (l : B) : ∃ k,k ≤ l.length ∧ said l = l.drop k ∧ (∀ b ∈ l.take k,b = 48) ∧ (∀ b r,said l = b :: r → b ≠ 48):=by
 unfold said
 induction l with
 | nil => exact ⟨0,by simp,rfl,by simp,by simp⟩
 | cons c r ih =>
  rw [List.dropWhile_cons]
  by_cases h : c = 48
  ·subst h
   obtain ⟨k,k1,k2,k3,k4⟩:=ih
   have : ([48] : B).contains 48 = true:=by decide
   rw [if_pos this]
   refine ⟨k + 1,by simp; omega,by simpa using k2,?_,k4⟩
   intro b hb
   rw [List.take_succ_cons] at hb
   rcases List.mem_cons.mp hb with rfl | hb
   ·rfl
   ·exact k3 b hb
  ·have : ¬ (([48] : B).contains c = true):=by simpa using h
   rw [if_neg this]
   refine ⟨0,by simp,rfl,by simp,?_⟩
   intro b r' e
   injection e with e1 e2
   rw [← e1]; exact h
theorem Qq8 (l : B) : (said l).length ≤ l.length:=by
 obtain ⟨k,k1,k2,_,_⟩:=QdC l
 rw [k2,List.length_drop]; omega
theorem QeG {l : B} (h : allD l = true) : ∃ r : Int,dv l = cutV l * 10 ^ (l.length - cutN l) + r ∧ 0 ≤ r ∧ r < 10 ^ (l.length - cutN l) ∧ (cutMr l = true ↔ r ≠ 0) ∧ cutN l ≤ l.length ∧ 0 ≤ cutV l ∧ cutV l ≤ 9999999999999999999 ∧ (cutN l < l.length → 1000000000000000000 ≤ cutV l):=by
 obtain ⟨k,k1,k2,k3,k4⟩:=QdC l
 have hall:=Qct.mp h
 have hsl : ∀ b ∈ said l,isD b = true:=fun b hb => hall b (by rw [k2] at hb; exact List.mem_of_mem_drop hb)
 have hlen : (said l).length = l.length - k:=by rw [k2,List.length_drop]
 have hu : usedN l ≤ (said l).length:=by unfold usedN; omega
 have hu19 : usedN l ≤ 19:=by unfold usedN; omega
 have ev : cutV l = dv ((said l).take (usedN l)):=by unfold cutV; rw [if_pos h]
 have en : cutN l = l.length - (said l).length + usedN l:=by unfold cutN; rw [if_pos h]
 have em : cutMr l = ((said l).drop (usedN l)).any (fun b => b != 48):=by unfold cutMr; rw [if_pos h]
 have hrest : ∀ b ∈ (said l).drop (usedN l),isD b = true:=fun b hb => hsl b (List.mem_of_mem_drop hb)
 have htake : ∀ b ∈ (said l).take (usedN l),isD b = true:=fun b hb => hsl b (List.mem_of_mem_take hb)
 have hlr : ((said l).drop (usedN l)).length = l.length - cutN l:=by rw [List.length_drop,en,hlen]; omega
 obtain ⟨r0,r1⟩:=dv_bd hrest
 obtain ⟨v0,v1⟩:=dv_bd htake
 rw [hlr] at r1
 have htl : ((said l).take (usedN l)).length = usedN l:=by rw [List.length_take]; omega
 rw [htl,← ev] at v1
 rw [← ev] at v0
 have hpow : (10 : Int) ^ usedN l ≤ 10 ^ 19:=by
  have : (10 : Int) ^ 19 = 10 ^ usedN l * 10 ^ (19 - usedN l):=by rw [← Int.pow_add]; congr 1; omega
  rw [this]
  have p1:=QdB (usedN l)
  have p2:=QdB (19 - usedN l)
  have:=Int.mul_le_mul_of_nonneg_left (show (1 : Int) ≤ 10 ^ (19 - usedN l) by omega) (Int.le_of_lt p1)
  omega
 refine ⟨dv ((said l).drop (usedN l)),?_,r0,r1,?_,by omega,v0,?_,?_⟩
 ·have e1 : dv l = dv (said l):=by
   have:=QbR (l.take k) (l.drop k)
   rw [List.take_append_drop] at this
   rw [this,k2]
   have hz : dv (l.take k) = 0:=(QlM (fun b hb => hall b (List.mem_of_mem_take hb))).mpr k3
   rw [hz,Int.zero_mul,Int.zero_add]
  have:=QbR ((said l).take (usedN l)) ((said l).drop (usedN l))
  rw [List.take_append_drop,hlr] at this
  rw [e1,ev]; exact this
 ·rw [em]
  have z:=QlM hrest
  rw [List.any_eq_true]
  constructor
  ·rintro ⟨b,hb,hne⟩ hz
   have:=z.mp hz b hb
   rw [this] at hne
   simp at hne
  ·intro hne
   apply Decidable.byContradiction
   intro hc
   apply hne
   apply z.mpr
   intro b hb
   apply Decidable.byContradiction
   intro hbn
   exact hc ⟨b,hb,by simpa using hbn⟩
 ·have : (10 : Int) ^ 19 = 10000000000000000000:=by rfl
  omega
 ·intro hl
  have hu2 : usedN l = 19:=by
   unfold usedN at *
   omega
  cases hs : said l with
  | nil => rw [hs] at hlen hu; rw [hu2] at hu; simp at hu
  | cons b r =>
   have hb:=k4 b r hs
   obtain ⟨b0,b1⟩:=QfH (hsl b (by rw [hs]; exact List.mem_cons_self ..))
   have hb9 : 49 ≤ b.toNat:=by
    apply Decidable.byContradiction
    intro hc
    exact hb (UInt8.toNat_inj.mp (show b.toNat = 48 by omega))
   have hr18 : (r.take 18).length = 18:=by
    rw [List.length_take]
    have : (said l).length = r.length + 1:=by rw [hs]; rfl
    omega
   have e3 : dv ((said l).take (usedN l)) = ((b.toNat : Int) - 48) * 10 ^ 18 + dv (r.take 18):=by
    rw [hu2,hs,List.take_succ_cons]
    have:=QbR [b] (r.take 18)
    rw [List.singleton_append,hr18] at this
    rw [this]
    congr 2
    simp [dv]
   have q:=(dv_bd (l:=r.take 18) (fun c hc => hsl c (by rw [hs]; exact List.mem_cons_of_mem _ (List.mem_of_mem_take hc)))).1
   rw [ev,e3]
   have : (10 : Int) ^ 18 = 1000000000000000000:=by rfl
   rw [this]
   omega
theorem Qep (cs l : B) : (l.dropWhile (fun b => cs.contains b)) = [] ↔ ∀ b ∈ l,cs.contains b = true:=by
 induction l with
 | nil => simp
 | cons c r ih =>
  rw [List.dropWhile_cons]
  by_cases h : cs.contains c = true
  ·rw [if_pos h,ih]
   constructor
   ·intro hr b hb
    rcases List.mem_cons.mp hb with rfl | hb
    ·exact h
    ·exact hr b hb
   ·exact fun hr b hb => hr b (List.mem_cons_of_mem _ hb)
  ·rw [if_neg h]
   constructor
   ·intro e; cases e
   ·intro hr; exact absurd (hr c (List.mem_cons_self ..)) h
theorem Qkv (b : UInt8) : ([48,49,50,51,52,53,54,55,56,57] : B).contains b = isD b:=by
 have : ∀ n : Fin 256,([48,49,50,51,52,53,54,55,56,57] : B).contains (UInt8.ofNat n.val) = isD (UInt8.ofNat n.val):=by decide +kernel
 have h:=this ⟨b.toNat,UInt8.toNat_lt b⟩
 simpa using h
end Lx
end Go.Proofs.YtjnmgjcmagnkeabGreatDoor

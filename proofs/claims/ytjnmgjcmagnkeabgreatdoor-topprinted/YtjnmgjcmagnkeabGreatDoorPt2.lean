import Derived.Lib.ItoaNum
import Derived.Test.YtjnmgjcmagnkeabGreatDoorPt1
namespace Go.Proofs.YtjnmgjcmagnkeabGreatDoor
set_option linter.unusedVariables false
namespace Ft
open Lx
def exT (e : Int) (least : Nat) : B:=(if e < 0 then 45 else 43) :: (List.replicate (least - (Lib.decDigits e.natAbs).length) 48 ++ Lib.decDigits e.natAbs)
def sciT (d : B) (k : Int) : B:=(d.take 1 ++ (if 1 < d.length then 46 :: d.drop 1 else [])) ++ (101 :: exT (k - 1) 2)
def plT (d : B) (k : Int) : B :=
 if k ≤ 0 then 48 :: 46 :: (List.replicate (-k).toNat 48 ++ d) else if k < d.length then d.take k.toNat ++ (46 :: d.drop k.toNat) else d ++ List.replicate (k - d.length).toNat 48
def shT (d : B) (k : Int) : B:=if k < -5 ∨ 21 < k then sciT d k else plT d k
def sgT (ng : Bool) : B:=if ng = true then [45] else []
def RdT (S : B) (N : Nm) : Prop:=∀ R : B,Stops R → (longestL (S ++ R)).kind ≠ 0 ∧ (longestL (S ++ R)).stop = S.length ∧ numOf (longestL (S ++ R)) = N
theorem Qir (ng : Bool) : decide (sgT ng = [45]) = ng:=by cases ng <;> rfl
theorem QlN (ng : Bool) : sgT ng = [] ∨ sgT ng = [43] ∨ sgT ng = [45]:=by
 cases ng
 ·exact Or.inl rfl
 ·exact Or.inr (Or.inr rfl)
theorem digB {d : Nat} (h : d < 10) : isD (UInt8.ofNat (48 + d)) = true ∧ (UInt8.ofNat (48 + d)).toNat = 48 + d:=by
 have e : (UInt8.ofNat (48 + d)).toNat = 48 + d:=by
  rw [UInt8.toNat_ofNat']
  omega
 unfold isD
 rw [e]
 refine ⟨by simp; omega,rfl⟩
theorem QfI {u : Nat} (h : u < 10) : Lib.decDigits u = [UInt8.ofNat (48 + u)]:=Lib.decDigits_one h
theorem QdD {u : Nat} (h : ¬ u < 10) : Lib.decDigits u = Lib.decDigits (u / 10) ++ [UInt8.ofNat (48 + u % 10)]:=by rw [Lib.decDigits,dif_neg h]
theorem dd_ok (u : Nat) : Lib.decDigits u ≠ [] ∧ (Lib.decDigits u).all isD = true:=by
 induction u using Nat.strongRecOn with
 | _ u ih =>
  by_cases h : u < 10
  ·rw [QfI h]
   exact ⟨by simp,by rw [List.all_cons,(digB h).1]; rfl⟩
  ·rw [QdD h]
   refine ⟨by simp,?_⟩
   rw [List.all_append,(ih (u / 10) (by omega)).2,List.all_cons,(digB (Nat.mod_lt u (by omega))).1]
   rfl
theorem Qq9 {u : Nat} (hu : 0 < u) : fst [48] (Lib.decDigits u) = false:=by
 induction u using Nat.strongRecOn with
 | _ u ih =>
  by_cases h : u < 10
  ·rw [QfI h]
   have e:=(digB h).2
   simp only [fst,List.contains_cons,List.contains_nil,Bool.or_false,beq_eq_false_iff_ne,ne_eq]
   intro q
   rw [q] at e
   have : (48 : UInt8).toNat = 48:=rfl
   omega
  ·rw [QdD h]
   have h1:=ih (u / 10) (by omega) (by omega)
   have h2:=(dd_ok (u / 10)).1
   cases q : Lib.decDigits (u / 10) with
   | nil => exact absurd q h2
   | cons c r => rw [q] at h1; exact h1
theorem Qra (u : Nat) : ∃ l,Lib.decDigits u = l ++ [UInt8.ofNat (48 + u % 10)]:=by
 by_cases h : u < 10
 ·exact ⟨[],by rw [QfI h,Nat.mod_eq_of_lt h]; rfl⟩
 ·exact ⟨_,QdD h⟩
theorem Qrb (u : Nat) : (u : Int) ≤ 1073741824 → (Lib.decDigits u).foldl stepP 0 = (u : Int):=by
 have st : ∀ {n : Int} {d : Nat},d < 10 → n < 2147483648 → stepP n (UInt8.ofNat (48 + d)) = 10 * n + d:=fun {n d} h hn => by
  unfold stepP
  rw [if_pos hn,(digB h).2]
  omega
 induction u using Nat.strongRecOn with
 | _ u ih =>
  intro hu
  by_cases h : u < 10
  ·rw [QfI h,List.foldl_cons,List.foldl_nil,st h (by omega)]
   omega
  ·rw [QdD h,List.foldl_append,ih (u / 10) (by omega) (by omega),List.foldl_cons,List.foldl_nil,st (Nat.mod_lt u (by omega)) (by omega)]
   omega
theorem QbS (n : Nat) : (List.replicate n (48 : UInt8)).all isD = true:=by
 rw [List.all_replicate]
 split <;> decide
theorem QoF (n : Nat) (l : B) : (List.replicate n (48 : UInt8) ++ l).foldl stepP 0 = l.foldl stepP 0:=by
 rw [List.foldl_append]
 congr 1
 induction n with
 | zero => rfl
 | succ n ih => rw [List.replicate_succ,List.foldl_cons]; exact ih
theorem Qjy {e : Int} (h0 : -1073741824 ≤ e) (h1 : e ≤ 1073741824) (m : Nat) : ExpoOk (exT e m) ∧ exT e m ≠ [] ∧ expoN (exT e m) = e:=by
 obtain ⟨d1,d2⟩:=dd_ok e.natAbs
 have hall : (List.replicate (m - (Lib.decDigits e.natAbs).length) (48 : UInt8) ++ Lib.decDigits e.natAbs).all isD = true:=by rw [List.all_append,QbS,d2]; rfl
 have hne : List.replicate (m - (Lib.decDigits e.natAbs).length) (48 : UInt8) ++ Lib.decDigits e.natAbs ≠ []:=fun q => d1 (List.append_eq_nil_iff.mp q).2
 have hf:=QoF (m - (Lib.decDigits e.natAbs).length) (Lib.decDigits e.natAbs)
 rw [Qrb e.natAbs (by omega)] at hf
 unfold exT
 generalize List.replicate (m - (Lib.decDigits e.natAbs).length) (48 : UInt8) ++ Lib.decDigits e.natAbs = l at *
 have hx:=Qb2 hall
 by_cases h : e < 0
 ·rw [if_pos h]
  refine ⟨Or.inr ⟨[45],l,rfl,Or.inr (Or.inr rfl),hne,hall⟩,by simp,?_⟩
  have e1 : expD (45 :: l) = l:=by unfold expD; rw [List.dropWhile_cons_of_pos (by decide)]; exact hx
  unfold expoN
  rw [e1,hf,if_pos (by rfl)]
  omega
 ·rw [if_neg h]
  refine ⟨Or.inr ⟨[43],l,rfl,Or.inr (Or.inl rfl),hne,hall⟩,by simp,?_⟩
  have e1 : expD (43 :: l) = l:=by unfold expD; rw [List.dropWhile_cons_of_pos (by decide)]; exact hx
  unfold expoN
  rw [e1,hf,if_neg (by simp [fst])]
  omega
set_option maxRecDepth 100000 in
theorem QlO : ∀ b : Fin 256,isD (UInt8.ofNat b.val) = true → lowB (UInt8.ofNat b.val) = UInt8.ofNat b.val:=by decide
theorem QlP {c : UInt8} (h : isD c = true) : lowB c = c:=by
 have:=QlO ⟨c.toNat,c.toNat_lt⟩
 simp only [UInt8.ofNat_toNat] at this
 exact this h
theorem Qrc {l : B} (h : l.all isD = true) : l.map lowB = l:=by
 induction l with
 | nil => rfl
 | cons c r ih =>
  rw [List.all_cons,Bool.and_eq_true] at h
  rw [List.map_cons,QlP h.1,ih h.2]
theorem QbE {l : B} (h : l.all isD = true) (h0 : fst [48] l = false) : strip l = l:=by
 unfold strip
 cases l with
 | nil => rfl
 | cons c r =>
  have n0 : ([48] : B).contains c = false:=h0
  rw [List.dropWhile_cons_of_neg (by rw [n0]; decide),Qrc h]
theorem Qis (n : Nat) (l : B) : strip (List.replicate n 48 ++ l) = strip l:=by
 unfold strip
 congr 1
 induction n with
 | zero => rfl
 | succ n ih => rw [List.replicate_succ,List.cons_append,List.dropWhile_cons_of_pos (by decide)]; exact ih
theorem Qeq {e : Int} (h0 : -1073741824 ≤ e) (h1 : e ≤ 1073741824) : heldI e = e:=by
 unfold heldI
 rw [if_neg (by split <;> omega)]
 split <;> omega
theorem QbT {ng : Bool} {head tail ex d : B} {pt : Bool} {e : Int} (hh : head.all isD = true) (ht : tail.all isD = true) (hne : ¬ (head = [] ∧ tail = [])) (hpt : pt = false → tail = [])
  (hx : ExpW [101,69] ex) (hs : strip (head ++ tail) = d) (he : heldI (expoN ex.tail - tail.length) = e) : RdT (sgT ng ++ (head ++ ((if pt then 46 :: tail else []) ++ ex))) ⟨1,ng,d,e,[]⟩:=by
 intro R hR
 have q:=Qip (rest:=R) (QlN ng) hh ht hne hpt hx hR
 have e1 : (sgT ng ++ (head ++ ((if pt then 46 :: tail else []) ++ ex))) ++ R = sgT ng ++ (head ++ ((if pt then 46 :: tail else []) ++ (ex ++ R))):=by simp only [List.append_assoc]
 rw [e1,q]
 refine ⟨by simp,?_,?_⟩
 ·cases pt <;> simp <;> omega
 ·unfold numOf
  simp only [Qir,if_pos]
  rw [hs,he]
  rfl
structure Dg (d : B) : Prop where
 all : d.all isD = true
 ne : d ≠ []
 lead : fst [48] d = false
theorem Dg.of {u : Nat} (hu : 0 < u) : Dg (Lib.decDigits u):=⟨(dd_ok u).2,(dd_ok u).1,Qq9 hu⟩
theorem Qjz {l : B} (h : l.all isD = true) (n : Nat) : (l.take n).all isD = true:=List.all_eq_true.mpr fun b hb => List.all_eq_true.mp h b (List.mem_of_mem_take hb)
theorem QjA {l : B} (h : l.all isD = true) (n : Nat) : (l.drop n).all isD = true:=List.all_eq_true.mpr fun b hb => List.all_eq_true.mp h b (List.mem_of_mem_drop hb)
theorem exT_w {e : Int} (h0 : -1073741824 ≤ e) (h1 : e ≤ 1073741824) (m : Nat) {cs : B} {c : UInt8} (hc : cs.contains c = true) : ExpW cs (c :: exT e m) :=
 Or.inr ⟨c,_,rfl,hc,(Qjy h0 h1 m).2.1,(Qjy h0 h1 m).1⟩
theorem QlQ {d : B} (hd : Dg d) (ng : Bool) {k : Int} (h0 : -100000 ≤ k) (h1 : k ≤ 100000) (hl : d.length ≤ 100000) : RdT (sgT ng ++ sciT d k) ⟨1,ng,d,k - d.length,[]⟩:=by
 have hlen : 0 < d.length:=by have:=hd.ne; cases d; exact absurd rfl this; simp
 have hx:=exT_w (e:=k - 1) (by omega) (by omega) 2 (show ([101,69] : B).contains 101 = true from rfl)
 have hv:=(Qjy (e:=k - 1) (by omega) (by omega) 2).2.2
 have key:=QbT (ng:=ng) (head:=d.take 1) (tail:=d.drop 1) (ex:=101 :: exT (k - 1) 2) (d:=d) (pt:=decide (1 < d.length)) (e:=k - d.length) (Qjz hd.all 1) (QjA hd.all 1)
  (fun q => by have:=congrArg List.length q.1; rw [List.length_take,List.length_nil] at this; omega)
  (fun q => List.drop_eq_nil_of_le (by simpa using q)) hx (by rw [List.take_append_drop]; exact QbE hd.all hd.lead)
  (by rw [List.tail_cons,hv,List.length_drop,Qeq] <;> omega)
 unfold sciT
 rw [List.append_assoc]
 by_cases q : 1 < d.length
 ·rw [if_pos q]; rw [decide_eq_true q] at key; exact key
 ·rw [if_neg q]; rw [decide_eq_false q] at key; exact key
theorem QoG {d : B} (hd : Dg d) (ng : Bool) {k : Int} (h0 : -100000 ≤ k) (h1 : k < d.length) (hl : d.length ≤ 100000) : RdT (sgT ng ++ plT d k) ⟨1,ng,d,k - d.length,[]⟩:=by
 unfold plT
 by_cases q : k ≤ 0
 ·rw [if_pos q]
  have key:=QbT (ng:=ng) (head:=[48]) (tail:=List.replicate (-k).toNat 48 ++ d) (ex:=[]) (d:=d) (pt:=true) (e:=k - d.length) (by decide) (by rw [List.all_append,QbS,hd.all]; rfl)
   (fun q => by cases q.1) (fun q => by cases q) (Or.inl rfl) (by
    have:=Qis ((-k).toNat + 1) d
    rw [QbE hd.all hd.lead,List.replicate_succ] at this
    exact this)
   (by rw [List.length_append,List.length_replicate,Qeq] <;> simp [expoN,expD,fst] <;> omega)
  simpa using key
 ·rw [if_neg q,if_pos h1]
  have key:=QbT (ng:=ng) (head:=d.take k.toNat) (tail:=d.drop k.toNat) (ex:=[]) (d:=d) (pt:=true) (e:=k - d.length) (Qjz hd.all _) (QjA hd.all _)
   (fun q => by have:=congrArg List.length q.2; simp at this; omega) (fun q => by cases q) (Or.inl rfl) (by rw [List.take_append_drop]; exact QbE hd.all hd.lead)
   (by rw [List.length_drop,Qeq] <;> simp [expoN,expD,fst] <;> omega)
  simpa using key
theorem Qit {d : B} (hd : Dg d) (ng : Bool) {k : Int} (h0 : 0 < k) (h1 : (d.length : Int) ≤ k) : RdT (sgT ng ++ plT d k) ⟨1,ng,d ++ List.replicate (k - d.length).toNat 48,0,[]⟩:=by
 unfold plT
 rw [if_neg (by omega),if_neg (by omega)]
 have key:=QbT (ng:=ng) (head:=d ++ List.replicate (k - d.length).toNat 48) (tail:=[]) (ex:=[]) (d:=d ++ List.replicate (k - d.length).toNat 48) (pt:=false) (e:=0) (by rw [List.all_append,QbS,hd.all]; rfl) rfl
  (fun q => hd.ne (List.append_eq_nil_iff.mp q.1).1) (fun _ => rfl) (Or.inl rfl) (by
   rw [List.append_nil]
   refine QbE (by rw [List.all_append,QbS,hd.all]; rfl) ?_
   have:=hd.lead
   have n:=hd.ne
   cases d with
   | nil => exact absurd rfl n
   | cons c r => exact this)
  (by simp [expoN,expD,fst,heldI])
 simpa using key
theorem Qkw (ng : Bool) : RdT (sgT ng ++ [48]) ⟨1,ng,[],0,[]⟩:=by
 have key:=QbT (ng:=ng) (head:=[48]) (tail:=[]) (ex:=[]) (d:=[]) (pt:=false) (e:=0) (by decide) rfl (fun q => by cases q.1) (fun _ => rfl) (Or.inl rfl) (by decide) (by decide)
 simpa using key
theorem Qiu (ng : Bool) : RdT (sgT ng ++ [48,101,43,48,48]) ⟨1,ng,[],0,[]⟩:=by
 have key:=QbT (ng:=ng) (head:=[48]) (tail:=[]) (ex:=[101,43,48,48]) (d:=[]) (pt:=false) (e:=0) (by decide) rfl (fun q => by cases q.1) (fun _ => rfl)
  (Or.inr ⟨101,[43,48,48],rfl,rfl,by simp,Or.inr ⟨[43],[48,48],rfl,Or.inr (Or.inl rfl),by simp,by decide⟩⟩) (by decide) (by decide)
 simpa using key
theorem Qiv (ng : Bool) : RdT (sgT ng ++ [48,120,48,112,43,48]) ⟨2,ng,[],0,[]⟩:=by
 intro R hR
 have q:=QeE (rest:=R) (QlN ng) (Or.inl rfl) (head:=[48]) (tail:=[]) (ex:=[112,43,48]) (pt:=false) (x:=120) (by decide) rfl (fun q => by cases q.1) (fun _ => rfl)
  (Or.inr ⟨112,[43,48],rfl,rfl,by simp,Or.inr ⟨[43],[48],rfl,Or.inr (Or.inl rfl),by simp,by decide⟩⟩) (by simp) hR
 have e1 : (sgT ng ++ [48,120,48,112,43,48]) ++ R = sgT ng ++ (48 :: 120 :: ([48] ++ ((if false = true then 46 :: [] else []) ++ ([112,43,48] ++ R)))):=by simp only [List.append_assoc]; rfl
 rw [e1,q]
 refine ⟨by simp,by simp,?_⟩
 unfold numOf
 simp only [Qir]
 rfl
end Ft
namespace Ft
open Lx
def hxD (n : Nat) : UInt8:=if n < 10 then UInt8.ofNat (48 + n) else UInt8.ofNat (87 + n)
def hxL : Nat → Nat → B
 | 0,_ => []
 | f + 1,x => if x = 0 then [] else hxD (x / 1152921504606846976) :: hxL f (x * 16 % 18446744073709551616)
def hxT (x : Nat) (e : Int) : B:=[48,120,49] ++ ((if x ≠ 0 then 46 :: hxL 16 x else []) ++ (112 :: exT e 1))
def hdV (c : UInt8) : Nat:=if c.toNat ≤ 57 then c.toNat - 48 else c.toNat - 87
def hv : B → Nat
 | [] => 0
 | c :: r => hdV c * 16 ^ r.length + hv r
theorem QsL : ∀ n : Fin 16,isH (hxD n.val) = true ∧ lowB (hxD n.val) = hxD n.val ∧ hdV (hxD n.val) = n.val ∧ (n.val ≠ 0 → hxD n.val ≠ 48) ∧ (48 ≤ (hxD n.val).toNat ∧ (hxD n.val).toNat ≤ 57 ∨ 97 ≤ (hxD n.val).toNat ∧ (hxD n.val).toNat ≤ 102):=by decide
theorem QjB {n : Nat} (h : n < 16) : isH (hxD n) = true ∧ lowB (hxD n) = hxD n ∧ hdV (hxD n) = n ∧ (n ≠ 0 → hxD n ≠ 48) ∧ (48 ≤ (hxD n).toNat ∧ (hxD n).toNat ≤ 57 ∨ 97 ≤ (hxD n).toNat ∧ (hxD n).toNat ≤ 102):=QsL ⟨n,h⟩
theorem QeH (f : Nat) : hxL f 0 = []:=by cases f <;> rfl
theorem QgA {f x : Nat} (h : x ≠ 0) : hxL (f + 1) x = hxD (x / 1152921504606846976) :: hxL f (x * 16 % 18446744073709551616):=by rw [hxL,if_neg h]
theorem QjC {f : Nat} : ∀ {x : Nat},x < 18446744073709551616 → (∀ c ∈ hxL f x,∃ n,n < 16 ∧ c = hxD n):=by
 induction f with
 | zero => intro x _ c hc; cases hc
 | succ f ih =>
  intro x hx c hc
  by_cases h : x = 0
  ·rw [h,QeH] at hc; cases hc
  ·rw [QgA h] at hc
   rcases List.mem_cons.mp hc with rfl | hc
   ·exact ⟨_,by omega,rfl⟩
   ·exact ih (Nat.mod_lt _ (by omega)) c hc
theorem QlR {f : Nat} : ∀ {x : Nat},x < 18446744073709551616 → x * 16 ^ f % 18446744073709551616 = 0 → hv (hxL f x) * 18446744073709551616 = x * 16 ^ (hxL f x).length:=by
 induction f with
 | zero =>
  intro x hx h
  have : x = 0:=by simpa [Nat.mod_eq_of_lt hx] using h
  subst this; rfl
 | succ f ih =>
  intro x hx h
  by_cases h0 : x = 0
  ·subst h0; rw [QeH]; rfl
  ·have hm : x * 16 % 18446744073709551616 * 16 ^ f % 18446744073709551616 = 0:=by
    rw [Nat.mod_mul_mod,Nat.mul_assoc,show 16 * 16 ^ f = 16 ^ (f + 1) by rw [Nat.pow_succ]; exact Nat.mul_comm _ _]
    exact h
   have:=ih (x:=x * 16 % 18446744073709551616) (Nat.mod_lt _ (by omega)) hm
   rw [QgA h0,hv,(QjB (show x / 1152921504606846976 < 16 by omega)).2.2.1,List.length_cons,Nat.pow_succ,Nat.add_mul,this]
   have e : x * 16 = x / 1152921504606846976 * 18446744073709551616 + x * 16 % 18446744073709551616:=by omega
   generalize (hxL f (x * 16 % 18446744073709551616)).length = n
   generalize x * 16 % 18446744073709551616 = y at *
   generalize x / 1152921504606846976 = D at *
   generalize 16 ^ n = P
   have : x * (P * 16) = (x * 16) * P:=by rw [Nat.mul_comm P 16,Nat.mul_assoc]
   rw [this,e,Nat.add_mul,Nat.mul_right_comm]
theorem Qhh {f : Nat} : ∀ {x g : Nat},x < 18446744073709551616 → x * 16 ^ f % 18446744073709551616 = 0 → (hxL g x).length ≤ f:=by
 induction f with
 | zero =>
  intro x g hx h
  have : x = 0:=by simpa [Nat.mod_eq_of_lt hx] using h
  subst this; rw [QeH]; exact Nat.le_refl _
 | succ f ih =>
  intro x g hx h
  by_cases h0 : x = 0
  ·subst h0; rw [QeH]; exact Nat.zero_le _
  ·cases g with
   | zero => exact Nat.zero_le _
   | succ g =>
    rw [QgA h0,List.length_cons]
    have:=ih (x:=x * 16 % 18446744073709551616) (g:=g) (Nat.mod_lt _ (by omega)) (by
     rw [Nat.mod_mul_mod,Nat.mul_assoc,show 16 * 16 ^ f = 16 ^ (f + 1) by rw [Nat.pow_succ]; exact Nat.mul_comm _ _]
     exact h)
    omega
theorem QoH : (16 : Nat) ^ 16 = 18446744073709551616:=by decide
theorem Qb4 (x : Nat) : x * 16 ^ 16 % 18446744073709551616 = 0:=by rw [QoH,Nat.mul_mod_left]
theorem Qrd {f x : Nat} (h : x < 18446744073709551616) : (hxL f x).all isH = true:=List.all_eq_true.mpr fun c hc => by
 obtain ⟨n,hn,rfl⟩:=QjC h c hc
 exact (QjB hn).1
theorem QsM {f x : Nat} (h : x < 18446744073709551616) : (hxL f x).map lowB = hxL f x:=by
 have key : ∀ l : B,(∀ c ∈ l,∃ n,n < 16 ∧ c = hxD n) → l.map lowB = l:=by
  intro l
  induction l with
  | nil => intro _; rfl
  | cons c r ih =>
   intro hl
   obtain ⟨n,hn,rfl⟩:=hl c (List.mem_cons_self ..)
   rw [List.map_cons,(QjB hn).2.1,ih (fun c hc => hl c (List.mem_cons_of_mem _ hc))]
 exact key _ (QjC h)
theorem QlS {x : Nat} (hx : x < 18446744073709551616) (ng : Bool) {e : Int} (h0 : -100000 ≤ e) (h1 : e ≤ 100000) :
  RdT (sgT ng ++ hxT x e) ⟨2,ng,49 :: hxL 16 x,e - 4 * ((hxL 16 x).length : Int),[]⟩:=by
 intro R hR
 have hl:=Qhh (g:=16) hx (Qb4 x)
 have hw:=exT_w (e:=e) (by omega) (by omega) 1 (show ([112,80] : B).contains 112 = true from rfl)
 have hv:=(Qjy (e:=e) (by omega) (by omega) 1).2.2
 have q:=QeE (rest:=R) (QlN ng) (Or.inl rfl) (head:=[49]) (tail:=hxL 16 x) (ex:=112 :: exT e 1) (pt:=decide (x ≠ 0)) (x:=120) (by decide) (Qrd hx) (fun q => by cases q.1)
  (fun q => by have this : x = 0:=(by simpa using q); subst this; rfl) hw (by simp) hR
 have e1 : (sgT ng ++ hxT x e) ++ R = sgT ng ++ (48 :: 120 :: ([49] ++ ((if decide (x ≠ 0) = true then 46 :: hxL 16 x else []) ++ ((112 :: exT e 1) ++ R)))):=by
  unfold hxT
  simp only [List.append_assoc,decide_eq_true_eq]
  rfl
 rw [e1,q]
 refine ⟨by simp,?_,?_⟩
 ·unfold hxT
  by_cases z : x = 0
  ·simp [z]; omega
  ·simp [z]; omega
 ·unfold numOf
  simp only [Qir,List.tail_cons]
  rw [hv,if_neg (by decide),if_pos trivial,Qeq (by omega) (by omega)]
  have : strip ([49] ++ hxL 16 x) = 49 :: hxL 16 x:=by
   unfold strip
   rw [List.singleton_append,List.dropWhile_cons_of_neg (by decide),List.map_cons,QsM hx]
   rfl
  rw [this]
  rfl
end Ft
end Go.Proofs.YtjnmgjcmagnkeabGreatDoor

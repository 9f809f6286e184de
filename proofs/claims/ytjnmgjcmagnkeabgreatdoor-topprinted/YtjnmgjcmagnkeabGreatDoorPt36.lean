import Derived.Test.YtjnmgjcmagnkeabGreatDoorPt30
import Derived.Test.YtjnmgjcmagnkeabGreatDoorPt32
import Derived.Test.YtjnmgjcmagnkeabGreatDoorPt35
namespace Go.Proofs.YtjnmgjcmagnkeabGreatDoor
open Go.ChangeShapes Go.WideShapes Go.ChangeAt Go.RowKit
open Na Ar Ry Ft Lx Go.Shelf
set_option linter.unusedVariables false
namespace Ft
theorem Qhb {A B d : Int} (hB : 0 < B) (h0 : 0 ≤ d) (h1 : d ≤ mostP) (h : A = numW d * B) : RoundIs A B false false 0 d 0:=by
 refine ⟨d,⟨h0,h1,by omega,?_⟩,Or.inl ⟨Or.inl ?_,by simp [sgB],rfl⟩⟩
 ·by_cases q : d = mostP
  ·exact Or.inl q
  ·right
   rw [h,QbK h0 (by omega)]
   exact Int.mul_lt_mul_of_pos_right (Qe0 _) hB
 ·unfold agn
  rw [h,if_neg (by omega),if_pos rfl,if_neg (by simp)]
theorem QgF {d : Nat} (h : d < 10) : valN ((UInt8.ofNat (48 + d)).toNat : Int) = d:=by
 rw [(digB h).2]
 unfold valN
 rw [if_pos (by omega)]
 omega
theorem nv_dd (u : Nat) : nv 10 (Lib.decDigits u) = (u : Int):=by
 induction u using Nat.strongRecOn with
 | _ u ih =>
  by_cases h : u < 10
  ·rw [QfI h,QcQ,QgF h]
  ·rw [QdD h,Qch,ih (u / 10) (by omega),QcQ,QgF (Nat.mod_lt u (by omega))]
   simp only [List.length_cons,List.length_nil]
   omega
theorem Qdx (n : Nat) : nv 10 (List.replicate n 48) = 0:=by
 induction n with
 | zero => rfl
 | succ n ih =>
  rw [List.replicate_succ',Qch,ih,QcQ]
  decide
theorem Qty {n : Nat} (h : n < 16) : valN ((hxD n).toNat : Int) = n:=by
 have key : ∀ n : Fin 16,valN ((hxD n.val).toNat : Int) = (n.val : Int):=by decide
 exact key ⟨n,h⟩
theorem nv_hv {l : B} (h : ∀ c ∈ l,∃ n,n < 16 ∧ c = hxD n) : nv 16 l = (hv l : Int):=by
 induction l with
 | nil => rfl
 | cons c r ih =>
  have e:=Qch 16 [c] r
  rw [List.singleton_append] at e
  obtain ⟨n,hn,rfl⟩:=h c (List.mem_cons_self ..)
  rw [e,ih (fun d hd => h d (List.mem_cons_of_mem _ hd)),QcQ,Qty hn,hv,(QjB hn).2.2.1]
  push_cast
  rfl
set_option maxRecDepth 100000 in
theorem QsB : ∀ b : Fin 256,isD (UInt8.ofNat b.val) = true → digs9.contains (UInt8.ofNat b.val) = true:=by decide
theorem QsC {l : B} {e : Int} (h : keptB smal9 l = true) (he : withB e = true) : refE 2 l e [] = 0:=by
 have hr : rightB 2 l e [] = true:=by
  unfold rightB
  rw [if_neg (by omega),if_pos rfl,h,he]
  rfl
 unfold refE
 rw [if_pos hr,if_neg (by omega)]
theorem QsD {l : B} {e : Int} (h : keptB digs9 l = true) (he : withB e = true) : refE 1 l e [] = 0:=by
 have hr : rightB 1 l e [] = true:=by
  unfold rightB
  rw [if_pos rfl,h,he]
  rfl
 unfold refE
 rw [if_pos hr,if_neg (by omega)]
theorem QsE {Q P : Nat} (h : Q * 18446744073709551616 = P * 2) : Q * 9223372036854775808 = P:=by
 have e : Q * 9223372036854775808 * 2 = P * 2:=by rw [Nat.mul_assoc]; exact h
 exact Nat.eq_of_mul_eq_mul_right (by decide) e
theorem Qju {l : B} (h : l.all isD = true) (h0 : fst [48] l = false) (hl : l.length ≤ 65536) : keptB digs9 l = true:=by
 have key:=QsB
 unfold keptB
 rw [h0,decide_eq_true hl]
 simp only [Bool.not_false,Bool.true_and,List.all_eq_true]
 intro c hc
 have:=key ⟨c.toNat,c.toNat_lt⟩
 simp only [UInt8.ofNat_toNat] at this
 exact this (List.all_eq_true.mp h c hc)
theorem QoB {x : Nat} (hx : x < 18446744073709551616) : keptB smal9 (49 :: hxL 16 x) = true:=by
 have key : ∀ n : Fin 16,smal9.contains (hxD n.val) = true:=by decide
 have hl:=Qhh (g:=16) hx (Qb4 x)
 unfold keptB
 have e0 : fst [48] (49 :: hxL 16 x) = false:=rfl
 rw [e0,decide_eq_true (by rw [List.length_cons]; omega)]
 simp only [Bool.not_false,Bool.true_and,List.all_eq_true]
 intro c hc
 rcases List.mem_cons.mp hc with rfl | hc
 ·decide
 ·obtain ⟨n,hn,rfl⟩:=QjC hx c hc
  exact key ⟨n,hn⟩
theorem QsF {p : Int} (h0 : 0 < p) (h1 : p ≤ mostP) :
  RoundIs (scA (nv 16 (49 :: hxL 16 (bhB (spM p).toNat))) (spX p + 63 - ahB (spM p).toNat - 4 * ((hxL 16 (bhB (spM p).toNat)).length : Int))) (scB 1 (spX p + 63 - ahB (spM p).toNat - 4 * ((hxL 16 (bhB (spM p).toNat)).length : Int))) false false 0 p 0:=by
 obtain ⟨p1,p2,p3,p4⟩:=Qby h0 h1
 obtain ⟨m,em⟩ : ∃ m : Nat,spM p = (m : Int):=⟨(spM p).toNat,by omega⟩
 have et : (spM p).toNat = m:=by omega
 rw [et]
 have A:=ab_of (m:=m) (by omega) (by omega)
 have hvv:=QlR A.lt (Qb4 (bhB m))
 have hnv : nv 16 (49 :: hxL 16 (bhB m)) = 16 ^ (hxL 16 (bhB m)).length + (hv (hxL 16 (bhB m)) : Int):=by
  have e:=Qch 16 [49] (hxL 16 (bhB m))
  rw [List.singleton_append] at e
  rw [e,nv_hv (QjC A.lt),QcQ]
  have : valN ((49 : UInt8).toNat : Int) = 1:=by decide
  rw [this,Int.one_mul]
 have hA:=A.eq
 have a1:=A.a1
 have hl:=Qhh (g:=16) A.lt (Qb4 (bhB m))
 generalize (hxL 16 (bhB m)).length = n at *
 generalize hv (hxL 16 (bhB m)) = V at *
 generalize nv 16 (49 :: hxL 16 (bhB m)) = NN at *
 generalize bhB m = x at *
 generalize ahB m = a at *
 have key : NN * 9223372036854775808 = (m : Int) * 2 ^ (a + 4 * n):=by
  have e16 : (16 : Nat) ^ n = 2 ^ (4 * n):=by rw [Nat.pow_mul]
  have k1 : (16 ^ n + V) * 18446744073709551616 = m * 2 ^ a * 16 ^ n * 2:=by
   rw [Nat.mul_right_comm _ _ 2,hA,Nat.add_mul,Nat.add_mul,hvv,Nat.mul_comm (16 ^ n)]
  have k2 : (16 ^ n + V) * 9223372036854775808 = m * 2 ^ (a + 4 * n):=by
   rw [Nat.pow_add,← e16,← Nat.mul_assoc]
   exact QsE k1
  rw [hnv]
  have k3:=congrArg (fun k : Nat => (k : Int)) k2
  simp only [Int.natCast_mul,Int.natCast_add,Int.natCast_pow] at k3
  exact k3
 obtain ⟨X,eX⟩ : ∃ X,X = spX p:=⟨_,rfl⟩
 have hw : numW p = (m : Int) * 2 ^ (X + 1074).toNat:=by unfold numW; rw [em,eX]
 rw [← eX] at p3 p4 ⊢
 refine Qhb (Qam (by omega)) (Int.le_of_lt h0) h1 ?_
 rw [hw]
 unfold scA scB e2
 apply Int.eq_of_mul_eq_mul_right (a:=9223372036854775808) (by omega)
 have e63 : (9223372036854775808 : Int) = 2 ^ 63:=by decide
 generalize hE : X + 63 - (a : Int) - 4 * (n : Int) = E at *
 rw [Int.mul_right_comm,key,Int.one_mul,e63,Int.mul_assoc,Int.mul_assoc,Int.mul_assoc,← Int.pow_add,← Int.pow_add,← Int.pow_add]
 congr 2
 omega
theorem QoC {b m : Int} (hu : U b) (hf : ef b ≠ 2047) (hm : m = 1 ∨ m = 2 ∨ m = 3) {N : Nm} (R : RdS (mg b) m (decide (9223372036854775808 ≤ b)) N) :
  N.num.length ≤ 100 ∧ N.den = [] ∧ (N.kind = 2 ↔ m = 2) ∧ (N.kind = 1 ∨ N.kind = 2) ∧ BitsIs N.kind N.neg N.num N.exp N.den b 0:=by
 have a1:=mg_bd b
 have a2:=ef_bd b
 have a3:=fr_bd b
 have a4:=Qbq b
 have hp1 : mg b ≤ mostP:=by unfold mostP; omega
 have hsg : b = mg b + sgB (decide (9223372036854775808 ≤ b)):=by
  unfold U at hu
  unfold sgB mg
  by_cases q : 9223372036854775808 ≤ b
  ·rw [decide_eq_true q,if_pos rfl]; omega
  ·rw [decide_eq_false q,if_neg (by simp)]; omega
 have sg:=R.sg
 by_cases z : mg b = 0
 ·have e:=R.zero z
  rw [e]
  refine ⟨by simp,rfl,?_,?_,Or.inr (Or.inl ⟨?_,rfl,by rw [z,Int.zero_add] at hsg; exact hsg,rfl⟩)⟩
  ·by_cases m2 : m = 2 <;> simp [m2]
  ·by_cases m2 : m = 2 <;> simp [m2]
  ·rcases hm with rfl | rfl | rfl
   ·exact (by decide : refE 1 [] 0 [] = 0)
   ·exact (by decide : refE 2 [] 0 [] = 0)
   ·exact (by decide : refE 1 [] 0 [] = 0)
 ·have hp0 : 0 < mg b:=by omega
  by_cases m2 : m = 2
  ·have e:=R.hex hp0 m2
   rw [e]
   obtain ⟨p1,p2,p3,p4⟩:=Qby hp0 hp1
   have A:=ab_of (m:=(spM (mg b)).toNat) (by omega) (by omega)
   have b0:=A.a0
   have b1:=A.a1
   have hl:=Qhh (g:=16) A.lt (Qb4 (bhB (spM (mg b)).toNat))
   refine ⟨by rw [List.length_cons]; omega,rfl,by simp [m2],Or.inr rfl,Or.inr (Or.inr ⟨?_,by simp,mg b,0,?_,Or.inr ⟨rfl,rfl,hsg⟩⟩)⟩
   ·refine QsC (QoB A.lt) ?_
    show withB (spX (mg b) + 63 - ahB (spM (mg b)).toNat - 4 * ((hxL 16 (bhB (spM (mg b)).toNat)).length : Int)) = true
    unfold withB
    rw [decide_eq_true (by omega),decide_eq_true (by omega)]
    rfl
   ·exact QsF hp0 hp1
  ·obtain ⟨k1,k2,k3,k4,k5⟩:=R.dec hp0 m2
   have d:=ds_of hp0 hp1
   have s:=sh_is hp0 hp1
   have l1:=d.len
   have e0:=d.e0
   have e1:=d.e1
   have r0:=s.r0
   have nv0 : nv 10 (dgS (mg b)) = shD (mg b):=by unfold dgS; rw [nv_dd]; omega
   obtain ⟨kd,ng,nu,ex,de⟩:=N
   simp only at k1 k2 k3 k4 k5 sg ⊢
   subst k1 k2 sg
   have hnn : nu.length ≤ 100 ∧ nu.all isD = true ∧ fst [48] nu = false ∧ nu ≠ [] ∧ withB ex = true ∧ ExIs (nv 10 nu) ex (mg b) 0:=by
    rcases k5 with rfl | ⟨rfl,rfl,q1,q2⟩
    ·refine ⟨by omega,d.dg.all,d.dg.lead,d.dg.ne,?_,?_⟩
     ·unfold withB
      rw [decide_eq_true (by omega),decide_eq_true (by omega)]; rfl
     ·have : ex = Ry.shE (mg b):=by rw [← k4]; simp
      rw [nv0,this]
      exact s.rd
    ·refine ⟨by rw [List.length_append,List.length_replicate]; omega,by rw [List.all_append,QbS,d.dg.all]; rfl,?_,fun q => d.dg.ne (List.append_eq_nil_iff.mp q).1,by decide,?_⟩
     ·have:=d.dg.lead
      have n:=d.dg.ne
      cases hq : dgS (mg b) with
      | nil => exact absurd hq n
      | cons c r => rw [hq] at this; exact this
     ·rw [Qch,nv0,Qdx,Int.add_zero,List.length_replicate]
      have:=(Qds (m:=shD (mg b)) (e:=0) (b:=mg b) (E:=0) (Ry.shE (mg b)).toNat).mpr (by
       have e : (0 : Int) + ((Ry.shE (mg b)).toNat : Int) = Ry.shE (mg b):=by omega
       rw [e]
       exact s.rd)
      show ExIs (shD (mg b) * pTen (Ry.shE (mg b)).toNat) 0 (mg b) 0
      exact this
   obtain ⟨g1,g2,g3,g4,g5,g6⟩:=hnn
   refine ⟨g1,rfl,by simp [m2],Or.inl rfl,Or.inr (Or.inr ⟨?_,g4,mg b,0,?_,Or.inr ⟨rfl,rfl,hsg⟩⟩)⟩
   ·exact QsD (Qju g2 g3 (by omega)) g5
   ·unfold ValIs
    rw [if_pos rfl]
    exact g6
end Ft
theorem back14 {b m : Int} (hu : U b) (hf : ef b ≠ 2047) (hm : m = 1 ∨ m = 2 ∨ m = 3) : ∃ kd ex : Int,∃ nu : B,
  (kd = 2 ↔ m = 2) ∧ (kd = 1 ∨ kd = 2) ∧
  (∀ w,GrVar w → TenVar w → Calls Tryz.prog 23 #[.string (str (textT b m))] w fun r w' => r = .returned (.tuple #[.int .u64 b,.nilIface]) ∧ Below w.heap.size w w') ∧
  (∀ w,Calls Tryz.prog 24 #[.string (str (textT b m)),.int .i64 0] w fun r w' => r = .returned (.tuple #[.agg #[.int .i64 kd,.bool (decide (9223372036854775808 ≤ b)),.string (str nu),.int .i64 ex,.string (str [])],.int .i64 ((textT b m).length : Int),.nilIface]) ∧ Below w.heap.size w w'):=by
 have a1:=mg_bd b
 have a2:=ef_bd b
 have a3:=fr_bd b
 have a4:=Qbq b
 obtain ⟨N,R⟩:=Qef (p:=mg b) (m:=m) (by omega) (by unfold mostP; omega) hm (decide (9223372036854775808 ≤ b))
 obtain ⟨l1,l2,k1,k2,hB⟩:=QoC hu hf hm R
 have rd : Reads (textT b m) N:=R.rd
 have sg:=R.sg
 have tl:=Qqq (m:=m) hu hf hm
 obtain ⟨kd,ng,nu,ex,de⟩:=N
 simp only at l1 l2 k1 k2 hB sg
 subst l2 sg
 refine ⟨kd,ex,nu,k1,k2,fun w hG hT => ?_,fun w => ?_⟩
 ·refine Qgr (k:=kd) (ng:=decide (9223372036854775808 ≤ b)) (e:=ex) (nu:=str nu) (de:=str []) (fun w => ?_) (by rw [Qad]; omega) (by rw [Qad]; simp) (fun b' E h => ?_) hG hT
  ·have:=Qjn rd (by omega) w
   exact this
  ·rw [Qab,Qab] at h
   exact Qim h hB
 ·have:=Qoj (A:=[]) (R:=[]) rd Stops.nil (by simp; omega) w
  simp only [List.nil_append,List.append_nil,List.length_nil,Int.natCast_zero,Int.zero_add] at this
  exact this
end Go.Proofs.YtjnmgjcmagnkeabGreatDoor

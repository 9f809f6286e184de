import Derived.Test.YtjnmgjcmagnkeabGreatDoorPt34
import Derived.Test.YtjnmgjcmagnkeabGreatDoorPt36
namespace Go.Proofs.YtjnmgjcmagnkeabGreatDoor
open Go.ChangeShapes Go.WideShapes Go.ChangeAt Go.RowKit
open Na Ar Ry Ft Lx Go.Shelf
set_option linter.unusedVariables false
theorem QlB (x : Int) : bits .and .i64 x 3 = x % 4:=by
 have h : (BitVec.ofInt 64 3).toNat = 2 ^ 2 - 1:=by decide
 have e : (BitVec.ofInt 64 x &&& BitVec.ofInt 64 3).toNat = (x % ((2 ^ 64 : Nat) : Int)).toNat % 2 ^ 2:=by
  rw [BitVec.toNat_and,BitVec.toNat_ofInt,h,Nat.and_two_pow_sub_one_eq_mod]
 show IntKind.i64.wrap ((BitVec.ofInt 64 x &&& BitVec.ofInt 64 3).toNat : Nat) = _
 rw [e,IntKind.wrap_i64]
 omega
theorem QlC {b : Int} (hu : U b) (w : World) : Calls Tryz.prog 30 #[.int .u64 b] w fun r w' => r = .returned (.bool (ef b != 2047)) ∧ w' = w:=by
 have h:=Ql8 hu
 go_enter Tryz.func30,Tryz.ntmps30
 go_wp2
 go_ret
 exact ⟨rfl,rfl⟩
theorem Qqv {b : Int} (hu : U b) (hf : ef b ≠ 2047) (hn : b ≠ 9218868437227405311) : nxE b = 0 ∧ U (nxW b) ∧ ef (nxW b) ≠ 2047 ∧ nxW b ≠ b ∧ cmE b (nxW b) = 0 ∧ cmW b (nxW b) = -1:=by
 have a1 : nxE b = 0:=by unfold nxE; rw [if_neg hf,if_neg hn]
 have a2 : U (nxW b) ∧ ef (nxW b) ≠ 2047 ∧ nxW b ≠ b ∧ rk0 b < rk0 (nxW b):=by
  unfold nxW
  rw [if_neg hf,if_neg hn]
  unfold ef at hf
  unfold U at hu
  unfold U ef rk0
  split
  ·refine ⟨?_,?_,?_,?_⟩ <;> (try split) <;> (try split) <;> omega
  ·split
   ·refine ⟨?_,?_,?_,?_⟩ <;> (try split) <;> (try split) <;> omega
   ·refine ⟨?_,?_,?_,?_⟩ <;> (try split) <;> (try split) <;> omega
 obtain ⟨p1,p2,p3,p4⟩:=a2
 refine ⟨a1,p1,p2,p3,?_,?_⟩
 ·unfold cmE; rw [if_neg hf,if_neg p2]
 ·unfold cmW; rw [if_neg hf,if_neg p2]; unfold ord; rw [if_pos p4]
set_option maxHeartbeats 3200000 in
set_option maxRecDepth 100000 in
theorem printed_walk {b m0 : Int} (ub : U b) (hm0 : -9223372036854775808 ≤ m0) (hm1 : m0 ≤ 9223372036854775807) {w : World} (hz : ZeroVar w) (hT : PowTb w) (hN : TenVar w) (hG : GrVar w) :
  Calls Tryz.prog 7 #[.int .u64 b,.int .i64 m0] w fun r w' => r = .returned (.bool true) ∧ Below w.heap.size w w':=by
 have hC:=Qly hG hN
 have hF:=fun w => QlC ub w
 have h3:=QlB m0
 obtain ⟨m,hm⟩ : ∃ m,m = m0 % 4:=⟨_,rfl⟩
 rw [← hm] at h3
 have hm' : 0 ≤ m ∧ m < 4:=by omega
 clear hm
 have hw1 : wrap64 (1 + m) = 1 + m:=by unfold wrap64; omega
 have HZ : Hid (ZeroVar w ∧ PowTb w ∧ TenVar w ∧ GrVar w):=⟨hz,hT,hN,hG⟩
 have HU : Hid (U b):=ub
 clear hz hT hN hG ub hm0 hm1
 by_cases q4 : m = 3
 ·subst q4
  have hX:=fun w => Qjs (b:=b) (m:=4) (by omega) (by omega) (by omega) w
  go_enter Tryz.func7,Tryz.ntmps7
  go_wp2_with fail
  refine hC.mono ?_
  rintro e w1 ⟨rfl,hb1⟩
  clear hC
  go_wp2_with fail
  refine (hX _).mono ?_
  rintro e w2 ⟨rfl,hw⟩
  rw [hw]
  clear hX hw
  go_wp2
  go_ret
  exact ⟨rfl,hb1⟩
 ·have hm : 1 + m = 1 ∨ 1 + m = 2 ∨ 1 + m = 3:=by omega
  have k4 : (1 + m == 4) = false:=QaC (by omega)
  by_cases f : ef b = 2047
  ·have hX:=fun w => QlA (m:=1 + m) HU.out f hm w
   have d : (ef b != 2047) = false:=QaW f
   rw [d] at hF
   clear d f
   go_enter Tryz.func7,Tryz.ntmps7
   go_wp2_with fail
   refine hC.mono ?_
   rintro e w1 ⟨rfl,hb1⟩
   clear hC
   go_wp2_with fail
   refine (hX _).mono ?_
   rintro e w2 ⟨rfl,hw⟩
   rw [hw]
   clear hX hw
   go_wp2_with fail
   refine (hF _).mono ?_
   rintro e w2 ⟨rfl,hw⟩
   rw [hw]
   clear hF hw
   go_wp2
   go_ret
   exact ⟨rfl,hb1⟩
  ·have d : (ef b != 2047) = true:=Qas f
   rw [d] at hF
   have ub:=HU.out
   obtain ⟨hz,hT,hN,hG⟩:=HZ.out
   have tb:=fun w' (hbl : Below w.heap.size w w') => Qgt (m:=1 + m) ub f hm (hz.later hbl) (QaN hT hbl)
   obtain ⟨_,_,_,_,_,hP,_⟩:=back14 ub f hm
   have hP:=fun w' (hbl : Below w.heap.size w w') => hP w' (hG.later hbl) (hN.later hbl)
   have hX:=fun w => QfW ub w
   by_cases qn : b = 9218868437227405311
   ·have e1 : nxE b = 62:=by unfold nxE; rw [if_neg f,if_pos qn]
    have dn : (b == 9218868437227405311) = true:=QcL qn
    rw [e1] at hX
    generalize nxW b = c at *
    generalize textT b (1 + m) = X at *
    have HT : Hid _:=tb
    have HP : Hid _:=hP
    clear d qn f e1 tb hP hz hT hN hG HZ HU ub
    go_enter Tryz.func7,Tryz.ntmps7
    go_wp2_with fail
    refine hC.mono ?_
    rintro e w1 ⟨rfl,hb1⟩
    clear hC
    go_wp2_with fail
    refine (HT.out _ hb1).mono ?_
    rintro e w2 ⟨rfl,hb2⟩
    have B2:=hb1.trans (hb2.mono hb1.size)
    clear HT hb1 hb2
    go_wp2_with fail
    refine (hF _).mono ?_
    rintro e w3 ⟨rfl,hw⟩
    rw [hw]
    clear hF hw
    go_wp2_with fail
    refine (HP.out _ B2).mono ?_
    rintro e w4 ⟨rfl,hb4⟩
    have B4:=B2.trans (hb4.mono B2.size)
    clear HP B2 hb4
    go_wp2_with fail
    refine (hX _).mono ?_
    rintro e w5 ⟨rfl,hw⟩
    rw [← hw]
    clear hX hw
    go_wp2
    go_ret
    exact ⟨rfl,B4⟩
   ·obtain ⟨e1,uc,fc,cb,c1,c2⟩:=Qqv ub f qn
    have hK:=fun w => Qmj ub uc w
    have tc:=fun w' (hbl : Below w.heap.size w w') => Qgt (m:=1 + m) uc fc hm (hz.later hbl) (QaN hT hbl)
    obtain ⟨_,_,_,_,_,hQ,_⟩:=back14 uc fc hm
    have hQ:=fun w' (hbl : Below w.heap.size w w') => hQ w' (hG.later hbl) (hN.later hbl)
    have ne : ¬ textT (nxW b) (1 + m) = textT b (1 + m):=fun h => cb ((Qqu uc ub fc f hm).mp h)
    rw [c1,c2] at hK
    rw [e1] at hX
    generalize nxW b = c at *
    generalize textT b (1 + m) = X at *
    generalize textT c (1 + m) = Y at *
    have n0 : ¬ (str Y).toList = (str X).toList:=by rw [Lib.toList_data,Lib.toList_data,Qab,Qab]; exact ne
    have n1 : ((str Y).toList == (str X).toList) = false:=beq_eq_false_iff_ne.mpr n0
    have n2 : ((str Y).toList != (str X).toList) = true:=bne_iff_ne.mpr n0
    have HT : Hid _:=tb
    have HP : Hid _:=hP
    have HT2 : Hid _:=tc
    have HP2 : Hid _:=hQ
    have HN1 : Hid _:=n1
    have HN2 : Hid _:=n2
    clear d qn f e1 tb hP tc hQ hz hT hN hG HZ HU ub uc fc cb c1 c2 ne n1 n2 n0
    go_enter Tryz.func7,Tryz.ntmps7
    go_wp2_with fail
    refine hC.mono ?_
    rintro e w1 ⟨rfl,hb1⟩
    clear hC
    go_wp2_with fail
    refine (HT.out _ hb1).mono ?_
    rintro e w2 ⟨rfl,hb2⟩
    have B2:=hb1.trans (hb2.mono hb1.size)
    clear HT hb1 hb2
    go_wp2_with fail
    refine (hF _).mono ?_
    rintro e w3 ⟨rfl,hw⟩
    rw [hw]
    clear hF hw
    go_wp2_with fail
    refine (HP.out _ B2).mono ?_
    rintro e w4 ⟨rfl,hb4⟩
    have B4:=B2.trans (hb4.mono B2.size)
    clear HP B2 hb4
    go_wp2_with fail
    refine (hX _).mono ?_
    rintro e w5 ⟨rfl,hw⟩
    rw [← hw]
    clear hX hw
    go_wp2_with fail
    refine (HT2.out _ B4).mono ?_
    rintro e w6 ⟨rfl,hb6⟩
    have B6:=B4.trans (hb6.mono B4.size)
    clear HT2 B4 hb6
    go_wp2_with fail
    refine (HP2.out _ B6).mono ?_
    rintro e w7 ⟨rfl,hb7⟩
    have B7:=B6.trans (hb7.mono B6.size)
    clear HP2 B6 hb7
    go_wp2_with fail
    refine (hK _).mono ?_
    rintro e w8 ⟨rfl,hw⟩
    rw [← hw]
    clear hK hw
    have n1:=HN1.out
    have n2:=HN2.out
    clear HN1 HN2
    go_wp2
    go_ret
    exact ⟨rfl,B7⟩
end Go.Proofs.YtjnmgjcmagnkeabGreatDoor

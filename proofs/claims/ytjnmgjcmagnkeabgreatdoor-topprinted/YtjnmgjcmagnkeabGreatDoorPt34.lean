import Derived.Test.YtjnmgjcmagnkeabGreatDoorPt19
import Derived.Test.YtjnmgjcmagnkeabGreatDoorPt32
set_option maxHeartbeats 6400000
namespace Go.Proofs.YtjnmgjcmagnkeabGreatDoor
open Go.ChangeShapes Go.WideShapes Go.ChangeAt Go.RowKit
open Na Ar Lx
set_option linter.unusedVariables false
namespace Na
theorem lt_w1 {x : Int} (h0 : 0 ≤ x) (h1 : x < 18446744073709551616) : Lt x 1:=⟨h0,by simpa using h1⟩
theorem QeB {x : Int} (h0 : 0 < x) (h1 : x < 18446744073709551616) : Nm [x] x:=Nm.one ⟨by omega,h1⟩
end Na
theorem Qgs {w : World} {a : Option Addr} {n c : Nat} {X : Int} (hr : RowC w a n c (words X)) (h0 : 0 < X) (h1 : X < 10) :
  Calls Tryz.prog 32 #[.slice a n c,.int .i64 10] w fun e w' => e = .returned (.tuple #[.string ⟨(bytesOf (laidD 10 1 X)).toArray⟩,.int .i64 0]) ∧ Below w.heap.size w w':=by
 have hN : Nm (words X) X:=Qg6 (by omega) (by have:=(lt_w1 (x:=X) (by omega) (by omega)).len; omega)
 have hl:=(lt_w1 (x:=X) (by omega) (by omega)).len
 have hn : n = (words X).length:=hr.1.1.symm
 refine (QpX hr hN.ws (by omega) (by omega) (by omega) (by rw [hN.num]; omega) (by rw [hN.num]; omega)).mono ?_
 rintro e w' ⟨t,rfl,ht,hb⟩
 rw [hN.num] at ht
 have e:=Qle (d:=0) ht (by omega) (by omega) (by simp; omega) (by simpa using h1)
 refine ⟨?_,hb⟩
 have : t = ⟨(bytesOf (laidD 10 1 X)).toArray⟩:=by
  apply ByteArray.ext
  rw [← e]
 rw [this]
set_option maxRecDepth 100000 in
theorem Qlx {w : World} {s : Bool} {a b : Option Addr} {n c m d : Nat} (h : Rt w s a n c b m d (mkRat 1 6)) :
  Calls Tryz.prog 82 #[.agg #[.bool s,.slice a n c,.slice b m d]] w fun e w' => e = .returned (.tuple #[.string ⟨#[49,47,54]⟩,.int .i64 0]) ∧ Below w.heap.size w w':=by
 have q1 : (mkRat 1 6).num = 1:=by decide
 have q2 : (mkRat 1 6).den = 6:=by decide
 have hs : s = false:=by rw [h.sgn,q1]; decide
 subst hs
 have hz : Sz (mkRat 1 6) 1:=⟨by rw [q1]; exact lt_w1 (by decide) (by decide),by rw [q2]; exact lt_w1 (by decide) (by decide)⟩
 have hb0:=Qaa (w:=w) (.cells #[.bool false,.slice a n c,.slice b m d] 29)
 have st0:=QcN w (.bool false) (.slice a n c) (.slice b m d) 29
 have h0:=h.later hb0
 obtain ⟨x0,x1,x2⟩:=st0.cells
 have ck:=QgV h0 hz (by omega)
 have rn:=fun w1 (hb : Below _ _ w1) => (h0.later hb).nu
 have rd:=fun w1 (hb : Below _ _ w1) => (h0.later hb).de
 rw [q1] at rn
 rw [q2] at rd
 have e1 : ((Int.natAbs 1 : Nat) : Int) = 1:=rfl
 have e6 : ((6 : Nat) : Int) = 6:=rfl
 rw [e1] at rn
 rw [e6] at rd
 have tx1:=fun w1 (hb : Below _ _ w1) => Qgs (X:=1) (rn w1 hb) (by omega) (by omega)
 have tx2:=fun w1 (hb : Below _ _ w1) => Qgs (X:=6) (rd w1 hb) (by omega) (by omega)
 have b1 : bytesOf (laidD 10 1 1) = [49]:=by decide
 have b6 : bytesOf (laidD 10 1 6) = [54]:=by decide
 rw [b1] at tx1
 rw [b6] at tx2
 have lw:=(lt_w1 (x:=6) (by omega) (by omega)).len
 have hmm : m = (words (6 : Int)).length:=by have:=h.lenD; rw [q2] at this; exact this
 have on:=fun w1 (hb : Below _ _ w1) => Qfb (B:=false) (rd w1 hb) (A:=6) (Qg6 (by omega) (by omega)) (by omega) (by decide)
 have c1 : ByteArray.mk #[49] ++ ByteArray.mk #[47] = ByteArray.mk #[49,47]:=rfl
 have c2 : ByteArray.mk #[49,47] ++ ByteArray.mk #[54] = ByteArray.mk #[49,47,54]:=rfl
 have c3 : ByteArray.mk [49].toArray = ByteArray.mk #[49]:=rfl
 have c4 : ByteArray.mk [54].toArray = ByteArray.mk #[54]:=rfl
 rw [c3] at tx1
 rw [c4] at tx2
 clear h h0 hz q1 q2 rn rd b1 b6 lw hmm e1 e6 c3 c4
 go_enter Tryz.func82,Tryz.ntmps82
 go_wp2_with fail
 refine ck.mono ?_
 rintro e w1 ⟨rfl,hb1⟩
 obtain ⟨z0,z1,z2⟩:=(st0.later hb1).cells
 go_wp2_with fail
 refine (tx1 _ hb1).mono ?_
 rintro e w2 ⟨rfl,hb2⟩
 have hB2:=hb1.trans (hb2.mono hb1.size)
 obtain ⟨u0,u1,u2⟩:=(st0.later hB2).cells
 clear tx1 ck
 go_wp2_with fail
 refine (on _ hB2).mono ?_
 rintro e w3 ⟨rfl,hb3⟩
 have hB3:=hB2.trans (hb3.mono hB2.size)
 obtain ⟨v0,v1,v2⟩:=(st0.later hB3).cells
 clear on
 go_wp2_with fail
 refine (tx2 _ hB3).mono ?_
 rintro e w4 ⟨rfl,hb4⟩
 have hB4:=hB3.trans (hb4.mono hB3.size)
 clear tx2
 go_wp2
 go_ret2
 exact ⟨rfl,hb0.trans (hB4.mono hb0.size)⟩
set_option maxRecDepth 100000 in
theorem Qly {w : World} (hG : GrVar w) (hT : TenVar w) :
  Calls Tryz.prog 29 #[] w fun r w' => r = .returned (.bool true) ∧ Below w.heap.size w w':=by
 have hP:=Qjq hG hT
 have zH : Sz (mkR false 1 2) 1:=⟨by exact lt_w1 (by decide) (by decide),by exact lt_w1 (by decide) (by decide)⟩
 have zT : Sz (mkR true 2 6) 1:=⟨by exact lt_w1 (by decide) (by decide),by exact lt_w1 (by decide) (by decide)⟩
 have eS : mkR false 1 2 + mkR true 2 6 = mkRat 1 6:=by decide +kernel
 have oK : ordR (mkRat 1 6) (mkR true 2 6) = 1:=by decide +kernel
 have N1:=fun (w : World) => QnG (neg:=false) (w:=(w.alloc (.cells #[.int .u64 1] 22)).alloc (.cells #[.int .u64 2] 22)) ((QcC w 1 22).later (Qaa _)) (QcC (w.alloc (.cells #[.int .u64 1] 22)) 2 22) (QeB (by omega) (by omega)) (QeB (by omega) (by omega)) (by omega) ((lt_w1 (by omega) (by omega)).mono (by omega)) ((lt_w1 (by omega) (by omega)).mono (by omega)) (by omega) (by omega)
 have N2:=fun (w : World) => QnG (neg:=true) (w:=(w.alloc (.cells #[.int .u64 2] 22)).alloc (.cells #[.int .u64 6] 22)) ((QcC w 2 22).later (Qaa _)) (QcC (w.alloc (.cells #[.int .u64 2] 22)) 6 22) (QeB (by omega) (by omega)) (QeB (by omega) (by omega)) (by omega) ((lt_w1 (by omega) (by omega)).mono (by omega)) ((lt_w1 (by omega) (by omega)).mono (by omega)) (by omega) (by omega)
 have BB:=fun (w : World) (x y : Int) => ((Below.refl _ w).alloc (Nat.le_refl _) (.cells #[.int .u64 x] 22)).alloc (by simp) (.cells #[.int .u64 y] 22)
 have HN1 : Hid _:=N1
 have HN2 : Hid _:=N2
 have HBB : Hid _:=BB
 clear N1 N2 BB
 go_enter Tryz.func29,Tryz.ntmps29
 go_wp2_with fail
 refine hP.mono ?_
 rintro e w1 ⟨rfl,hb1⟩
 clear hP
 have n1:=HN1.out w1
 have bb1:=hb1.trans ((HBB.out w1 1 2).mono hb1.size)
 simp only [World.size_alloc] at n1
 go_wp2_with fail
 refine n1.mono ?_
 rintro e w2 ⟨s1,v1,v2,rfl,ho1,hb2⟩
 obtain ⟨a1,n1',c1,b1,m1,d1,rfl,rfl,r1⟩:=ho1.opens
 have B2:=bb1.trans (hb2.mono (by have:=bb1.size; simpa using this))
 clear n1 ho1 HN1 hb1 hb2 bb1
 have st1:=QcN w2 (.bool s1) (.slice a1 n1' c1) (.slice b1 m1 d1) 29
 have k1:=Qaa (w:=w2) (.cells #[.bool s1,.slice a1 n1' c1,.slice b1 m1 d1] 29)
 replace r1:=r1.later k1
 have n2:=HN2.out (w2.alloc (.cells #[.bool s1,.slice a1 n1' c1,.slice b1 m1 d1] 29))
 have kk:=HBB.out (w2.alloc (.cells #[.bool s1,.slice a1 n1' c1,.slice b1 m1 d1] 29)) 2 6
 simp only [World.size_alloc] at n2
 clear HN2 HBB
 go_wp2_with fail
 refine n2.mono ?_
 rintro e w3 ⟨s2,v3,v4,rfl,ho2,hb3⟩
 obtain ⟨a2,n2',c2,b2,m2,d2,rfl,rfl,r2⟩:=ho2.opens
 have B23:=kk.trans (hb3.mono (by simp))
 have B3:=B2.trans ((k1.trans (B23.mono k1.size)).mono B2.size)
 replace st1:=st1.later B23
 replace r1:=r1.later B23
 clear n2 ho2 kk hb3 k1 B23 B2
 have st2:=QcN w3 (.bool s2) (.slice a2 n2' c2) (.slice b2 m2 d2) 29
 have k3:=Qaa (w:=w3) (.cells #[.bool s2,.slice a2 n2' c2,.slice b2 m2 d2] 29)
 replace r1:=r1.later k3
 replace r2:=r2.later k3
 replace st1:=st1.later k3
 have B4:=B3.trans (k3.mono B3.size)
 obtain ⟨x0,x1,x2⟩:=st1.cells
 obtain ⟨y0,y1,y2⟩:=st2.cells
 have hA:=Qr3 r1 r2 zH zT (by omega)
 clear B3 k3
 go_wp2_with fail
 refine hA.mono ?_
 rintro e w5 ⟨s3,v5,v6,rfl,ho3,z3,hb5⟩
 rw [eS] at ho3 z3
 obtain ⟨a3,n3',c3,b3,m3,d3,rfl,rfl,r3⟩:=ho3.opens
 have B5:=B4.trans (hb5.mono B4.size)
 replace st2:=st2.later hb5
 replace r2:=r2.later hb5
 clear hA ho3 B4 hb5 st1 r1 x0 x1 x2 y0 y1 y2
 have st3:=QcN w5 (.bool s3) (.slice a3 n3' c3) (.slice b3 m3 d3) 29
 have k5:=Qaa (w:=w5) (.cells #[.bool s3,.slice a3 n3' c3,.slice b3 m3 d3] 29)
 replace r3:=r3.later k5
 replace r2:=r2.later k5
 replace st2:=st2.later k5
 have B6:=B5.trans (k5.mono B5.size)
 obtain ⟨x0,x1,x2⟩:=st3.cells
 have hX:=Qlx r3
 clear B5 k5
 go_wp2_with fail
 refine hX.mono ?_
 rintro e w6 ⟨rfl,hb6⟩
 have B7:=B6.trans (hb6.mono B6.size)
 replace st2:=st2.later hb6
 replace st3:=st3.later hb6
 replace r2:=r2.later hb6
 replace r3:=r3.later hb6
 clear hX B6 hb6 x0 x1 x2
 obtain ⟨x0,x1,x2⟩:=st3.cells
 obtain ⟨y0,y1,y2⟩:=st2.cells
 have hC:=Qr4 r3 r2 z3 zT (by omega) oK
 go_wp2_with fail
 refine hC.mono ?_
 rintro e w7 ⟨rfl,hb7⟩
 have B8 : Hid (Below w.heap.size w w7):=B7.trans (hb7.mono B7.size)
 clear hC B7 hb7 r2 r3 st2 st3 x0 x1 x2 y0 y1 y2 z3 eS oK zH zT
 go_wp2
 go_ret
 exact ⟨rfl,B8.out⟩
end Go.Proofs.YtjnmgjcmagnkeabGreatDoor

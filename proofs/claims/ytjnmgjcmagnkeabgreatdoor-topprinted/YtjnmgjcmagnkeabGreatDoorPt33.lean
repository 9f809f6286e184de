import Derived.Test.YtjnmgjcmagnkeabGreatDoorPt24
import Derived.Test.YtjnmgjcmagnkeabGreatDoorPt27
import Derived.Test.YtjnmgjcmagnkeabGreatDoorPt28
set_option maxHeartbeats 1600000
namespace Go.Proofs.YtjnmgjcmagnkeabGreatDoor
open Go.ChangeShapes Go.WideShapes Go.ChangeAt Go.RowKit
open Na Ar Ry Ft Lx Go.Shelf
set_option linter.unusedVariables false
namespace Ft
def dgS (p : Int) : B:=Lib.decDigits (shD p).toNat
def ptS (p : Int) : Int:=(dgS p).length + shE p
structure DS (p : Int) : Prop where
 dg : Dg (dgS p)
 len : (dgS p).length ≤ 17
 pos : 0 < (dgS p).length
 e0 : -324 ≤ shE p
 e1 : shE p ≤ 308
 k0 : -323 ≤ ptS p
 k1 : ptS p ≤ 325
theorem Qtu {u : Nat} (h : u < 100000000000000000) : (Lib.decDigits u).length ≤ 17:=by
 rw [Lib.decDigits_length]
 have key : ∀ k u : Nat,u < 10 ^ (k + 1) → Lib.nDigits u ≤ k + 1:=by
  intro k
  induction k with
  | zero => intro u h; rw [Lib.nDigits_small (by simpa using h)]; exact Nat.le_refl _
  | succ k ih =>
   intro u h
   by_cases q : u < 10
   ·rw [Lib.nDigits_small q]; omega
   ·rw [Lib.nDigits_big q]
    have:=ih (u / 10) (by rw [Nat.pow_succ] at h; omega)
    omega
 exact key 16 u h
theorem ds_of {p : Int} (h0 : 0 < p) (h1 : p ≤ mostP) : DS p:=by
 have s:=sh_is h0 h1
 have r0:=s.r0
 have r1:=s.r1
 have e0:=s.e0
 have e1:=s.e1
 have hd : Dg (dgS p):=Dg.of (by omega)
 have hl : (dgS p).length ≤ 17:=Qtu (by omega)
 have hp : 0 < (dgS p).length:=by have:=hd.ne; cases q : dgS p with | nil => exact absurd q this | cons c r => simp
 exact ⟨hd,hl,hp,e0,e1,by unfold ptS; omega,by unfold ptS; omega⟩
end Ft
set_option maxRecDepth 100000 in
theorem Qdy {b : Int} (hu : U b) (hf : ef b ≠ 2047) (h0 : mg b ≠ 0) (hD : DS (mg b)) (hp : 0 < shD (mg b)) (hq : shD (mg b) < 100000000000000000) (w : World) (hT : PowTb w) :
  Calls Tryz.prog 199 #[.int .u64 b] w fun r w' => r = .returned (.agg (fdC (dgS (mg b)) (ptS (mg b)))) ∧ Below w.heap.size w w':=by
 have hS:=fun w => Qlp hu hf h0 w
 have hU:=fun w h => fmtUint14 (u:=(shD (mg b)).toNat) (by omega) (by omega) w h
 have e1 : (((shD (mg b)).toNat : Nat) : Int) = shD (mg b):=by omega
 rw [e1] at hU
 have hl:=hD.len
 have k0:=hD.e0
 have k1:=hD.e1
 have hk : ptS (mg b) = ((dgS (mg b)).length : Int) + shE (mg b):=rfl
 rw [hk]
 have hdg : Lib.decDigits (shD (mg b)).toNat = dgS (mg b):=rfl
 rw [hdg] at hU
 generalize dgS (mg b) = D at *
 clear hk hdg hD
 generalize shE (mg b) = E at *
 generalize shD (mg b) = S at *
 have sD : (str D).size = D.length:=Qad D
 have B0 : Below w.heap.size w (w.alloc (.cells #[.string ⟨#[]⟩,.int .i64 0] 242)):=(Below.refl _ w).alloc (Nat.le_refl _) _
 have T0 : PowTb (w.alloc (.cells #[.string ⟨#[]⟩,.int .i64 0] 242)):=Lib.tabIs_alloc hT _
 have K0:=Ry.Bk.new w 242 #[.string ⟨#[]⟩,.int .i64 0]
 go_enter Tryz.func199,Tryz.ntmps199
 go_wp2_with fail
 refine (hS _).mono ?_
 rintro e w1 ⟨rfl,hb1⟩
 have T1:=QaN T0 hb1
 have K1:=K0.later hb1
 have B1:=B0.trans (hb1.mono B0.size)
 clear hS K0 T0 hb1 B0
 go_wp2_with fail
 refine (hU _ T1).mono ?_
 rintro e w2 ⟨rfl,hb2⟩
 have K2:=K1.later hb2
 have B2:=B1.trans (hb2.mono B1.size)
 clear hU K1
 have x0:=K2.cell 0 rfl
 have x1:=K2.cell 1 rfl
 have y0:=K2.frozen 0
 have y1:=K2.frozen 1
 have K3 : Ry.Bk ((w2.setCell ⟨w.heap.size,0,none⟩ (.string (str D))).setCell ⟨w.heap.size,1,none⟩ (.int .i64 ((D.length : Int) + E))) w.heap.size 242 #[.string (str D),.int .i64 ((D.length : Int) + E)]:=by
  have:=(K2.set 0 (.string (str D))).set 1 (.int .i64 ((D.length : Int) + E))
  simpa using this
 have B3:=Qai (i:=1) (v:=.int .i64 ((D.length : Int) + E)) (Qai (i:=0) (v:=.string (str D)) B2 (Nat.le_refl _) (Nat.le_refl _)) (Nat.le_refl _) (Nat.le_refl _)
 have HK : Hid _:=K3
 clear K2 K3
 go_wp2
 refine bodyPost_ret (results_cell_row rfl _ _ w.heap.size 242 _ (0,0) _ rfl HK.out Tryz.underlying242 rfl (by kernel_rfl)) rfl ?_
 exact ⟨rfl,B3⟩
set_option maxRecDepth 100000 in
theorem QfE {b : Int} (hu : U b) (hf : ef b ≠ 2047) (h0 : mg b ≠ 0) (hD : DS (mg b)) (hp : 0 < shD (mg b)) (hq : shD (mg b) < 100000000000000000) (w : World) (hT : PowTb w) :
  Calls Tryz.prog 129 #[.int .u64 b] w fun r w' => r = .returned (.string (str (shT (dgS (mg b)) (ptS (mg b))))) ∧ Below w.heap.size w w':=by
 have hC:=fun w h => Qdy hu hf h0 hD hp hq w h
 have l1:=hD.len
 have l2:=hD.pos
 have k0:=hD.k0
 have k1:=hD.k1
 have hS:=fun w h => Qih (d:=dgS (mg b)) (k:=ptS (mg b)) l2 (by omega) (by omega) (by omega) w h
 have hP:=fun w => Qjl (d:=dgS (mg b)) (k:=ptS (mg b)) (by omega) (by omega) (by omega) w
 clear hD
 generalize dgS (mg b) = D at *
 generalize ptS (mg b) = k at *
 unfold fdC at *
 go_enter Tryz.func129,Tryz.ntmps129
 go_wp2_with fail
 refine (hC _ hT).mono ?_
 rintro e w1 ⟨rfl,hb1⟩
 have T1:=QaN hT hb1
 have B2 : Below w.heap.size w (w1.alloc (.cells #[.string (str D),.int .i64 k] 242)):=hb1.alloc hb1.size _
 have T2 : PowTb (w1.alloc (.cells #[.string (str D),.int .i64 k] 242)):=Lib.tabIs_alloc T1 _
 clear hC
 by_cases q : k < -5
 ·have E1 : Hid (shT D k = sciT D k):=if_pos (Or.inl q)
  clear hP
  go_wp2_with (go_at_call 200; refine (hS _ T2).mono ?_; rintro r w3 ⟨rfl,hb3⟩)
  go_ret
  exact ⟨by rw [E1.out]; rfl,B2.trans (hb3.mono B2.size)⟩
 ·by_cases q2 : 21 < k
  ·have E1 : Hid (shT D k = sciT D k):=if_pos (Or.inr q2)
   clear hP
   go_wp2_with (go_at_call 200; refine (hS _ T2).mono ?_; rintro r w3 ⟨rfl,hb3⟩)
   go_ret
   exact ⟨by rw [E1.out]; rfl,B2.trans (hb3.mono B2.size)⟩
  ·have E1 : Hid (shT D k = plT D k):=if_neg (by omega)
   clear hS
   have q3 : -5 ≤ k:=by omega
   have q4 : k ≤ 21:=by omega
   have d1 : decide (k < -5) = false:=by simp; omega
   have d2 : decide (21 < k) = false:=by simp; omega
   clear q q2
   go_wp2_with (go_at_call 201; refine (hP _).mono ?_; rintro r w3 ⟨rfl,hb3⟩)
   go_ret
   exact ⟨by rw [E1.out]; rfl,B2.trans (hb3.mono B2.size)⟩
theorem Qha {b : Int} (hu : U b) (hf : ef b ≠ 2047) (h0 : mg b ≠ 0) (hD : DS (mg b)) (hp : 0 < shD (mg b)) (hq : shD (mg b) < 100000000000000000) (w : World) (hT : PowTb w) :
  Calls Tryz.prog 131 #[.int .u64 b] w fun r w' => r = .returned (.string (str (sciT (dgS (mg b)) (ptS (mg b))))) ∧ Below w.heap.size w w':=by
 have hC:=fun w h => Qdy hu hf h0 hD hp hq w h
 have l1:=hD.len
 have l2:=hD.pos
 have k0:=hD.k0
 have k1:=hD.k1
 have hS:=fun w h => Qih (d:=dgS (mg b)) (k:=ptS (mg b)) l2 (by omega) (by omega) (by omega) w h
 clear hD
 go_enter Tryz.func131,Tryz.ntmps131
 go_wp2_with fail
 refine (hC _ hT).mono ?_
 rintro e w1 ⟨rfl,hb1⟩
 have T1:=QaN hT hb1
 clear hC
 go_wp2_with fail
 refine (hS _ T1).mono ?_
 rintro e w2 ⟨rfl,hb2⟩
 go_wp2
 go_ret
 exact ⟨rfl,hb1.trans (hb2.mono hb1.size)⟩
theorem Qlw {m : Int} (h : U m) (w : World) :
  Calls Tryz.prog 202 #[.int .u64 m] w fun r w' => r = .returned (.int .i64 (64 - (Lib.bitLen m.toNat : Int))) ∧ w' = w:=by
 have hL:=fun w => Any.bits_Len64 { QbU with } m w h.1 (by have:=h.2; omega)
 have hb : Lib.bitLen m.toNat ≤ 64:=Lib.bitLen_le _ 64 (Nat.le_refl _) (by have:=h.1; have:=h.2; omega)
 generalize Lib.bitLen m.toNat = L at *
 go_enter Tryz.func202,Tryz.ntmps202
 go_wp2_with fail
 refine (hL _).mono ?_
 rintro e w1 ⟨rfl,hw⟩
 rw [hw]
 go_wp2
 go_ret
 exact ⟨rfl,rfl⟩
end Go.Proofs.YtjnmgjcmagnkeabGreatDoor

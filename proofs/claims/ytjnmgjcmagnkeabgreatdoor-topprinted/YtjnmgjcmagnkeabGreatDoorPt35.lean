import Derived.Lib.SlBytesConst
import Derived.ArgAppend
import Derived.Test.YtjnmgjcmagnkeabGreatDoorPt33
set_option maxHeartbeats 3200000
namespace Go.Proofs.YtjnmgjcmagnkeabGreatDoor
open Go.ChangeShapes Go.WideShapes Go.ChangeAt Go.RowKit
open Na Ar Ry Ft Lx Go.Shelf
set_option linter.unusedVariables false
namespace Ft
def ahB (m : Nat) : Nat:=64 - Lib.bitLen m
def bhB (m : Nat) : Nat:=m * 2 ^ ahB m % 18446744073709551616 * 2 % 18446744073709551616
structure AB (m : Nat) : Prop where
 a0 : 11 ≤ ahB m
 a1 : ahB m ≤ 63
 eq : m * 2 ^ ahB m * 2 = 18446744073709551616 + bhB m
 lt : bhB m < 18446744073709551616
 mu : bhB m % 4096 = 0
theorem ab_of {m : Nat} (h0 : 0 < m) (h1 : m < 9007199254740992) : AB m:=by
 obtain ⟨l1,l2,l3⟩:=Lib.bitLenAux_bounds 64 m (by omega) (by omega)
 have hb : Lib.bitLen m = Lib.bitLenAux 64 m:=rfl
 rw [← hb] at l1 l2 l3
 have l4 : Lib.bitLen m ≤ 53:=by
  rcases Nat.lt_or_ge 53 (Lib.bitLen m) with q | q
  ·have : 2 ^ 53 ≤ 2 ^ (Lib.bitLen m - 1):=Nat.pow_le_pow_right (by omega) (by omega)
   have e : 2 ^ 53 = 9007199254740992:=by decide
   omega
  ·exact q
 have ha : ahB m = 64 - Lib.bitLen m:=rfl
 have ea : Lib.bitLen m = 64 - ahB m:=by omega
 rw [ea] at l2 l3
 have a0 : 11 ≤ ahB m:=by omega
 have a1 : ahB m ≤ 63:=by omega
 have p : 0 < 2 ^ ahB m:=Nat.two_pow_pos _
 have e1 : 2 ^ (64 - ahB m - 1) * 2 ^ ahB m = 9223372036854775808:=by rw [← Nat.pow_add,show 64 - ahB m - 1 + ahB m = 63 by omega]
 have e2 : 2 ^ (64 - ahB m) * 2 ^ ahB m = 18446744073709551616:=by rw [← Nat.pow_add,show 64 - ahB m + ahB m = 64 by omega]
 have g1 : 9223372036854775808 ≤ m * 2 ^ ahB m:=by rw [← e1]; exact Nat.mul_le_mul_right _ l2
 have g2 : m * 2 ^ ahB m < 18446744073709551616:=by rw [← e2]; exact Nat.mul_lt_mul_of_pos_right l3 p
 have g3 : m * 2 ^ ahB m * 2 = 18446744073709551616 + bhB m:=by unfold bhB; rw [Nat.mod_eq_of_lt g2]; omega
 refine ⟨a0,a1,g3,Nat.mod_lt _ (by omega),?_⟩
 have e3 : 2 ^ ahB m = 2 ^ (ahB m - 11) * 2048:=by rw [show (2048 : Nat) = 2 ^ 11 by decide,← Nat.pow_add,show ahB m - 11 + 11 = ahB m by omega]
 have e4 : m * 2 ^ ahB m * 2 = m * 2 ^ (ahB m - 11) * 4096:=by rw [e3,← Nat.mul_assoc,Nat.mul_assoc _ 2048 2]
 rw [e4] at g3
 omega
theorem Qsw : ∀ n : Fin 16,(ByteArray.mk #[48,49,50,51,52,53,54,55,56,57,97,98,99,100,101,102])[n.val]'(by have:=n.isLt; exact this) = hxD n.val:=by decide
def hxS (p : Int) : B:=hxT (bhB (spM p).toNat) (spX p + 63 - ahB (spM p).toNat)
end Ft
set_option maxRecDepth 100000 in
theorem Qoz {b : Int} (hu : U b) (hf : ef b ≠ 2047) (h0 : mg b ≠ 0) (w : World) (hT : PowTb w) :
  Calls Tryz.prog 130 #[.int .u64 b] w fun r w' => r = .returned (.string (str (hxS (mg b)))) ∧ Below w.heap.size w w':=by
 have hS:=fun w => Qa5 hu w
 have hm:=sp_mg hu
 have hz : spM b ≠ 0:=fun q => h0 ((QgL hu hf).mp q)
 obtain ⟨p,hp1,hp2,hp3,hp4,-,-,-⟩:=QbZ hu hf
 have hx : hxS (mg b) = hxT (bhB (spM b).toNat) (spX b + 63 - ahB (spM b).toNat):=by unfold hxS; rw [hm.1,hm.2.1]
 rw [hx]
 obtain ⟨m,em⟩ : ∃ m : Nat,spM b = (m : Int):=⟨(spM b).toNat,by omega⟩
 have et : (spM b).toNat = m:=by omega
 rw [et]
 have hA:=ab_of (m:=m) (by omega) (by omega)
 have hL:=fun w => Qlw (m:=spM b) ⟨by omega,by omega⟩ w
 rw [em] at hS hL
 have e1 : (64 : Int) - (Lib.bitLen (m : Int).toNat : Int) = (ahB m : Int):=by
  have:=hA.a0
  have : ahB m = 64 - Lib.bitLen m:=rfl
  rw [Int.toNat_natCast]; omega
 rw [e1] at hL
 have hX:=fun w h => QcP (e:=spX b + 63 - ahB m) (m:=1) (by have:=hA.a1; omega) (by omega) (by omega) w h
 have a0:=hA.a0
 have a1:=hA.a1
 have HE : Hid (m * 2 ^ ahB m % 18446744073709551616 * 2 % 18446744073709551616 = bhB m):=rfl
 have HB : Hid (bhB m < 18446744073709551616):=hA.lt
 clear hA e1 em et hx hm
 generalize ahB m = a at *
 generalize bhB m = x at *
 generalize spX b = X at *
 generalize spS b = sb at *
 generalize fiE b = fe at *
 obtain ⟨i_u8,hi_u8,hz0_u8,hz1_u8,hz2_u8⟩:=info_parts Qqd
 have hkc:=Lib.run_convert_bytes_const (P:=Tryz.prog) w 96 5 #[.int .u8 48,.int .u8 120,.int .u8 49] 3 3 Tryz.underlying96 Tryz.underlying5
 have T0 : PowTb (w.alloc (.cells #[.int .u8 48,.int .u8 120,.int .u8 49] 5 (3,4))):=Lib.tabIs_alloc hT _
 have B0 : Below w.heap.size w (w.alloc (.cells #[.int .u8 48,.int .u8 120,.int .u8 49] 5 (3,4))):=(Below.refl _ w).alloc (Nat.le_refl _) _
 have C0 : ∀ j u,[Value.int .u8 48,Value.int .u8 120,Value.int .u8 49][j]? = some u → (w.alloc (.cells #[.int .u8 48,.int .u8 120,.int .u8 49] 5 (3,4))).cell? ⟨w.heap.size,j,none⟩ = some u:=fun j u hj => by
  rw [World.cell?_alloc_mark,← hj]
  simp
 obtain ⟨w0,hw0⟩ : ∃ w0,w0 = w.alloc (.cells #[.int .u8 48,.int .u8 120,.int .u8 49] 5 (3,4)):=⟨_,rfl⟩
 have hs0 : w.heap.size < w0.heap.size:=by rw [hw0]; simp
 rw [← hw0] at T0 B0 C0
 have hkc' : (convert 96 96 (.slice (some ⟨w.heap.size,0,none⟩) 3 3)).run Tryz.prog (w.alloc (.cells #[.int .u8 48,.int .u8 120,.int .u8 49] 5)) = .ok (.slice (some ⟨w.heap.size,0,none⟩) 3 3) w0:=by rw [hw0]; exact hkc
 clear hkc hw0
 obtain ⟨y,hy⟩ : ∃ y : Nat,y = m * 2 ^ a % 18446744073709551616:=⟨_,rfl⟩
 have wr1 : IntKind.u64.wrap ((m : Int) * 2 ^ a) = (y : Int):=by rw [hy,IntKind.wrap_u64,Int.natCast_emod,Int.natCast_mul,Int.natCast_pow]; rfl
 have wr2 : IntKind.u64.wrap ((y : Int) * 2) = (x : Int):=by rw [← HE.out,← hy,IntKind.wrap_u64]; omega
 clear hy HE
 have hXX : (exT (X + 63 - a) 1).length ≤ 100:=by
  unfold exT
  have:=Qko (n:=(X + 63 - (a : Int)).natAbs) (by omega)
  rw [List.length_cons,List.length_append,List.length_replicate]; omega
 have HR : Hid (hxT x (X + 63 - a) = [48,120,49] ++ ((if x ≠ 0 then 46 :: hxL 16 x else []) ++ (112 :: exT (X + 63 - a) 1))):=rfl
 generalize hxT x (X + 63 - a) = RES at *
 generalize exT (X + 63 - a) 1 = ET at *
 have sET : (str ET).size = ET.length:=Qad ET
 have wr3 : IntKind.i64.wrap (X + 63) = X + 63:=by rw [IntKind.wrap_i64]; omega
 have wr4 : IntKind.i64.wrap (X + 63 - (a : Int)) = X + 63 - (a : Int):=by rw [IntKind.wrap_i64]; omega
 go_enter Tryz.func130,Tryz.ntmps130
 go_wp2_with fail
 refine (hS _).mono ?_
 rintro e w1 ⟨rfl,hw1⟩
 rw [← hw1]
 clear hS hw1
 go_wp2_with fail
 refine (hL _).mono ?_
 rintro e w1 ⟨rfl,hw1⟩
 rw [hw1]
 clear hL hw1
 by_cases q0 : x = 0
 ·rw [q0] at HR
  have HR2 : Hid (RES = [48,120,49] ++ (112 :: ET)):=by have:=HR.out; show _ = _; simpa using this
  have hcl : ∀ w',Below w0.heap.size w0 w' → (convert 96 9 (.slice (some ⟨w.heap.size,0,none⟩) 3 3)).run Tryz.prog w' = .ok (.string (str [48,120,49])) w':=fun w' hw' =>
   run_convert_bytes_back (P:=Tryz.prog) w' 96 9 5 ⟨w.heap.size,0,none⟩ 3 [48,120,49] Tryz.underlying96 Tryz.underlying5 Tryz.underlying9 (fun j hj => by
    have hj3 : j < 3:=hj
    rw [Lib.add_plain,Nat.zero_add,hw'.cell (p:=⟨w.heap.size,j,none⟩) hs0]
    refine C0 j _ ?_
    match j,hj3 with
    | 0,_ => rfl
    | 1,_ => rfl
    | 2,_ => rfl)
  obtain ⟨done,hdone⟩ : ∃ d : B,d = [48,120,49]:=⟨_,rfl⟩
  rw [← hdone] at hcl
  have hdl : done.length = 3:=by rw [hdone]; rfl
  have HD : Hid (done = [48,120,49]):=hdone
  clear hdone
  obtain ⟨T1,c1,t1,H1⟩:=catE (str done) (ByteArray.mk #[112])
  obtain ⟨T2,c2',t2,H2⟩:=catE T1 (str ET)
  have Q : Hid (T2 = str RES):=Qdv (by rw [H2.out,H1.out,Qab,Qab,HR2.out,HD.out]; simp)
  have z1 : (ByteArray.mk #[112]).size = 1:=rfl
  rw [z1] at t1
  have sdn : (str done).size = 3:=by rw [Qad]; exact hdl
  have k1:=hcl _ (Below.refl _ w0)
  have k2:=hcl w0.drew (below_drewN (Below.refl _ w0) 1)
  have TD : PowTb w0.drew:=QaN T0 (below_drewN (Below.refl _ w0) 1)
  have wr9 : (x : Int) = 0:=by omega
  rw [wr9] at wr2
  clear H1 H2 HR2 HD HR C0 hdl wr9 HB q0
  go_wp2_with fail
  refine wp_loop_rounds 1 ?_
  rw [rounds_succ]
  have q1 : (9223372036854775807 < 3 + 1 + ET.length) = False:=eq_false (by omega)
  have q2 : (3 + 1 + ET.length > 9223372036854775807) = False:=eq_false (by omega)
  have q3 : (9223372036854775807 < 4 + ET.length) = False:=eq_false (by omega)
  have q4 : (4 + ET.length > 9223372036854775807) = False:=eq_false (by omega)
  go_wp2_with fail
  go_region_held3 (fun w' => (convert 96 9 (.slice (some ⟨w.heap.size,0,none⟩) 3 3)).run Tryz.prog w' = .ok (.string (str done)) w') (first | exact k1 | exact k2 | exact k3 | exact hcl _ (below_drewN hBA _)) (first | (go_at_call 203; refine (hX _ (by first | exact T0 | exact TD)).mono ?_; rintro e wA ⟨rfl,hbA⟩; have hBA : Below w0.heap.size w0 wA:=(by first | exact hbA | exact (below_drewN (Below.refl _ w0) _).trans (hbA.mono (Nat.le_refl _))); have k3:=hcl wA hBA))
  go_wp2
  go_ret
  exact ⟨by rw [Q.out]; rfl,B0.trans (hBA.mono B0.size)⟩
 ·have d1 : ((x : Int) != 0) = true:=by simp; omega
  go_wp2_with (at_builtin; refine wpList_append_grows _ rfl _ _ 96 rfl 5 i_u8 (.int .u8 0) 1 1 Tryz.underlying96 hi_u8 hz0_u8 hz1_u8 hz2_u8 rfl (by decide) (some ⟨w.heap.size,0,none⟩) 3 3 [.int .u8 48,.int .u8 120,.int .u8 49] rfl (fun h => by cases h) rfl (fun b hb j u hj => by cases hb; rw [Lib.add_plain,Nat.zero_add]; exact ((Below.refl _ w0).alloc (Nat.le_refl _) _).cell (p:=⟨w.heap.size,j,none⟩) hs0 |>.trans (C0 j u hj)) ⟨w0.heap.size,0,none⟩ 1 1 [.int .u8 46] rfl rfl QgD QgE (by omega) (by unfold maxLen; omega) (by omega) ?_)
  intro v' w5 hown' hgrow
  have B5 : Below w.heap.size w w5:=(B0.alloc B0.size _).grown hgrow (by simp; omega) (fun k hk => by cases hk)
  have O5 : Own .u8 w5 w.heap.size 5 v' (intb [48,120,49,46]):=Own.wider (k:=.u8) (xs:=[48,120,49,46]) hown' (by omega)
  have HX : Hid (x < 18446744073709551616 ∧ x * 16 ^ 16 % 18446744073709551616 = 0):=⟨HB.out,Qb4 x⟩
  have HR2 : Hid (RES = ([48,120,49,46] ++ hxL 16 x) ++ (112 :: ET)):=by have:=HR.out; show _ = _; rw [if_pos q0] at this; simpa using this
  clear hown' hgrow C0 hkc' HB HR B0 T0
  go_wp2
  go_loopg [8,9] 16 (fun k s8 s9 wr => ∃ (q : Nat) (done : B),s9 = .int .u64 (q : Int) ∧ done.length + k ≤ 20 ∧ Own .u8 wr w.heap.size 5 s8 (intb done) ∧ Hid ((q < 18446744073709551616 ∧ q * 16 ^ k % 18446744073709551616 = 0) ∧ done ++ hxL k q = [48,120,49,46] ++ hxL 16 x) ∧ Below w.heap.size w wr)
  case atStart => exact ⟨x,[48,120,49,46],rfl,by simp,O5,⟨HX.out,rfl⟩,B5⟩
  case round =>
   obtain ⟨q,done,rfl,hk,hov,HQ,hbl⟩:=hrel
   clear O5 B5 HX
   by_cases qz : q = 0
   ·subst qz
    have HD : Hid (done = [48,120,49,46] ++ hxL 16 x):=by have:=HQ.out.2; rw [QeH,List.append_nil] at this; exact this
    obtain ⟨a2,n2,c2,rfl,hcv⟩:=conv9b hov
    have hcl : ∀ w',Below wr.heap.size wr w' → (convert 96 9 (.slice a2 n2 c2)).run Tryz.prog w' = .ok (.string (str done)) w':=fun w' hw' => by
     obtain ⟨a3,n3,c3,e3,h3⟩:=conv9b (hov.later hw')
     cases e3
     exact h3
    obtain ⟨T1,c1,t1,H1⟩:=catE (str done) (ByteArray.mk #[112])
    obtain ⟨T2,c2',t2,H2⟩:=catE T1 (str ET)
    have Q : Hid (T2 = str RES):=Qdv (by rw [H2.out,H1.out,Qab,Qab,HR2.out,HD.out]; simp)
    have z1 : (ByteArray.mk #[112]).size = 1:=rfl
    rw [z1] at t1
    have sdn : (str done).size = done.length:=Qad _
    have q1 : (9223372036854775807 < done.length + 1) = False:=eq_false (by omega)
    have q2 : (done.length + 1 > 9223372036854775807) = False:=eq_false (by omega)
    have q3 : (9223372036854775807 < done.length + 1 + ET.length) = False:=eq_false (by omega)
    have q4 : (done.length + 1 + ET.length > 9223372036854775807) = False:=eq_false (by omega)
    have k1:=hcl _ (Below.refl _ wr)
    have k2:=hcl wr.drew (below_drewN (Below.refl _ wr) 1)
    have TT:=QaN hT hbl
    have TD : PowTb wr.drew:=QaN TT (below_drewN (Below.refl _ wr) 1)
    clear H1 H2 HR2 HD hov hcv HQ
    go_wp2_with fail
    go_region_held3 (fun w' => (convert 96 9 (.slice a2 n2 c2)).run Tryz.prog w' = .ok (.string (str done)) w') (first | exact k1 | exact k2 | exact k3 | exact hcl _ (below_drewN hBA _)) (first | (go_at_call 203; refine (hX _ (by first | exact TT | exact TD)).mono ?_; rintro e wA ⟨rfl,hbA⟩; have hBA : Below wr.heap.size wr wA:=(by first | exact hbA | exact (below_drewN (Below.refl _ wr) _).trans (hbA.mono (Nat.le_refl _))); have k3:=hcl wA hBA))
    go_wp2
    go_ret
    exact ⟨by rw [Q.out]; rfl,hbl.trans (hBA.mono hbl.size)⟩
   ·have d2 : ((q : Int) != 0) = true:=by simp; omega
    have hq:=HQ.out.1
    cases gk with
    | zero =>
     have:=hq.2
     rw [Nat.pow_zero,Nat.mul_one,Nat.mod_eq_of_lt hq.1] at this
     exact absurd this qz
    | succ k =>
     obtain ⟨n,hn⟩ : ∃ n,n = q / 1152921504606846976:=⟨_,rfl⟩
     have hn16 : n < 16:=by omega
     have ei : (q : Int) / 1152921504606846976 = (n : Int):=by omega
     obtain ⟨q',hq'⟩ : ∃ q',q' = q * 16 % 18446744073709551616:=⟨_,rfl⟩
     have wr5 : IntKind.u64.wrap ((q : Int) * 16) = (q' : Int):=by rw [IntKind.wrap_u64]; omega
     have hI : (n : Int) < 16:=by omega
     have hx16 : ∀ h,(ByteArray.mk #[48,49,50,51,52,53,54,55,56,57,97,98,99,100,101,102])[n]'h = hxD n:=fun _ => Qsw ⟨n,hn16⟩
     have HQ2 : Hid ((q' < 18446744073709551616 ∧ q' * 16 ^ k % 18446744073709551616 = 0) ∧ (done ++ [hxD n]) ++ hxL k q' = [48,120,49,46] ++ hxL 16 x):=by
      refine ⟨⟨by omega,?_⟩,?_⟩
      ·rw [hq',Nat.mod_mul_mod,Nat.mul_assoc,show 16 * 16 ^ k = 16 ^ (k + 1) by rw [Nat.pow_succ]; exact Nat.mul_comm _ _]
       exact hq.2
      ·have:=HQ.out.2
       rw [QgA qz,← hn,← hq'] at this
       rw [← this]
       simp
     have HJ : Hid (intb (done ++ [hxD n]) = intb done ++ [((hxD n).toNat : Int)]):=by show _ = _; unfold intb; rw [List.map_append]; rfl
     have hlen : (intb done).length = done.length:=Qkn done
     have hsz : w.heap.size ≤ wr.heap.size:=hbl.size
     have HLn : Hid (done.length + 1 + k ≤ 20):=(show done.length + 1 + k ≤ 20 by omega)
     clear hn hq' HQ hq qz
     generalize hxD n = D at *
     generalize intb done = us at *
     go_wp2_with (at_builtin; refine wpList_append_own _ rfl _ _ 96 rfl w.heap.size 5 i_u8 (.int .u8 0) 1 1 Tryz.underlying96 hi_u8 hz0_u8 hz1_u8 hz2_u8 rfl (by decide) _ _ _ rfl (hov.row.alloc _) ⟨wr.heap.size,0,none⟩ 1 1 [.int .u8 D.toNat] rfl rfl QgD QgE (by unfold maxLen; omega) (by omega) (by simp; omega) ?_)
     intro v' w5 hown' hgrow _
     have hb':=QdO hsz hov.row hbl hgrow
     have ho':=QjJ hown' hlen.symm
     rw [← HJ.out] at ho'
     clear hown' hgrow hov hbl HJ
     go_wp2
     go_roundg k
     case measure => omega
     case rel => exact ⟨q',done ++ [D],rfl,by rw [List.length_append]; have:=HLn.out; simpa using this,ho',HQ2.out,hb'⟩
namespace Ft
structure ZeroVar (w : World) : Prop where
 c1 : w.cell? ⟨0,1,none⟩ = some (.string ⟨#[48]⟩)
 c2 : w.cell? ⟨0,2,none⟩ = some (.string ⟨#[48,120,48,112,43,48]⟩)
 c3 : w.cell? ⟨0,3,none⟩ = some (.string ⟨#[48,101,43,48,48]⟩)
theorem Qjr {w : World} {p : Addr} {v : Value} (h : w.cell? p = some v) : p.block < w.heap.size:=by
 rcases Nat.lt_or_ge p.block w.heap.size with q | q
 ·exact q
 ·simp [World.cell?,Array.getElem?_eq_none q] at h
theorem ZeroVar.later {w w' : World} (h : ZeroVar w) (hb : Below w.heap.size w w') : ZeroVar w' :=
 ⟨(hb.cell (Qjr h.c1)).trans h.c1,(hb.cell (Qjr h.c2)).trans h.c2,(hb.cell (Qjr h.c3)).trans h.c3⟩
def zeroT (mode : Int) : B:=if mode = 1 then [48] else if mode = 2 then [48,120,48,112,43,48] else [48,101,43,48,48]
def sizeT (p mode : Int) : B:=if p = 0 then zeroT mode else if mode = 1 then shT (dgS p) (ptS p) else if mode = 2 then hxS p else sciT (dgS p) (ptS p)
def textT (b mode : Int) : B:=sgT (decide (9223372036854775808 ≤ b)) ++ sizeT (mg b) mode
theorem QqU {e : Int} (h0 : -100000 ≤ e) (h1 : e ≤ 100000) {m : Nat} (hm : m ≤ 10) : (exT e m).length ≤ 31:=by
 unfold exT
 have:=Qko (n:=e.natAbs) (by omega)
 rw [List.length_cons,List.length_append,List.length_replicate]; omega
theorem Qsx {d : B} {k : Int} (h0 : -10000 ≤ k) (h1 : k ≤ 10000) : (sciT d k).length ≤ d.length + 40:=by
 have:=QqU (e:=k - 1) (m:=2) (by omega) (by omega) (by omega)
 unfold sciT
 rw [List.length_append,List.length_append,List.length_cons,List.length_take]
 split
 ·rw [List.length_cons,List.length_drop]; omega
 ·simp; omega
theorem Qtv {d : B} {k : Int} (h0 : -10000 ≤ k) (h1 : k ≤ 10000) : (plT d k).length ≤ d.length + 10002:=by
 unfold plT
 split
 ·rw [List.length_cons,List.length_cons,List.length_append,List.length_replicate]; omega
 ·split
  ·rw [List.length_append,List.length_cons,List.length_take,List.length_drop]; omega
  ·rw [List.length_append,List.length_replicate]; omega
theorem Qsy {x : Nat} (hx : x < 18446744073709551616) {e : Int} (h0 : -100000 ≤ e) (h1 : e ≤ 100000) : (hxT x e).length ≤ 60:=by
 have:=QqU (e:=e) (m:=1) (by omega) (by omega) (by omega)
 have:=Qhh (g:=16) hx (Qb4 x)
 unfold hxT
 rw [List.length_append,List.length_append,List.length_cons]
 split
 ·rw [List.length_cons]; simp; omega
 ·simp; omega
theorem Qby {p : Int} (h0 : 0 < p) (h1 : p ≤ mostP) : 0 < spM p ∧ spM p < 9007199254740992 ∧ -1074 ≤ spX p ∧ spX p ≤ 971:=by
 obtain ⟨s1,s2,s3⟩:=Qeu (Int.le_of_lt h0) h1
 obtain ⟨q,e1,e2,e3,e4,-,-,-⟩:=QbZ s1 s2
 have : spM p ≠ 0:=fun q => by have:=(QgL s1 s2).mp q; omega
 omega
theorem Qsz {p : Int} (h0 : 0 < p) (h1 : p ≤ mostP) : (hxS p).length ≤ 60:=by
 obtain ⟨a1,a2,a3,a4⟩:=Qby h0 h1
 have A:=ab_of (m:=(spM p).toNat) (by omega) (by omega)
 have b0:=A.a0
 have b1:=A.a1
 exact Qsy A.lt (by omega) (by omega)
theorem Qks {p m : Int} (h0 : 0 ≤ p) (h1 : p ≤ mostP) (hm : m = 1 ∨ m = 2 ∨ m = 3) : (sizeT p m).length ≤ 20000:=by
 by_cases q : p = 0
 ·have e : sizeT p m = zeroT m:=if_pos q
  rw [e]; unfold zeroT; split; simp; split <;> simp
 ·have d:=ds_of (p:=p) (by omega) h1
  have l1:=d.len
  have k0:=d.k0
  have k1:=d.k1
  have g1:=Qsx (d:=dgS p) (k:=ptS p) (by omega) (by omega)
  have g2:=Qtv (d:=dgS p) (k:=ptS p) (by omega) (by omega)
  have g3:=Qsz (p:=p) (by omega) h1
  unfold sizeT
  rw [if_neg q]
  rcases hm with rfl | rfl | rfl
  ·rw [if_pos rfl]; unfold shT; split <;> omega
  ·rw [if_neg (by omega),if_pos rfl]; omega
  ·rw [if_neg (by omega),if_neg (by omega)]; omega
theorem Qqq {b m : Int} (hu : U b) (hf : ef b ≠ 2047) (hm : m = 1 ∨ m = 2 ∨ m = 3) : (textT b m).length ≤ 20001:=by
 have a1:=mg_bd b
 have a2:=ef_bd b
 have a3:=fr_bd b
 have a4:=Qbq b
 have:=Qks (p:=mg b) (m:=m) (by omega) (by unfold mostP; omega) hm
 unfold textT sgT
 rw [List.length_append]
 split <;> simp <;> omega
theorem fnEqN (w : World) (f : Fn) (a b : Array Value) : (binOp .eql 99 (.func f a b) .nilFunc).run Tryz.prog w = .ok (.bool false) w:=by
 simp only [binOp,Op.equal,Sem.run_bind,Sem.run_pure]
 kernel_rfl
theorem fnEqY (w : World) : (binOp .eql 99 .nilFunc .nilFunc).run Tryz.prog w = .ok (.bool true) w:=by kernel_rfl
end Ft
theorem Qlz {m : Int} (h1 : m ≠ 1) (h2 : m ≠ 2) (h3 : m ≠ 3) (w : World) : Calls Tryz.prog 67 #[.int .i64 m] w fun r w' => r = .returned .nilFunc ∧ w' = w:=by
 have d1 : (m == 1) = false:=QaC h1
 have d2 : (m == 2) = false:=QaC h2
 have d3 : (m == 3) = false:=QaC h3
 go_enter Tryz.func67,Tryz.ntmps67
 go_wp2
 go_ret
 exact ⟨rfl,rfl⟩
theorem way1 (w : World) : Calls Tryz.prog 67 #[.int .i64 1] w fun r w' => r = .returned (.func (.func 129) #[] #[]) ∧ w' = w:=by
 go_enter Tryz.func67,Tryz.ntmps67
 go_wp2
 go_ret
 exact ⟨rfl,rfl⟩
theorem way2 (w : World) : Calls Tryz.prog 67 #[.int .i64 2] w fun r w' => r = .returned (.func (.func 130) #[] #[]) ∧ w' = w:=by
 go_enter Tryz.func67,Tryz.ntmps67
 go_wp2
 go_ret
 exact ⟨rfl,rfl⟩
theorem way3 (w : World) : Calls Tryz.prog 67 #[.int .i64 3] w fun r w' => r = .returned (.func (.func 131) #[] #[]) ∧ w' = w:=by
 go_enter Tryz.func67,Tryz.ntmps67
 go_wp2
 go_ret
 exact ⟨rfl,rfl⟩
set_option maxRecDepth 100000 in
theorem Qjs {b m : Int} (h1 : m ≠ 1) (h2 : m ≠ 2) (h3 : m ≠ 3) (w : World) :
  Calls Tryz.prog 18 #[.int .u64 b,.int .i64 m] w fun r w' => r = .returned (.tuple #[.string ⟨#[]⟩,.int .i64 140]) ∧ w' = w:=by
 have hW:=fun w => Qlz h1 h2 h3 w
 have f1:=fnEqY
 go_enter Tryz.func18,Tryz.ntmps18
 go_wp2_with fail
 refine (hW _).mono ?_
 rintro e w1 ⟨rfl,hw⟩
 rw [hw]
 clear hW hw
 go_wp2
 go_ret2
 exact ⟨rfl,rfl⟩
set_option maxRecDepth 100000 in
theorem QlA {b m : Int} (hu : U b) (hf : ef b = 2047) (hm : m = 1 ∨ m = 2 ∨ m = 3) (w : World) :
  Calls Tryz.prog 18 #[.int .u64 b,.int .i64 m] w fun r w' => r = .returned (.tuple #[.string ⟨#[]⟩,.int .i64 60]) ∧ w' = w:=by
 have hS:=fun w => Qa5 hu w
 have e1 : fiE b = 60:=if_pos hf
 rw [e1] at hS
 clear e1
 have hW : ∀ w,∃ f,Calls Tryz.prog 67 #[.int .i64 m] w fun r w' => r = .returned (.func f #[] #[]) ∧ w' = w:=fun w => by
  rcases hm with rfl | rfl | rfl
  ·exact ⟨_,way1 w⟩
  ·exact ⟨_,way2 w⟩
  ·exact ⟨_,way3 w⟩
 have f1:=fnEqN
 obtain ⟨f,hw1⟩:=hW w
 clear hW
 go_enter Tryz.func18,Tryz.ntmps18
 go_wp2_with fail
 refine hw1.mono ?_
 rintro e w1 ⟨rfl,hw⟩
 rw [hw]
 clear hw1 hw
 go_wp2_with fail
 refine (hS _).mono ?_
 rintro e w1 ⟨rfl,hw⟩
 rw [← hw]
 clear hS hw
 go_wp2
 go_ret2
 exact ⟨rfl,rfl⟩
set_option maxRecDepth 100000 in
theorem Qee {b m : Int} (hu : U b) (hf : ef b ≠ 2047) (f : Nat) (hm0 : 1 ≤ m) (hm1 : m ≤ 3) (w : World) (hz : ZeroVar w) (hen : ∀ args w,(callFunc f args).run Tryz.prog w = .ok (.enter f args) w) (S : B) (hS' : S.length ≤ 100000)
  (hW : ∀ w,Calls Tryz.prog 67 #[.int .i64 m] w fun r w' => r = .returned (.func (.func f) #[] #[]) ∧ w' = w)
  (hF : mg b ≠ 0 → Calls Tryz.prog f #[.int .u64 b] w fun r w' => r = .returned (.string (str S)) ∧ Below w.heap.size w w') (h0 : mg b = 0 → S = zeroT m) :
  Calls Tryz.prog 18 #[.int .u64 b,.int .i64 m] w fun r w' => r = .returned (.tuple #[.string (str (sgT (decide (9223372036854775808 ≤ b)) ++ S)),.int .i64 0]) ∧ Below w.heap.size w w':=by
 have hS:=fun w => Qa5 hu w
 have e1 : fiE b = 0:=if_neg hf
 have e2 : spS b = decide (9223372036854775808 ≤ b):=if_neg hf
 have hz0:=QgL hu hf
 rw [e1,e2] at hS
 clear e1 e2
 have f1:=fnEqN
 obtain ⟨C,hC,hcl⟩ : ∃ C : ByteArray,C = str (zeroT m) ∧ w.cell? ⟨0,m.toNat,none⟩ = some (.string C):=by
  have : m = 1 ∨ m = 2 ∨ m = 3:=by omega
  rcases this with rfl | rfl | rfl
  ·exact ⟨_,rfl,hz.c1⟩
  ·exact ⟨_,rfl,hz.c2⟩
  ·exact ⟨_,rfl,hz.c3⟩
 obtain ⟨k,rfl⟩ : ∃ k : Nat,m = (k : Int):=⟨m.toNat,by omega⟩
 rw [Int.toNat_natCast] at hcl
 have HC : Hid (C = str (zeroT (k : Int))):=hC
 have hk : k < 4:=by omega
 obtain ⟨T,cT,tT,HT⟩:=catE (ByteArray.mk #[45]) (str S)
 have z1 : (ByteArray.mk #[45]).size = 1:=rfl
 have sS : (str S).size = S.length:=Qad S
 rw [z1] at tT
 clear hC hz
 by_cases q : mg b = 0
 ·have eC : C = str S:=by rw [h0 q]; exact HC.out
  have m0 : spM b = 0:=hz0.mpr q
  rw [m0] at hS
  rw [eC] at hcl
  clear eC HC h0 hF m0 hz0
  by_cases qs : 9223372036854775808 ≤ b
  ·have HR : Hid (str (sgT (decide (9223372036854775808 ≤ b)) ++ S) = T):=by rw [decide_eq_true qs]; exact (Qdv (by rw [HT.out,Qab]; rfl)).symm
   rw [decide_eq_true qs] at hS
   clear HT
   go_enter Tryz.func18,Tryz.ntmps18
   go_wp2_with fail
   refine (hW _).mono ?_
   rintro e w1 ⟨rfl,hw⟩
   rw [hw]
   clear hW hw
   go_wp2_with fail
   refine (hS _).mono ?_
   rintro e w1 ⟨rfl,hw⟩
   rw [← hw]
   clear hS hw
   go_wp2
   go_ret2
   exact ⟨by rw [HR.out]; rfl,Below.refl _ _⟩
  ·have HR : Hid (str (sgT (decide (9223372036854775808 ≤ b)) ++ S) = str S):=by rw [decide_eq_false qs]; rfl
   rw [decide_eq_false qs] at hS
   clear HT
   go_enter Tryz.func18,Tryz.ntmps18
   go_wp2_with fail
   refine (hW _).mono ?_
   rintro e w1 ⟨rfl,hw⟩
   rw [hw]
   clear hW hw
   go_wp2_with fail
   refine (hS _).mono ?_
   rintro e w1 ⟨rfl,hw⟩
   rw [← hw]
   clear hS hw
   go_wp2
   go_ret2
   exact ⟨by rw [HR.out]; rfl,Below.refl _ _⟩
 ·have hF:=hF q
  have m0 : spM b ≠ 0:=fun h => q (hz0.mp h)
  have d0 : (spM b != 0) = true:=Qas m0
  clear HC h0 hz0 m0 q
  generalize spM b = M at *
  by_cases qs : 9223372036854775808 ≤ b
  ·have HR : Hid (str (sgT (decide (9223372036854775808 ≤ b)) ++ S) = T):=by rw [decide_eq_true qs]; exact (Qdv (by rw [HT.out,Qab]; rfl)).symm
   rw [decide_eq_true qs] at hS
   clear HT
   go_enter Tryz.func18,Tryz.ntmps18
   go_wp2_with fail
   refine (hW _).mono ?_
   rintro e w1 ⟨rfl,hw⟩
   rw [hw]
   clear hW hw
   go_wp2_with fail
   refine (hS _).mono ?_
   rintro e w1 ⟨rfl,hw⟩
   rw [← hw]
   clear hS hw
   go_wp2_with fail
   refine hF.mono ?_
   rintro e w1 ⟨rfl,hb1⟩
   clear hF
   go_wp2
   go_ret2
   exact ⟨by rw [HR.out]; rfl,hb1⟩
  ·have HR : Hid (str (sgT (decide (9223372036854775808 ≤ b)) ++ S) = str S):=by rw [decide_eq_false qs]; rfl
   rw [decide_eq_false qs] at hS
   clear HT
   go_enter Tryz.func18,Tryz.ntmps18
   go_wp2_with fail
   refine (hW _).mono ?_
   rintro e w1 ⟨rfl,hw⟩
   rw [hw]
   clear hW hw
   go_wp2_with fail
   refine (hS _).mono ?_
   rintro e w1 ⟨rfl,hw⟩
   rw [← hw]
   clear hS hw
   go_wp2_with fail
   refine hF.mono ?_
   rintro e w1 ⟨rfl,hb1⟩
   clear hF
   go_wp2
   go_ret2
   exact ⟨by rw [HR.out]; rfl,hb1⟩
theorem Qgt {b m : Int} (hu : U b) (hf : ef b ≠ 2047) (hm : m = 1 ∨ m = 2 ∨ m = 3) {w : World} (hz : ZeroVar w) (hT : PowTb w) :
  Calls Tryz.prog 18 #[.int .u64 b,.int .i64 m] w fun r w' => r = .returned (.tuple #[.string (str (textT b m)),.int .i64 0]) ∧ Below w.heap.size w w':=by
 have hp : mg b ≠ 0 → 0 < mg b ∧ mg b ≤ mostP:=fun h => by
  have:=mg_bd b
  have:=ef_bd b
  have:=fr_bd b
  have:=Qbq b
  unfold mostP
  omega
 have hsz : ∀ m,(m = 1 ∨ m = 2 ∨ m = 3) → (sizeT (mg b) m).length ≤ 100000:=fun m hm => by
  have a1:=mg_bd b
  have a2:=ef_bd b
  have a3:=fr_bd b
  have a4:=Qbq b
  have:=Qks (p:=mg b) (m:=m) (by omega) (by unfold mostP; omega) hm
  omega
 rcases hm with rfl | rfl | rfl
 ·refine Qee hu hf 129 (by omega) (by omega) w hz (enters_of Tryz.func129 (by kernel_rfl) rfl) (sizeT (mg b) 1) ?_ way1 (fun q => ?_) (fun q => if_pos q)
  ·exact hsz 1 (Or.inl rfl)
  ·have e : sizeT (mg b) 1 = shT (dgS (mg b)) (ptS (mg b)):=by unfold sizeT; rw [if_neg q,if_pos rfl]
   rw [e]
   have h:=hp q
   have s:=sh_is h.1 h.2
   exact QfE hu hf q (ds_of h.1 h.2) s.r0 s.r1 w hT
 ·refine Qee hu hf 130 (by omega) (by omega) w hz (enters_of Tryz.func130 (by kernel_rfl) rfl) (sizeT (mg b) 2) ?_ way2 (fun q => ?_) (fun q => if_pos q)
  ·exact hsz 2 (Or.inr (Or.inl rfl))
  ·have e : sizeT (mg b) 2 = hxS (mg b):=by unfold sizeT; rw [if_neg q,if_neg (by omega),if_pos rfl]
   rw [e]
   exact Qoz hu hf q w hT
 ·refine Qee hu hf 131 (by omega) (by omega) w hz (enters_of Tryz.func131 (by kernel_rfl) rfl) (sizeT (mg b) 3) ?_ way3 (fun q => ?_) (fun q => if_pos q)
  ·exact hsz 3 (Or.inr (Or.inr rfl))
  ·have e : sizeT (mg b) 3 = sciT (dgS (mg b)) (ptS (mg b)):=by unfold sizeT; rw [if_neg q,if_neg (by omega),if_neg (by omega)]
   rw [e]
   have h:=hp q
   have s:=sh_is h.1 h.2
   exact Qha hu hf q (ds_of h.1 h.2) s.r0 s.r1 w hT
namespace Ft
def rstr (l : B) : B:=(l.reverse.dropWhile (fun c => c == 48)).reverse
theorem Qgu {l : B} (n : Nat) (h : ∃ q c,l = q ++ [c] ∧ c ≠ 48) : rstr (l ++ List.replicate n 48) = l:=by
 obtain ⟨q,c,rfl,hc⟩:=h
 unfold rstr
 rw [List.reverse_append,List.reverse_replicate,List.reverse_append]
 have key : ∀ m : Nat,(List.replicate m (48 : UInt8) ++ ([c].reverse ++ q.reverse)).dropWhile (fun c => c == 48) = [c].reverse ++ q.reverse:=by
  intro m
  induction m with
  | zero => rw [List.replicate_zero,List.nil_append]; exact List.dropWhile_cons_of_neg (by simpa using hc)
  | succ m ih => rw [List.replicate_succ,List.cons_append,List.dropWhile_cons_of_pos (by decide)]; exact ih
 rw [key,List.reverse_append,List.reverse_reverse]
 rfl
theorem QoA {l : B} (h : ∃ q c,l = q ++ [c] ∧ c ≠ 48) : rstr l = l:=by
 have:=Qgu 0 h
 simpa using this
theorem Qqr {p : Int} (h0 : 0 < p) (h1 : p ≤ mostP) : ∃ q c,dgS p = q ++ [c] ∧ c ≠ 48:=by
 have s:=sh_is h0 h1
 have:=s.r0
 have ne:=s.ne
 obtain ⟨l,e⟩:=Qra (shD p).toNat
 refine ⟨l,_,e,fun q => ?_⟩
 have:=(digB (d:=(shD p).toNat % 10) (by omega)).2
 rw [q] at this
 have e48 : (48 : UInt8).toNat = 48:=rfl
 omega
structure RdS (p m : Int) (ng : Bool) (N : Nm) : Prop where
 rd : RdT (sgT ng ++ sizeT p m) N
 sg : N.neg = ng
 dec : 0 < p → m ≠ 2 → N.kind = 1 ∧ N.den = [] ∧ rstr N.num = dgS p ∧ N.exp + (N.num.length - (dgS p).length : Nat) = shE p ∧ (N.num = dgS p ∨ N.num = dgS p ++ List.replicate (shE p).toNat 48 ∧ N.exp = 0 ∧ 0 ≤ shE p ∧ shE p ≤ 21)
 hex : 0 < p → m = 2 → N = ⟨2,ng,49 :: hxL 16 (bhB (spM p).toNat),spX p + 63 - ahB (spM p).toNat - 4 * ((hxL 16 (bhB (spM p).toNat)).length : Int),[]⟩
 zero : p = 0 → N = ⟨if m = 2 then 2 else 1,ng,[],0,[]⟩
theorem Qef {p m : Int} (h0 : 0 ≤ p) (h1 : p ≤ mostP) (hm : m = 1 ∨ m = 2 ∨ m = 3) (ng : Bool) : ∃ N,RdS p m ng N:=by
 by_cases q : p = 0
 ·have e : sizeT p m = zeroT m:=if_pos q
  rcases hm with rfl | rfl | rfl
  ·exact ⟨_,by rw [e]; exact Qkw ng,rfl,fun h => by omega,fun h => by omega,fun _ => rfl⟩
  ·exact ⟨_,by rw [e]; exact Qiv ng,rfl,fun h => by omega,fun h => by omega,fun _ => rfl⟩
  ·exact ⟨_,by rw [e]; exact Qiu ng,rfl,fun h => by omega,fun h => by omega,fun _ => rfl⟩
 ·have hp : 0 < p:=by omega
  have d:=ds_of hp h1
  have l1:=d.len
  have k0:=d.k0
  have k1:=d.k1
  have hl:=Qqr hp h1
  have ek : ptS p - (dgS p).length = shE p:=by unfold ptS; omega
  have sci : ∃ N,RdT (sgT ng ++ sciT (dgS p) (ptS p)) N ∧ N = ⟨1,ng,dgS p,shE p,[]⟩:=⟨_,QlQ d.dg ng (by omega) (by omega) (by omega),by rw [ek]⟩
  have mk : ∀ N : Nm,N = ⟨1,ng,dgS p,shE p,[]⟩ → N.kind = 1 ∧ N.den = [] ∧ rstr N.num = dgS p ∧ N.exp + (N.num.length - (dgS p).length : Nat) = shE p ∧ (N.num = dgS p ∨ N.num = dgS p ++ List.replicate (shE p).toNat 48 ∧ N.exp = 0 ∧ 0 ≤ shE p ∧ shE p ≤ 21):=by
   rintro N rfl
   exact ⟨rfl,rfl,QoA hl,by simp,Or.inl rfl⟩
  rcases hm with rfl | rfl | rfl
  ·have e : sizeT p 1 = shT (dgS p) (ptS p):=by unfold sizeT; rw [if_neg q,if_pos rfl]
   by_cases r : ptS p < -5 ∨ 21 < ptS p
   ·obtain ⟨N,hN,eN⟩:=sci
    have e2 : shT (dgS p) (ptS p) = sciT (dgS p) (ptS p):=if_pos r
    exact ⟨N,by rw [e,e2]; exact hN,by rw [eN],fun _ _ => mk N eN,fun _ h => by omega,fun h => absurd h q⟩
   ·have e2 : shT (dgS p) (ptS p) = plT (dgS p) (ptS p):=if_neg r
    by_cases r2 : ptS p < (dgS p).length
    ·have:=QoG d.dg ng (k:=ptS p) (by omega) r2 (by omega)
     rw [ek] at this
     exact ⟨_,by rw [e,e2]; exact this,rfl,fun _ _ => mk _ rfl,fun _ h => by omega,fun h => absurd h q⟩
    ·have dp:=d.pos
     have:=Qit d.dg ng (k:=ptS p) (by omega) (by omega)
     rw [ek] at this
     refine ⟨_,by rw [e,e2]; exact this,rfl,fun _ _ => ⟨rfl,rfl,Qgu _ hl,?_,Or.inr ⟨rfl,rfl,?_,?_⟩⟩,fun _ h => by omega,fun h => absurd h q⟩
     ·simp only [List.length_append,List.length_replicate]; omega
     ·omega
     ·omega
  ·have e : sizeT p 2 = hxS p:=by unfold sizeT; rw [if_neg q,if_neg (by omega),if_pos rfl]
   obtain ⟨a1,a2,a3,a4⟩:=Qby hp h1
   have A:=ab_of (m:=(spM p).toNat) (by omega) (by omega)
   have b0:=A.a0
   have b1:=A.a1
   exact ⟨_,by rw [e]; exact QlS (e:=spX p + 63 - ahB (spM p).toNat) A.lt ng (by omega) (by omega),rfl,fun _ h => absurd rfl h,fun _ _ => rfl,fun h => absurd h q⟩
  ·have e : sizeT p 3 = sciT (dgS p) (ptS p):=by unfold sizeT; rw [if_neg q,if_neg (by omega),if_neg (by omega)]
   obtain ⟨N,hN,eN⟩:=sci
   exact ⟨N,by rw [e]; exact hN,by rw [eN],fun _ _ => mk N eN,fun _ h => by omega,fun h => absurd h q⟩
theorem QsA {S : B} {N N' : Nm} (h : RdT S N) (h' : RdT S N') : N = N':=by
 have a:=(h [] Stops.nil).2.2
 have b:=(h' [] Stops.nil).2.2
 rw [← a,b]
theorem QqV (u : Nat) : (Lib.decDigits u).foldl (fun n c => 10 * n + (c.toNat - 48)) 0 = u:=by
 induction u using Nat.strongRecOn with
 | _ u ih =>
  by_cases h : u < 10
  ·rw [QfI h,List.foldl_cons,List.foldl_nil,(digB h).2]; omega
  ·rw [QdD h,List.foldl_append,ih (u / 10) (by omega),List.foldl_cons,List.foldl_nil,(digB (Nat.mod_lt u (by omega))).2]; omega
theorem Qtw {u v : Nat} (h : Lib.decDigits u = Lib.decDigits v) : u = v:=by rw [← QqV u,h,QqV]
theorem Qtx {x y : Nat} (hx : x < 18446744073709551616) (hy : y < 18446744073709551616) (h : hxL 16 x = hxL 16 y) : x = y:=by
 have a:=QlR hx (Qb4 x)
 have b:=QlR hy (Qb4 y)
 rw [h] at a
 rw [a] at b
 exact Nat.eq_of_mul_eq_mul_right (Nat.pow_pos (by omega)) b
theorem Qjt {p q : Int} (h0 : 0 < p) (h1 : p ≤ mostP) (g0 : 0 < q) (g1 : q ≤ mostP) (h : numW p = numW q) : p = q:=by
 rcases Int.lt_trichotomy p q with r | r | r
 ·have:=Qfr (Int.le_of_lt h0) r g1; omega
 ·exact r
 ·have:=Qfr (Int.le_of_lt g0) r h1; omega
theorem Qqs {m m' : Nat} {X X' : Int} (h0 : 0 < m) (h1 : m < 9007199254740992) (g0 : 0 < m') (g1 : m' < 9007199254740992) (x0 : -1074 ≤ X) (y0 : -1074 ≤ X')
  (hb : bhB m = bhB m') (he : X - ahB m = X' - ahB m') : (m : Int) * 2 ^ (X + 1074).toNat = (m' : Int) * 2 ^ (X' + 1074).toNat:=by
 have A:=(ab_of h0 h1).eq
 have A':=(ab_of g0 g1).eq
 rw [hb] at A
 have e : m * 2 ^ ahB m = m' * 2 ^ ahB m':=by omega
 generalize ahB m = a at *
 generalize ahB m' = a' at *
 have key : ∀ (m m' a a' : Nat) (X X' : Int),a ≤ a' → -1074 ≤ X → X - a = X' - a' → m * 2 ^ a = m' * 2 ^ a' → (m : Int) * 2 ^ (X + 1074).toNat = (m' : Int) * 2 ^ (X' + 1074).toNat:=by
  intro m m' a a' X X' hle hX hxa e
  obtain ⟨k,rfl⟩ : ∃ k,a' = a + k:=⟨a' - a,by omega⟩
  rw [Nat.pow_add,Nat.mul_comm (2 ^ a),← Nat.mul_assoc] at e
  have em : m = m' * 2 ^ k:=Nat.eq_of_mul_eq_mul_right (Nat.two_pow_pos a) e
  have ex : (X' + 1074).toNat = (X + 1074).toNat + k:=by omega
  rw [ex,em,Int.pow_add,Int.natCast_mul,Int.natCast_pow,Int.mul_assoc,Int.mul_comm (2 ^ (X + 1074).toNat)]
  rfl
 rcases Nat.le_total a a' with r | r
 ·exact key m m' a a' X X' r x0 he e
 ·exact (key m' m a' a X' X r y0 (by omega) e.symm).symm
theorem Qqt {p q m : Int} (h0 : 0 ≤ p) (h1 : p ≤ mostP) (g0 : 0 ≤ q) (g1 : q ≤ mostP) (hm : m = 1 ∨ m = 2 ∨ m = 3) {s t : Bool} (h : sgT s ++ sizeT p m = sgT t ++ sizeT q m) : s = t ∧ p = q:=by
 obtain ⟨N,R⟩:=Qef h0 h1 hm s
 obtain ⟨N',R'⟩:=Qef g0 g1 hm t
 have rd:=R.rd
 rw [h] at rd
 have e:=QsA rd R'.rd
 subst e
 refine ⟨by rw [← R.sg,R'.sg],?_⟩
 by_cases zp : p = 0
 ·by_cases zq : q = 0
  ·omega
  ·exfalso
   have eN:=R.zero zp
   by_cases m2 : m = 2
   ·have:=R'.hex (by omega) m2
    rw [eN] at this
    injection this with _ _ c
    cases c
   ·have:=(R'.dec (by omega) m2).2.2.1
    rw [eN] at this
    have hl:=(ds_of (p:=q) (by omega) g1).dg.ne
    exact hl this.symm
 ·by_cases zq : q = 0
  ·exfalso
   have eN:=R'.zero zq
   by_cases m2 : m = 2
   ·have:=R.hex (by omega) m2
    rw [eN] at this
    injection this with _ _ c
    cases c
   ·have:=(R.dec (by omega) m2).2.2.1
    rw [eN] at this
    have hl:=(ds_of (p:=p) (by omega) h1).dg.ne
    exact hl this.symm
  ·by_cases m2 : m = 2
   ·have a:=R.hex (by omega) m2
    have b:=R'.hex (by omega) m2
    rw [a] at b
    injection b with _ _ c d _
    injection c with _ c
    obtain ⟨p1,p2,p3,p4⟩:=Qby (p:=p) (by omega) h1
    obtain ⟨q1,q2,q3,q4⟩:=Qby (p:=q) (by omega) g1
    have hb:=Qtx (ab_of (m:=(spM p).toNat) (by omega) (by omega)).lt (ab_of (m:=(spM q).toNat) (by omega) (by omega)).lt c
    rw [c] at d
    have hn:=Qqs (m:=(spM p).toNat) (m':=(spM q).toNat) (X:=spX p) (X':=spX q) (by omega) (by omega) (by omega) (by omega) p3 q3 hb (by omega)
    refine Qjt (by omega) h1 (by omega) g1 ?_
    unfold numW
    have e1 : ((spM p).toNat : Int) = spM p:=by omega
    have e2 : ((spM q).toNat : Int) = spM q:=by omega
    rw [e1,e2] at hn
    exact hn
   ·obtain ⟨-,-,a1,a2,-⟩:=R.dec (by omega) m2
    obtain ⟨-,-,b1,b2,-⟩:=R'.dec (by omega) m2
    have ed : dgS p = dgS q:=by rw [← a1,b1]
    rw [ed] at a2
    have ee : shE p = shE q:=by rw [← a2,b2]
    have sp:=sh_is (p:=p) (by omega) h1
    have sq:=sh_is (p:=q) (by omega) g1
    have r0:=sp.r0
    have r0':=sq.r0
    have en:=Qtw ed
    have e3 : shD p = shD q:=by omega
    have x1:=sp.rd
    have x2:=sq.rd
    rw [e3,ee] at x1
    exact (QaG (Qam (Qbd _)) x1 x2).1
theorem Qqu {b c m : Int} (hb : U b) (hc : U c) (fb : ef b ≠ 2047) (fc : ef c ≠ 2047) (hm : m = 1 ∨ m = 2 ∨ m = 3) : textT b m = textT c m ↔ b = c:=by
 constructor
 ·intro h
  have a1:=mg_bd b
  have a2:=ef_bd b
  have a3:=fr_bd b
  have a4:=Qbq b
  have b1:=mg_bd c
  have b2:=ef_bd c
  have b3:=fr_bd c
  have b4:=Qbq c
  obtain ⟨e1,e2⟩:=Qqt (p:=mg b) (q:=mg c) (m:=m) (by omega) (by unfold mostP; omega) (by omega) (by unfold mostP; omega) hm h
  have e3 : (9223372036854775808 ≤ b) ↔ (9223372036854775808 ≤ c):=by
   have:=congrArg (fun x => x = true) e1
   simpa using this
  unfold U at hb hc
  unfold mg at e2
  omega
 ·rintro rfl; rfl
end Ft
end Go.Proofs.YtjnmgjcmagnkeabGreatDoor

import Derived.Lib.AppendIntMem
import Derived.Lib.ItoaLen
import Derived.Deep.RegionHeld3
import Derived.Test.YtjnmgjcmagnkeabGreatDoorPt2
import Derived.Test.YtjnmgjcmagnkeabGreatDoorPt4
import Derived.Test.YtjnmgjcmagnkeabGreatDoorPt7
import Derived.Test.YtjnmgjcmagnkeabGreatDoorPt14
set_option maxHeartbeats 6400000
namespace Go.Proofs.YtjnmgjcmagnkeabGreatDoor
open Go.ChangeShapes Go.WideShapes Go.ChangeAt Go.RowKit
open Lx Go.Shelf
set_option linter.unusedVariables false
namespace Ft
abbrev PowTb (w : World) : Prop := Lib.TabIs Tryz.prog w "internal/strconv.uint64pow10" .u64 Lib.pow10Tab
theorem QaN {w w' : World} (h : PowTb w) (hb : Below w.heap.size w w') : PowTb w':=by
 cases hg : Tryz.prog.globalNamed "internal/strconv.uint64pow10" with
 | none =>
  unfold PowTb Lib.TabIs World.var? at h
  rw [hg] at h
  cases h
 | some g =>
  unfold PowTb Lib.TabIs World.var? at h ⊢
  rw [hg] at h ⊢
  simp only [Option.bind_some] at h ⊢
  have hlt : g < w.heap.size:=by
   by_cases q : g < w.heap.size
   ·exact q
   ·rw [Array.getElem?_eq_none (Nat.le_of_not_lt q)] at h
    simp at h
  rw [hb.block g hlt]
  exact h
theorem Qtt (n : Nat) : Lib.repeatL [48] n = List.replicate n 48:=by
 induction n with
 | zero => rfl
 | succ n ih => rw [Lib.repeatL,ih,List.replicate_succ]; rfl
theorem catS (a b : B) : str a ++ str b = str (a ++ b):=by apply ByteArray.ext; simp [str]
theorem catE (a b : ByteArray) : ∃ c : ByteArray,a ++ b = c ∧ c.size = a.size + b.size ∧ Hid (c.data.toList = a.data.toList ++ b.data.toList):=⟨a ++ b,rfl,ByteArray.size_append,by show (a ++ b).data.toList = _; simp⟩
theorem Qdv {s : ByteArray} {l : B} (h : s.data.toList = l) : s = str l:=by rw [← h,Qcp]
end Ft
open Ft
theorem QcY {n : Nat} (h : n ≤ 1000000) (w : World) :
  Calls Tryz.prog 261 #[.int .i64 (n : Int)] w fun e w' => e = .returned (.string (str (List.replicate n 48))) ∧ Below w.heap.size w w':=by
 have hR:=fun w => Any.strings_Repeat QlT layBuilderExtra3 (str [48]) n w (by omega) (by rw [Qad]; simp; omega)
 rw [Qab,Qtt] at hR
 go_enter Tryz.func261,Tryz.ntmps261
 go_wp2_with (go_at_call 315; refine (hR _).mono ?_; rintro e w' ⟨rfl,hb⟩)
 go_ret
 exact ⟨rfl,hb⟩
theorem itoa14 {n : Nat} (h1 : n ≤ 1073741824) (w : World) (hT : PowTb w) :
  Calls Tryz.prog 263 #[.int .i64 (n : Int)] w fun r w' => r = .returned (.string (str (Lib.decDigits n))) ∧ Below w.heap.size w w':=by
 refine (Any.strconv_Itoa QbU (n : Int) (by omega) (by omega) w hT).mono ?_
 rintro r w' ⟨rfl,k,os,rfl⟩
 exact ⟨by rw [Lib.itoa_nonneg]; rfl,Go.Lib.below_grow _ w (Nat.le_refl _) k os⟩
namespace Ft
theorem Qko {n : Nat} (h : n < 18446744073709551616) : (Lib.decDigits n).length ≤ 20:=by
 rw [Lib.decDigits_length]
 by_cases h1 : 1 ≤ n
 ·have:=Lib.numDigits_eq n h1 h
  split at this <;> omega
 ·have : n = 0:=by omega
  subst this
  rw [Lib.nDigits_small (by omega)]; omega
end Ft
theorem QcP {e : Int} {m : Nat} (h0 : -100000 ≤ e) (h1 : e ≤ 100000) (hm : m ≤ 10) (w : World) (hT : PowTb w) :
  Calls Tryz.prog 203 #[.int .i64 e,.int .i64 (m : Int)] w fun r w' => r = .returned (.string (str (exT e m))) ∧ Below w.heap.size w w':=by
 have hI:=fun w h => itoa14 (n:=e.natAbs) (by omega) w h
 have hl:=Qko (n:=e.natAbs) (by omega)
 have hZ:=fun w => QcY (n:=m - (Lib.decDigits e.natAbs).length) (by omega) w
 have hE : exT e m = (if e < 0 then 45 else 43) :: (List.replicate (m - (Lib.decDigits e.natAbs).length) 48 ++ Lib.decDigits e.natAbs):=rfl
 rw [hE]
 clear hE
 have hmx : ((m - (Lib.decDigits e.natAbs).length : Nat) : Int) = max ((m : Int) - ((Lib.decDigits e.natAbs).length : Int)) 0:=by omega
 rw [hmx] at hZ
 clear hmx
 have hR : (List.replicate (m - (Lib.decDigits e.natAbs).length) (48 : UInt8)).length ≤ 10:=by rw [List.length_replicate]; omega
 have ha : ((e.natAbs : Nat) : Int) = if e < 0 then -e else e:=by split <;> omega
 rw [ha] at hI
 generalize Lib.decDigits e.natAbs = D at *
 generalize List.replicate (m - D.length) (48 : UInt8) = R at *
 have sD : (str D).size = D.length:=Qad D
 have sR : (str R).size = R.length:=Qad R
 clear ha
 by_cases hn : e < 0
 ·rw [if_pos hn] at hI ⊢
  have c1 : ByteArray.mk #[45] ++ str R = str (45 :: R):=catS [45] R
  have c2 : str (45 :: R) ++ str D = str (45 :: (R ++ D)):=catS (45 :: R) D
  have s1 : (str (45 :: R)).size = R.length + 1:=Qad _
  go_enter Tryz.func203,Tryz.ntmps203
  go_wp2_with (first | (go_at_call 263; refine (hI _ hT).mono ?_; rintro r w1 ⟨rfl,hb1⟩) | (go_at_call 261; refine (hZ _).mono ?_; rintro r w2 ⟨rfl,hb2⟩))
  go_ret
  exact ⟨rfl,hb1.trans (hb2.mono hb1.size)⟩
 ·rw [if_neg hn] at hI ⊢
  have c1 : ByteArray.mk #[43] ++ str R = str (43 :: R):=catS [43] R
  have c2 : str (43 :: R) ++ str D = str (43 :: (R ++ D)):=catS (43 :: R) D
  have s1 : (str (43 :: R)).size = R.length + 1:=Qad _
  go_enter Tryz.func203,Tryz.ntmps203
  go_wp2_with (first | (go_at_call 263; refine (hI _ hT).mono ?_; rintro r w1 ⟨rfl,hb1⟩) | (go_at_call 261; refine (hZ _).mono ?_; rintro r w2 ⟨rfl,hb2⟩))
  go_ret
  exact ⟨rfl,hb1.trans (hb2.mono hb1.size)⟩
set_option maxRecDepth 100000 in
theorem fmtUintI {u : Nat} (hu1 : 1 ≤ u) (hu64 : u < 18446744073709551616) (w : World) (htab : PowTb w) :
  Calls Tryz.prog 314 #[.int .u64 (u : Int),.int .i64 10] w fun e w' => e = .returned (.string (str (Lib.decDigits u))) ∧ Below w.heap.size w w':=by
 by_cases hs : u < 100
 ·have hS:=fun w => Any.internal_strconv_small { QbU with } u hs w
  go_enter Tryz.func314,Tryz.ntmps314
  go_wp2_with (go_at_call 345; refine (hS _).mono ?_; rintro e w' ⟨rfl,rfl⟩)
  go_ret
  exact ⟨rfl,Below.refl _ _⟩
 ·have hnd20 : Lib.nDigits u ≤ 20:=by have:=Lib.numDigits_eq u hu1 hu64; split at this <;> omega
  have hal : Tryz.prog.arrayLen 352 = 24:=by simp [Program.arrayLen,Tryz.underlying352]
  have hsl : ∀ W,(Instr.sliceAt 352 (.pointer (some ⟨w.heap.size,0,none⟩)) none (some (.int .i64 (Lib.nDigits u : Int))) none).run Tryz.prog W = .ok (.slice (some ⟨w.heap.size,0,none⟩) (Lib.nDigits u) 24) W:=fun W => by
   rw [run_sliceAt_array_h W 352 ⟨w.heap.size,0,none⟩ (by simp [Program.arrayLen,Program.elem,Tryz.underlying352]) .i64 (Lib.nDigits u : Int) (by omega) (by rw [hal]; omega)]
   go_simp
  have hH0:=Lib.holds_zero0 w 352 (Lib.nDigits u) (by omega)
  have hfmt:=Any.internal_strconv_formatBase10 { QbU with } w.heap.size 0 24 u (Array.replicate (Lib.nDigits u) 0) (w.alloc (.cells Lib.zeros24 352)) hH0 (by rw [Array.size_replicate]; exact Lib.lt_pow_nDigits u) hu64 (by rw [Array.size_replicate]; omega)
  rw [Array.size_replicate] at hfmt
  have HH0:=Lib.hid hH0
  have hN:=fun w h => Any.internal_strconv_numDigits { QbU with } u hu1 hu64 w h
  clear hH0 hal
  go_enter Tryz.func314,Tryz.ntmps314
  go_wp2_with (first
   | (go_at_call 346; refine (hN _ (Lib.tabIs_alloc htab _)).mono ?_; rintro e w' ⟨rfl,rfl⟩))
  refine hfmt.mono ?_
  rintro e w' ⟨rfl,k,v',dk,rfl,hF⟩
  have hcv : (convert 96 9 (.slice (some ⟨w.heap.size,0,none⟩) (Lib.nDigits u) 24)).run Tryz.prog ((Sort.putRow (fun (b : UInt8) => Value.int .u8 (b.toNat : Int)) (w.alloc (.cells Lib.zeros24 352)) w.heap.size 0 dk).drewN k) = .ok (.string ⟨(Lib.decDigits u).toArray⟩) ((Sort.putRow (fun (b : UInt8) => Value.int .u8 (b.toNat : Int)) (w.alloc (.cells Lib.zeros24 352)) w.heap.size 0 dk).drewN k):=by
   have h:=run_convert_bytes_back (P:=Tryz.prog) ((Sort.putRow (fun (b : UInt8) => Value.int .u8 (b.toNat : Int)) (w.alloc (.cells Lib.zeros24 352)) w.heap.size 0 dk).drewN k) 96 9 5 ⟨w.heap.size,0,none⟩ 24 (Lib.decDigits u) Tryz.underlying96 Tryz.underlying5 Tryz.underlying9 (fun j hj => by
    rw [Lib.row_is_numeral hF j hj,Lib.add_plain,World.cell?_drewN]
    exact Sort.cell?_putRow (fun (b : UInt8) => Value.int .u8 (b.toNat : Int)) _ w.heap.size 0 _ dk HH0.out (by rw [hF.size,Array.size_replicate]) j (by rw [hF.size]; rw [Lib.decDigits_length] at hj; exact hj))
   rw [Lib.decDigits_length] at h
   exact h
  obtain ⟨os,eo⟩:=Lib.fin_at w (.cells Lib.zeros24 352) dk k 0
  have hB : Below w.heap.size w ((Sort.putRow (fun (b : UInt8) => Value.int .u8 (b.toNat : Int)) (w.alloc (.cells Lib.zeros24 352)) w.heap.size 0 dk).drewN k):=by rw [eo]; exact Lib.below_grow w.heap.size w (Nat.le_refl _) k os
  clear eo HH0 hfmt
  generalize (Sort.putRow (fun (b : UInt8) => Value.int .u8 (b.toNat : Int)) (w.alloc (.cells Lib.zeros24 352)) w.heap.size 0 dk).drewN k = W2 at *
  go_wp2
  go_ret
  exact ⟨rfl,hB⟩
theorem fmtUint14 {u : Nat} (hu1 : 1 ≤ u) (hu64 : u < 18446744073709551616) (w : World) (htab : PowTb w) :
  Calls Tryz.prog 260 #[.int .u64 (u : Int),.int .i64 10] w fun e w' => e = .returned (.string (str (Lib.decDigits u))) ∧ Below w.heap.size w w':=by
 have hF:=fun w h => fmtUintI hu1 hu64 w h
 go_enter Tryz.func260,Tryz.ntmps260
 go_wp2_with (go_at_call 314; refine (hF _ htab).mono ?_; rintro e w' ⟨rfl,hb⟩)
 go_ret
 exact ⟨rfl,hb⟩
end Go.Proofs.YtjnmgjcmagnkeabGreatDoor
namespace Go.Proofs.YtjnmgjcmagnkeabGreatDoor
open Go.ChangeShapes Go.WideShapes Go.ChangeAt Go.RowKit
open Lx Go.Shelf Ft
set_option linter.unusedVariables false
def fdC (d : B) (k : Int) : Array Value:=#[.string (str d),.int .i64 k]
namespace Ft
theorem Qkp (l : B) (j : Nat) : (str l).extract 0 j = str (l.take j):=by rw [Qa1,Qab,List.drop_zero,Nat.sub_zero]
theorem Qkq (l : B) (i : Nat) : (str l).extract i (str l).size = str (l.drop i):=by
 rw [Qa1,Qab,Qad,List.take_of_length_le]
 rw [List.length_drop]; omega
end Ft
set_option maxRecDepth 100000 in
theorem Qih {d : B} (h1 : 0 < d.length) (h2 : d.length ≤ 100000) {k : Int} (k0 : -10000 ≤ k) (k1 : k ≤ 10000) (w : World) (hT : PowTb w) :
  Calls Tryz.prog 200 #[.agg (fdC d k)] w fun r w' => r = .returned (.string (str (sciT d k))) ∧ Below w.heap.size w w':=by
 have hX:=fun w h => QcP (e:=k - 1) (m:=2) (by omega) (by omega) (by omega) w h
 have hT1 : PowTb (w.alloc (.cells (fdC d k) 242)):=Lib.tabIs_alloc hT _
 have hB1 : Below w.heap.size w (w.alloc (.cells (fdC d k) 242)):=(Below.refl _ w).alloc (Nat.le_refl _) _
 have hL : (exT (k - 1) 2).length ≤ 100:=by
  unfold exT
  have:=Qko (n:=(k - 1).natAbs) (by omega)
  rw [List.length_cons,List.length_append,List.length_replicate]; omega
 have hS : sciT d k = (d.take 1 ++ (if 1 < d.length then 46 :: d.drop 1 else [])) ++ (101 :: exT (k - 1) 2):=rfl
 rw [hS]
 unfold fdC at *
 have sd : (str d).size = d.length:=Qad d
 have e1:=Qkp d 1
 have e2:=Qkq d 1
 rw [sd] at e2
 generalize exT (k - 1) 2 = X at *
 have sX : (str X).size = X.length:=Qad X
 by_cases q : 1 < d.length
 ·rw [if_pos q]
  have s1 : (str (d.take 1)).size = 1:=by rw [Qad,List.length_take]; omega
  have s2 : (str (d.drop 1)).size = d.length - 1:=by rw [Qad,List.length_drop]
  obtain ⟨T1,c1,t1,H1⟩:=catE (ByteArray.mk #[46]) (str (d.drop 1))
  obtain ⟨T2,c2,t2,H2⟩:=catE (str (d.take 1)) T1
  obtain ⟨T3,c3,t3,H3⟩:=catE T2 (ByteArray.mk #[101])
  obtain ⟨T4,c4,t4,H4⟩:=catE T3 (str X)
  have R : Hid (T4 = str ((d.take 1 ++ 46 :: d.drop 1) ++ 101 :: X)):=Qdv (by rw [H4.out,H3.out,H2.out,H1.out,Qab,Qab,Qab]; simp)
  have z1 : (ByteArray.mk #[46]).size = 1:=rfl
  have z2 : (ByteArray.mk #[101]).size = 1:=rfl
  rw [z1] at t1
  rw [z2] at t3
  clear H1 H2 H3 H4
  generalize d.take 1 = D1 at *
  generalize d.drop 1 = D2 at *
  go_enter Tryz.func200,Tryz.ntmps200
  go_wp2_with (go_at_call 203; refine (hX _ hT1).mono ?_; rintro r w1 ⟨rfl,hb1⟩)
  go_ret
  exact ⟨by rw [R.out]; rfl,hB1.trans (hb1.mono hB1.size)⟩
 ·rw [if_neg q,List.append_nil]
  have s1 : (str (d.take 1)).size = 1:=by rw [Qad,List.length_take]; omega
  obtain ⟨T3,c3,t3,H3⟩:=catE (str (d.take 1)) (ByteArray.mk #[101])
  obtain ⟨T4,c4,t4,H4⟩:=catE T3 (str X)
  have R : Hid (T4 = str (d.take 1 ++ 101 :: X)):=Qdv (by rw [H4.out,H3.out,Qab,Qab]; simp)
  have z2 : (ByteArray.mk #[101]).size = 1:=rfl
  rw [z2] at t3
  clear H3 H4
  generalize d.take 1 = D1 at *
  go_enter Tryz.func200,Tryz.ntmps200
  go_wp2_with (go_at_call 203; refine (hX _ hT1).mono ?_; rintro r w1 ⟨rfl,hb1⟩)
  go_ret
  exact ⟨by rw [R.out]; rfl,hB1.trans (hb1.mono hB1.size)⟩
set_option maxRecDepth 100000 in
theorem Qg4 {d : B} (h2 : d.length ≤ 100000) {k : Int} (k0 : -10000 ≤ k) (k1 : k ≤ 0) (w : World) :
  Calls Tryz.prog 201 #[.agg (fdC d k)] w fun r w' => r = .returned (.string (str (plT d k))) ∧ Below w.heap.size w w':=by
 have hZ:=fun w => QcY (n:=(-k).toNat) (by omega) w
 have ez : (((-k).toNat : Nat) : Int) = -k:=by omega
 rw [ez] at hZ
 have hP : plT d k = 48 :: 46 :: (List.replicate (-k).toNat 48 ++ d):=if_pos k1
 rw [hP]
 have hR : (List.replicate (-k).toNat (48 : UInt8)).length ≤ 10000:=by rw [List.length_replicate]; omega
 have B1 : Below w.heap.size w (w.alloc (.cells (fdC d k) 242)):=(Below.refl _ w).alloc (Nat.le_refl _) _
 have K:=Ry.Bk.new w 242 (fdC d k)
 unfold fdC at *
 have sd : (str d).size = d.length:=Qad d
 generalize List.replicate (-k).toNat (48 : UInt8) = R at *
 have sR : (str R).size = R.length:=Qad R
 obtain ⟨T1,c1,t1,H1⟩:=catE (ByteArray.mk #[48,46]) (str R)
 obtain ⟨T2,c2,t2,H2⟩:=catE T1 (str d)
 have Q : Hid (T2 = str (48 :: 46 :: (R ++ d))):=Qdv (by rw [H2.out,H1.out,Qab,Qab]; simp)
 have z1 : (ByteArray.mk #[48,46]).size = 2:=rfl
 rw [z1] at t1
 clear H1 H2 hP ez
 obtain ⟨g,hg⟩ : ∃ g,g = w.heap.size:=⟨_,rfl⟩
 obtain ⟨w0,hw0⟩ : ∃ w0,w0 = w.alloc (.cells #[.string (str d),.int .i64 k] 242):=⟨_,rfl⟩
 rw [← hw0,← hg] at K
 rw [← hw0] at B1
 have hcl : ∀ w',Below w0.heap.size w0 w' → w'.cell? ⟨g,0,none⟩ = some (.string (str d)) ∧ w'.cell? ⟨g,1,none⟩ = some (.int .i64 k):=fun w' h => ⟨(K.later h).cell 0 rfl,(K.later h).cell 1 rfl⟩
 obtain ⟨x0,x1⟩:=hcl w0 (Below.refl _ _)
 go_enter Tryz.func201,Tryz.ntmps201
 go_wp2_with fail
 rw [← hw0,← hg]
 clear hw0 hg K
 have wr : IntKind.i64.wrap (-k) = -k:=by unfold IntKind.wrap; simp [IntKind.bits,IntKind.signed]; omega
 have q1 : (9223372036854775807 < 2 + R.length) = False:=eq_false (by omega)
 have q2 : (2 + R.length > 9223372036854775807) = False:=eq_false (by omega)
 have q3 : (9223372036854775807 < 2 + R.length + d.length) = False:=eq_false (by omega)
 have q4 : (2 + R.length + d.length > 9223372036854775807) = False:=eq_false (by omega)
 go_region_held3 (fun w' => w'.cell? ⟨g,0,none⟩ = some (.string (str d)) ∧ w'.cell? ⟨g,1,none⟩ = some (.int .i64 k)) (go_keep) (first | (go_at_call 261; refine (hZ _).mono ?_; rintro e wA ⟨rfl,hbA⟩; have hBA : Below w0.heap.size w0 wA:=(by first | exact hbA | exact (below_drewN (Below.refl _ w0) _).trans (hbA.mono (Nat.le_refl _))); clear x0 x1; obtain ⟨x0,x1⟩:=hcl wA hBA))
 go_wp2
 go_ret
 exact ⟨by rw [Q.out]; rfl,B1.trans (hBA.mono B1.size)⟩
set_option maxRecDepth 100000 in
theorem Qjj {d : B} (h2 : d.length ≤ 100000) {k : Int} (k0 : 0 < k) (k1 : k < d.length) (w : World) :
  Calls Tryz.prog 201 #[.agg (fdC d k)] w fun r w' => r = .returned (.string (str (plT d k))) ∧ Below w.heap.size w w':=by
 have hP : plT d k = d.take k.toNat ++ (46 :: d.drop k.toNat):=by unfold plT; rw [if_neg (by omega),if_pos k1]
 rw [hP]
 have B1 : Below w.heap.size w (w.alloc (.cells (fdC d k) 242)):=(Below.refl _ w).alloc (Nat.le_refl _) _
 unfold fdC at *
 have sd : (str d).size = d.length:=Qad d
 have e1:=Qkp d k.toNat
 have e2:=Qkq d k.toNat
 rw [sd] at e2
 have s1 : (str (d.take k.toNat)).size = k.toNat:=by rw [Qad,List.length_take]; omega
 have s2 : (str (d.drop k.toNat)).size = d.length - k.toNat:=by rw [Qad,List.length_drop]
 obtain ⟨T1,c1,t1,H1⟩:=catE (str (d.take k.toNat)) (ByteArray.mk #[46])
 obtain ⟨T2,c2,t2,H2⟩:=catE T1 (str (d.drop k.toNat))
 have Q : Hid (T2 = str (d.take k.toNat ++ (46 :: d.drop k.toNat))):=Qdv (by rw [H2.out,H1.out,Qab,Qab]; simp)
 have z1 : (ByteArray.mk #[46]).size = 1:=rfl
 rw [z1] at t1
 clear H1 H2 hP
 generalize d.take k.toNat = D1 at *
 generalize d.drop k.toNat = D2 at *
 have d1 : decide (k ≤ 0) = false:=by simp; omega
 have d2 : decide (k < (d.length : Int)) = true:=by simp; omega
 go_enter Tryz.func201,Tryz.ntmps201
 go_wp2_with fail
 go_quiet (fail)
 go_wp2
 go_ret
 exact ⟨by rw [Q.out]; rfl,below_drewN B1 _⟩
set_option maxRecDepth 100000 in
theorem Qjk {d : B} (h2 : d.length ≤ 100000) {k : Int} (k0 : 0 < k) (k1 : (d.length : Int) ≤ k) (k2 : k ≤ 100000) (w : World) :
  Calls Tryz.prog 201 #[.agg (fdC d k)] w fun r w' => r = .returned (.string (str (plT d k))) ∧ Below w.heap.size w w':=by
 have hZ:=fun w => QcY (n:=(k - d.length).toNat) (by omega) w
 have ez : (((k - d.length).toNat : Nat) : Int) = k - d.length:=by omega
 rw [ez] at hZ
 have hP : plT d k = d ++ List.replicate (k - d.length).toNat 48:=by unfold plT; rw [if_neg (by omega),if_neg (by omega)]
 rw [hP]
 have hR : (List.replicate (k - d.length).toNat (48 : UInt8)).length ≤ 100000:=by rw [List.length_replicate]; omega
 have B1 : Below w.heap.size w (w.alloc (.cells (fdC d k) 242)):=(Below.refl _ w).alloc (Nat.le_refl _) _
 have K:=Ry.Bk.new w 242 (fdC d k)
 unfold fdC at *
 have sd : (str d).size = d.length:=Qad d
 generalize List.replicate (k - d.length).toNat (48 : UInt8) = R at *
 have sR : (str R).size = R.length:=Qad R
 obtain ⟨T1,c1,t1,H1⟩:=catE (str d) (str R)
 have Q : Hid (T1 = str (d ++ R)):=Qdv (by rw [H1.out,Qab,Qab])
 clear H1 hP ez
 have d1 : decide (k ≤ 0) = false:=by simp; omega
 have d2 : decide (k < (d.length : Int)) = false:=by simp; omega
 obtain ⟨g,hg⟩ : ∃ g,g = w.heap.size:=⟨_,rfl⟩
 obtain ⟨w0,hw0⟩ : ∃ w0,w0 = w.alloc (.cells #[.string (str d),.int .i64 k] 242):=⟨_,rfl⟩
 rw [← hw0,← hg] at K
 rw [← hw0] at B1
 have hcl : ∀ w',Below w0.heap.size w0 w' → w'.cell? ⟨g,0,none⟩ = some (.string (str d)) ∧ w'.cell? ⟨g,1,none⟩ = some (.int .i64 k):=fun w' h => ⟨(K.later h).cell 0 rfl,(K.later h).cell 1 rfl⟩
 obtain ⟨x0,x1⟩:=hcl w0 (Below.refl _ _)
 have wr : IntKind.i64.wrap (k - (d.length : Int)) = k - (d.length : Int):=by unfold IntKind.wrap; simp [IntKind.bits,IntKind.signed]; omega
 go_enter Tryz.func201,Tryz.ntmps201
 go_wp2_with fail
 rw [← hw0,← hg]
 clear hw0 hg K
 have q1 : (9223372036854775807 < d.length + R.length) = False:=eq_false (by omega)
 have q2 : (d.length + R.length > 9223372036854775807) = False:=eq_false (by omega)
 go_region_held3 (fun w' => w'.cell? ⟨g,0,none⟩ = some (.string (str d)) ∧ w'.cell? ⟨g,1,none⟩ = some (.int .i64 k)) (go_keep) (first | (go_at_call 261; refine (hZ _).mono ?_; rintro e wA ⟨rfl,hbA⟩; have hBA : Below w0.heap.size w0 wA:=(by first | exact hbA | exact (below_drewN (Below.refl _ w0) _).trans (hbA.mono (Nat.le_refl _))); clear x0 x1; obtain ⟨x0,x1⟩:=hcl wA hBA))
 go_wp2
 go_ret
 exact ⟨by rw [Q.out]; rfl,B1.trans (hBA.mono B1.size)⟩
theorem Qjl {d : B} (h2 : d.length ≤ 100000) {k : Int} (k0 : -10000 ≤ k) (k2 : k ≤ 100000) (w : World) :
  Calls Tryz.prog 201 #[.agg (fdC d k)] w fun r w' => r = .returned (.string (str (plT d k))) ∧ Below w.heap.size w w':=by
 by_cases q : k ≤ 0
 ·exact Qg4 h2 k0 q w
 ·by_cases q2 : k < d.length
  ·exact Qjj h2 (by omega) q2 w
  ·exact Qjk h2 (by omega) (by omega) k2 w
end Go.Proofs.YtjnmgjcmagnkeabGreatDoor

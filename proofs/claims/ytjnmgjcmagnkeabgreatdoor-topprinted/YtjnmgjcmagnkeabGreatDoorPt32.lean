import Derived.Test.YtjnmgjcmagnkeabGreatDoorPt22
import Derived.Test.YtjnmgjcmagnkeabGreatDoorPt31
set_option maxHeartbeats 3200000
namespace Go.Proofs.YtjnmgjcmagnkeabGreatDoor
open Go.ChangeShapes Go.WideShapes Go.ChangeAt Go.RowKit
open Na Ar Lx
set_option linter.unusedVariables false
theorem Bk.drew {w : World} {g : Nat} {t : TypeId} {vs : Array Value} (h : Bk w g t vs) : Bk w.drew g t vs:=h
set_option maxRecDepth 100000 in
theorem Qls (k : Int) (ng : Bool) (num : ByteArray) (e : Int) (den : ByteArray) (h : k = 3 ∨ num.size ≤ 768) (w : World) :
  Calls Tryz.prog 211 #[.agg (numC k ng num e den)] w fun r w' => r = .returned (.agg (numC k ng num e den)) ∧ Below w.heap.size w w':=by
 have hb0 : Below w.heap.size w ((w.alloc (.cells (numC k ng num e den) 43)).alloc (.cells zero5 43)):=((Below.refl _ w).alloc (Nat.le_refl _) _).alloc (by simp) _
 by_cases hk : k = 3
 ·have t : (k == 3) = true:=QcL hk
  clear hk h
  unfold numC zero5 at *
  go_enter Tryz.func211,Tryz.ntmps211
  go_wp2
  refine bodyPost_ret (results_cell_row rfl _ _ (w.heap.size + 1) 43 #[.int .i64 k,.bool ng,.string num,.int .i64 e,.string den] (0,0) _ rfl ?_ Tryz.underlying43 rfl (by kernel_rfl)) rfl ⟨rfl,((Below.refl _ w).alloc (Nat.le_refl _) _).alloc (by simp) _⟩
  have:=Bk.new (w.alloc (.cells #[.int .i64 k,.bool ng,.string num,.int .i64 e,.string den] 43)) 43 #[.int .i64 k,.bool ng,.string num,.int .i64 e,.string den]
  rw [World.size_alloc] at this
  exact this
 ·have t : (k == 3) = false:=QaC hk
  have h' : num.size ≤ 768:=h.resolve_left hk
  have t2 : decide ((num.size : Int) ≤ 768) = true:=by simp; omega
  clear hk h
  unfold numC zero5 at *
  go_enter Tryz.func211,Tryz.ntmps211
  go_wp2
  refine bodyPost_ret (results_cell_row rfl _ _ (w.heap.size + 1) 43 #[.int .i64 k,.bool ng,.string num,.int .i64 e,.string den] (0,0) _ rfl ?_ Tryz.underlying43 rfl (by kernel_rfl)) rfl ⟨rfl,((Below.refl _ w).alloc (Nat.le_refl _) _).alloc (by simp) _⟩
  have:=Bk.new (w.alloc (.cells #[.int .i64 k,.bool ng,.string num,.int .i64 e,.string den] 43)) 43 #[.int .i64 k,.bool ng,.string num,.int .i64 e,.string den]
  rw [World.size_alloc] at this
  exact this
set_option maxRecDepth 100000 in
theorem Qlt (k : Int) (ng : Bool) (num : ByteArray) (e : Int) (den : ByteArray) (hk : k = 1 ∨ k = 2) (h : 768 < num.size) (hs : num.size ≤ 65536) (e0 : -1073741824 ≤ e) (e1 : e ≤ 1073741824) (w : World) :
  Calls Tryz.prog 211 #[.agg (numC k ng num e den)] w fun r w' => r = .returned (.agg (numC k ng (str (shN k num.data.toList)) (shE k num.data.toList e) den)) ∧ Below w.heap.size w w':=by
 have hl : num.data.toList.length = num.size:=(Lib.size_eq num).symm
 have t : (k == 3) = false:=QaC (by omega)
 have t2 : decide ((num.size : Int) ≤ 768) = false:=by simp; omega
 have hc : ¬ (k = 3 ∨ num.data.toList.length ≤ 768):=by omega
 have x1 : num.extract 0 768 = str (num.data.toList.take 768):=by rw [Qa1,List.drop_zero,Nat.sub_zero]
 have x2 : num.extract 768 num.size = str (num.data.toList.drop 768):=by rw [Qa1,List.take_of_length_le (by rw [List.length_drop,hl]; exact Nat.le_refl _)]
 have x3 : (str (num.data.toList.drop 768)).extract 1 (num.size - 768) = str (num.data.toList.drop 769):=by
  rw [Qa1,Qab,List.drop_drop,List.take_of_length_le (by rw [List.length_drop,hl]; omega)]
 have hT:=fun w => QhZ (str (num.data.toList.drop 768)) (by rw [Qad,List.length_drop]; omega) w
 rw [Qab] at hT
 have hem:=Qd3 (trimL [48] (trimR [48] (num.data.toList.drop 768)))
 have hz0 : (trimL [48] (trimR [48] (num.data.toList.drop 768))).isEmpty = zeros (num.data.toList.drop 768):=rfl
 rw [hz0] at hem
 have s1 : (str (num.data.toList.take 768)).size = 768:=by rw [Qad,List.length_take]; omega
 have s2 : (str (num.data.toList.drop 768)).size = num.size - 768:=by rw [Qad,List.length_drop,hl]
 have s3 : (str (num.data.toList.drop 769)).size = num.size - 769:=by rw [Qad,List.length_drop,hl]
 have hadd : str (num.data.toList.take 768) ++ ⟨#[49]⟩ = str (num.data.toList.take 768 ++ [49]):=Qok _ [49]
 have hP:=fun w => Qij k w
 have hp4 : 0 ≤ perD k ∧ perD k ≤ 4:=by unfold perD; split <;> omega
 cases hz : zeros (num.data.toList.drop 768)
 ·have E1 : shN k num.data.toList = num.data.toList.take 768 ++ [49]:=by unfold shN; rw [if_neg hc,if_neg (by rw [hz]; decide)]
  have E2 : shE k num.data.toList e = e + ((num.size - 769 : Nat) : Int) * perD k:=by unfold shE; rw [if_neg hc,if_neg (by rw [hz]; decide),hl]
  rw [E1,E2]
  rw [hz] at hem
  have hmul : ((num.size - 769 : Nat) : Int) * perD k ≤ 65536 * 4:=Int.mul_le_mul (by omega) hp4.2 hp4.1 (by omega)
  have hmul0 : 0 ≤ ((num.size - 769 : Nat) : Int) * perD k:=Int.mul_nonneg (by omega) hp4.1
  have w1' : IntKind.i64.wrap (((num.size - 769 : Nat) : Int) * perD k) = ((num.size - 769 : Nat) : Int) * perD k:=wrapI (by omega) (by omega)
  have w2' : IntKind.i64.wrap (e + ((num.size - 769 : Nat) : Int) * perD k) = e + ((num.size - 769 : Nat) : Int) * perD k:=wrapI (by omega) (by omega)
  clear E1 E2 hc hz0 hz hk t2 hl
  generalize str (trimL [48] (trimR [48] (num.data.toList.drop 768))) = T3 at *
  generalize str (num.data.toList.take 768 ++ [49]) = H1 at *
  generalize str (num.data.toList.take 768) = H at *
  generalize str (num.data.toList.drop 768) = T at *
  generalize str (num.data.toList.drop 769) = T1 at *
  have B0 : Bk ((w.alloc (.cells (numC k ng num e den) 43)).alloc (.cells zero5 43)) w.heap.size 43 (numC k ng num e den):=(Bk.new w _ _).later ((Below.refl _ _).alloc (Nat.le_refl _) _)
  have B1 : Bk ((w.alloc (.cells (numC k ng num e den) 43)).alloc (.cells zero5 43)) (w.heap.size + 1) 43 zero5:=by
   have:=Bk.new (w.alloc (.cells (numC k ng num e den) 43)) 43 zero5
   rw [World.size_alloc] at this
   exact this
  have hb0 : Below w.heap.size w ((w.alloc (.cells (numC k ng num e den) 43)).alloc (.cells zero5 43)):=((Below.refl _ w).alloc (Nat.le_refl _) _).alloc (by simp) _
  obtain ⟨w0,hw0⟩ : ∃ w0,w0 = ((w.alloc (.cells #[.int .i64 k,.bool ng,.string num,.int .i64 e,.string den] 43)).alloc (.cells #[.int .i64 0,.bool false,.string ⟨#[]⟩,.int .i64 0,.string ⟨#[]⟩] 43)):=⟨_,rfl⟩
  unfold numC zero5 at B0 B1 hb0
  rw [← hw0] at B0 B1 hb0
  obtain ⟨g,hg⟩ : ∃ g,g = w.heap.size:=⟨_,rfl⟩
  rw [← hg] at B0 B1 hb0
  have c0:=B0.cell 0 rfl
  have c2:=B0.cell 2 rfl
  have f2:=B0.frozen 2
  have HG : Hid (w.heap.size = g):=hg.symm
  have HB0 : Hid _:=B0
  have HB1 : Hid _:=B1
  clear B0 B1
  unfold numC
  go_enter Tryz.func211,Tryz.ntmps211
  go_wp2
  rw [← hw0,← hg]
  clear hw0 hg
  go_quiet (fail)
  go_wp2_with fail
  refine (hT _).mono ?_
  rintro r w1 ⟨rfl,hb1⟩
  have A0 : Bk (w0.drewN nq) g 43 #[.int .i64 k,.bool ng,.string num,.int .i64 e,.string den]:=HB0.out
  have A1 : Bk (w0.drewN nq) (g + 1) 43 zero5:=HB1.out
  have C0 : Bk w1 g 43 #[.int .i64 k,.bool ng,.string H,.int .i64 e,.string den]:=(Bk.set A0 2 (.string H)).later hb1
  have C1 : Bk w1 (g + 1) 43 zero5:=(Bk.tn A1 ((Tn.refl g (w0.drewN nq)).set 2 (.string H)) (by omega)).later hb1
  have hB : Below g w w1:=(Tn.below (below_drewN hb0 nq) ((Tn.refl g _).set 2 (.string H)) (Nat.le_refl _) (by rw [HG.out]; exact Nat.le_refl _)).trans (hb1.mono (by have:=hb0.size; have:=HG.out; simp; omega))
  clear hT hb1 HB0 HB1 hb0 c0 c2 f2 A0 A1
  have c2:=C0.cell 2 rfl
  have f2:=C0.frozen 2
  have HC0 : Hid (Bk w1 g 43 #[.int .i64 k,.bool ng,.string H,.int .i64 e,.string den]):=C0
  have HC1 : Hid (Bk w1 (g + 1) 43 zero5):=C1
  clear C0 C1
  go_wp2_with fail
  go_region
  have D0 : Bk (w1.setCell ⟨g,2,none⟩ (.string H1)).drew g 43 #[.int .i64 k,.bool ng,.string H1,.int .i64 e,.string den]:=Bk.set HC0.out 2 (.string H1)
  have D1' : Bk (w1.setCell ⟨g,2,none⟩ (.string H1)) (g + 1) 43 zero5:=Bk.tn HC1.out ((Tn.refl g w1).set 2 (.string H1)) (by omega)
  have D1 : Bk (w1.setCell ⟨g,2,none⟩ (.string H1)).drew (g + 1) 43 zero5:=D1'
  clear D1'
  have hB2 : Below g w (w1.setCell ⟨g,2,none⟩ (.string H1)).drew:=below_drewN (Tn.below hB ((Tn.refl g _).set 2 (.string H1)) (Nat.le_refl _) (by rw [HG.out]; exact Nat.le_refl _)) 1
  generalize (w1.setCell ⟨g,2,none⟩ (.string H1)).drew = w2 at *
  clear HC0 HC1 hB c2 f2
  have HD1 : Hid (Bk w2 (g + 1) 43 zero5):=D1
  have HD0 : Hid (Bk w2 g 43 #[.int .i64 k,.bool ng,.string H1,.int .i64 e,.string den]):=D0
  have d0:=D0.cell 0 (v:=.int .i64 k) rfl
  have d1:=D0.cell 1 (v:=.bool ng) rfl
  have d2:=D0.cell 2 (v:=.string H1) rfl
  have d3:=D0.cell 3 (v:=.int .i64 e) rfl
  have d4:=D0.cell 4 (v:=.string den) rfl
  have f3:=D0.frozen 3
  have z0:=D1.cell 0 rfl
  have z1:=D1.cell 1 rfl
  have z2:=D1.cell 2 rfl
  have z3:=D1.cell 3 rfl
  have z4:=D1.cell 4 rfl
  have y0:=D1.frozen 0
  have y1:=D1.frozen 1
  have y2:=D1.frozen 2
  have y3:=D1.frozen 3
  have y4:=D1.frozen 4
  have E1 : Hid (Bk (w2.setCell ⟨g,3,none⟩ (.int .i64 (e + ((num.size - 769 : Nat) : Int) * perD k))) (g + 1) 43 zero5):=Bk.tn D1 ((Tn.refl g w2).set 3 _) (by omega)
  have hB3 : Below g w (w2.setCell ⟨g,3,none⟩ (.int .i64 (e + ((num.size - 769 : Nat) : Int) * perD k))):=Tn.below hB2 ((Tn.refl g _).set 3 _) (Nat.le_refl _) (by rw [HG.out]; exact Nat.le_refl _)
  clear D0 D1
  go_wp2_with fail
  go_region_with ((go_at_call 272; refine (hP _).mono ?_; rintro r wX ⟨rfl,hwX⟩; rw [hwX]))
  all_goals
   go_wp2
   refine bodyPost_ret (results_cell_row rfl _ _ (g + 1) 43 #[.int .i64 k,.bool ng,.string H1,.int .i64 (e + ((num.size - 769 : Nat) : Int) * perD k),.string den] (0,0) _ rfl (Bk.drew (Bk.all5 E1.out _ _ _ _ _)) Tryz.underlying43 rfl (by kernel_rfl)) rfl ⟨rfl,?_⟩
   rw [HG.out]
   exact below_drewN (Tn.below hB3 (Tn.all5 ..) (by omega) (by rw [HG.out]; exact Nat.le_refl _)) 1
 ·have E1 : shN k num.data.toList = num.data.toList.take 768:=by unfold shN; rw [if_neg hc,if_pos hz]
  have E2 : shE k num.data.toList e = e + ((num.size - 768 : Nat) : Int) * perD k:=by unfold shE; rw [if_neg hc,if_pos hz,hl]
  rw [E1,E2]
  rw [hz] at hem
  have hmul : ((num.size - 768 : Nat) : Int) * perD k ≤ 65536 * 4:=Int.mul_le_mul (by omega) hp4.2 hp4.1 (by omega)
  have hmul0 : 0 ≤ ((num.size - 768 : Nat) : Int) * perD k:=Int.mul_nonneg (by omega) hp4.1
  have wm1 : IntKind.i64.wrap (((num.size - 768 : Nat) : Int) * perD k) = ((num.size - 768 : Nat) : Int) * perD k:=wrapI (by omega) (by omega)
  have wm2 : IntKind.i64.wrap (e + ((num.size - 768 : Nat) : Int) * perD k) = e + ((num.size - 768 : Nat) : Int) * perD k:=wrapI (by omega) (by omega)
  clear E1 E2 hc hz0 hz hk t2 hl
  generalize str (trimL [48] (trimR [48] (num.data.toList.drop 768))) = T3 at *
  clear hadd
  generalize str (num.data.toList.take 768) = H at *
  generalize str (num.data.toList.drop 768) = T at *
  generalize str (num.data.toList.drop 769) = T1 at *
  have B0 : Bk ((w.alloc (.cells (numC k ng num e den) 43)).alloc (.cells zero5 43)) w.heap.size 43 (numC k ng num e den):=(Bk.new w _ _).later ((Below.refl _ _).alloc (Nat.le_refl _) _)
  have B1 : Bk ((w.alloc (.cells (numC k ng num e den) 43)).alloc (.cells zero5 43)) (w.heap.size + 1) 43 zero5:=by
   have:=Bk.new (w.alloc (.cells (numC k ng num e den) 43)) 43 zero5
   rw [World.size_alloc] at this
   exact this
  have hb0 : Below w.heap.size w ((w.alloc (.cells (numC k ng num e den) 43)).alloc (.cells zero5 43)):=((Below.refl _ w).alloc (Nat.le_refl _) _).alloc (by simp) _
  obtain ⟨w0,hw0⟩ : ∃ w0,w0 = ((w.alloc (.cells #[.int .i64 k,.bool ng,.string num,.int .i64 e,.string den] 43)).alloc (.cells #[.int .i64 0,.bool false,.string ⟨#[]⟩,.int .i64 0,.string ⟨#[]⟩] 43)):=⟨_,rfl⟩
  unfold numC zero5 at B0 B1 hb0
  rw [← hw0] at B0 B1 hb0
  obtain ⟨g,hg⟩ : ∃ g,g = w.heap.size:=⟨_,rfl⟩
  rw [← hg] at B0 B1 hb0
  have c0:=B0.cell 0 rfl
  have c2:=B0.cell 2 rfl
  have f2:=B0.frozen 2
  have HG : Hid (w.heap.size = g):=hg.symm
  have HB0 : Hid _:=B0
  have HB1 : Hid _:=B1
  clear B0 B1
  unfold numC
  go_enter Tryz.func211,Tryz.ntmps211
  go_wp2
  rw [← hw0,← hg]
  clear hw0 hg
  go_quiet (fail)
  go_wp2_with fail
  refine (hT _).mono ?_
  rintro r w1 ⟨rfl,hb1⟩
  have A0 : Bk (w0.drewN nq) g 43 #[.int .i64 k,.bool ng,.string num,.int .i64 e,.string den]:=HB0.out
  have A1 : Bk (w0.drewN nq) (g + 1) 43 zero5:=HB1.out
  have C0 : Bk w1 g 43 #[.int .i64 k,.bool ng,.string H,.int .i64 e,.string den]:=(Bk.set A0 2 (.string H)).later hb1
  have C1 : Bk w1 (g + 1) 43 zero5:=(Bk.tn A1 ((Tn.refl g (w0.drewN nq)).set 2 (.string H)) (by omega)).later hb1
  have hB : Below g w w1:=(Tn.below (below_drewN hb0 nq) ((Tn.refl g _).set 2 (.string H)) (Nat.le_refl _) (by rw [HG.out]; exact Nat.le_refl _)).trans (hb1.mono (by have:=hb0.size; have:=HG.out; simp; omega))
  clear hT hb1 HB0 HB1 hb0 c0 c2 f2 A0 A1
  have c2:=C0.cell 2 rfl
  have f2:=C0.frozen 2
  have HC0 : Hid (Bk w1 g 43 #[.int .i64 k,.bool ng,.string H,.int .i64 e,.string den]):=C0
  have HC1 : Hid (Bk w1 (g + 1) 43 zero5):=C1
  clear C0 C1
  have D0:=HC0.out
  have D1:=HC1.out
  have hB2:=hB
  clear HC0 HC1 hB c2 f2
  have HD1 : Hid (Bk w1 (g + 1) 43 zero5):=D1
  have HD0 : Hid (Bk w1 g 43 #[.int .i64 k,.bool ng,.string H,.int .i64 e,.string den]):=D0
  have d0:=D0.cell 0 (v:=.int .i64 k) rfl
  have d1:=D0.cell 1 (v:=.bool ng) rfl
  have d2:=D0.cell 2 (v:=.string H) rfl
  have d3:=D0.cell 3 (v:=.int .i64 e) rfl
  have d4:=D0.cell 4 (v:=.string den) rfl
  have f3:=D0.frozen 3
  have z0:=D1.cell 0 rfl
  have z1:=D1.cell 1 rfl
  have z2:=D1.cell 2 rfl
  have z3:=D1.cell 3 rfl
  have z4:=D1.cell 4 rfl
  have y0:=D1.frozen 0
  have y1:=D1.frozen 1
  have y2:=D1.frozen 2
  have y3:=D1.frozen 3
  have y4:=D1.frozen 4
  have E1 : Hid (Bk (w1.setCell ⟨g,3,none⟩ (.int .i64 (e + ((num.size - 768 : Nat) : Int) * perD k))) (g + 1) 43 zero5):=Bk.tn D1 ((Tn.refl g w1).set 3 _) (by omega)
  have hB3 : Below g w (w1.setCell ⟨g,3,none⟩ (.int .i64 (e + ((num.size - 768 : Nat) : Int) * perD k))):=Tn.below hB2 ((Tn.refl g _).set 3 _) (Nat.le_refl _) (by rw [HG.out]; exact Nat.le_refl _)
  clear D0 D1
  go_wp2_with fail
  go_region_with ((go_at_call 272; refine (hP _).mono ?_; rintro r wX ⟨rfl,hwX⟩; rw [hwX]))
  all_goals
   go_wp2
   refine bodyPost_ret (results_cell_row rfl _ _ (g + 1) 43 #[.int .i64 k,.bool ng,.string H,.int .i64 (e + ((num.size - 768 : Nat) : Int) * perD k),.string den] (0,0) _ rfl (Bk.drew (Bk.all5 E1.out _ _ _ _ _)) Tryz.underlying43 rfl (by kernel_rfl)) rfl ⟨rfl,?_⟩
   rw [HG.out]
   exact below_drewN (Tn.below hB3 (Tn.all5 ..) (by omega) (by rw [HG.out]; exact Nat.le_refl _)) 1
theorem Qik (k : Int) (ng : Bool) (num : ByteArray) (e : Int) (den : ByteArray) (hk : k = 1 ∨ k = 2 ∨ k = 3) (hs : num.size ≤ 65536) (e0 : -1073741824 ≤ e) (e1 : e ≤ 1073741824) (w : World) :
  Calls Tryz.prog 211 #[.agg (numC k ng num e den)] w fun r w' => r = .returned (.agg (numC k ng (str (shN k num.data.toList)) (shE k num.data.toList e) den)) ∧ Below w.heap.size w w':=by
 by_cases h : k = 3 ∨ num.size ≤ 768
 ·have h' : k = 3 ∨ num.data.toList.length ≤ 768:=by rw [← Lib.size_eq]; exact h
  have E1 : shN k num.data.toList = num.data.toList:=by unfold shN; rw [if_pos h']
  have E2 : shE k num.data.toList e = e:=by unfold shE; rw [if_pos h']
  rw [E1,E2,Qcp]
  exact Qls k ng num e den h w
 ·exact Qlt k ng num e den (by omega) (by omega) hs e0 e1 w
set_option maxRecDepth 100000 in
theorem Qfx (k : Int) (ng : Bool) (num : ByteArray) (e : Int) (den : ByteArray) (hk : k = 2 ∨ k = 3) (hs : num.size ≤ 65536) (e0 : -1073741824 ≤ e) (e1 : e ≤ 1073741824) (w : World) :
  Calls Tryz.prog 137 #[.agg (numC k ng num e den)] w fun r w' => ∃ g h,r = .returned (.slice (some ⟨h,0,none⟩) 1 1) ∧ Slow1 w' ⟨h,0,none⟩ g ∧ Bk w' g 43 (numC k ng (str (shN k num.data.toList)) (shE k num.data.toList e) den) ∧ Below w.heap.size w w':=by
 have hS:=fun w => Qik k ng num e den (by omega) hs e0 e1 w
 have hR:=fun w => Qen k ng (str (shN k num.data.toList)) (shE k num.data.toList e) den w
 have t : (k != 1) = true:=Qas (by omega)
 generalize str (shN k num.data.toList) = N at *
 generalize shE k num.data.toList e = E at *
 have B0:=Bk.new w 43 (numC k ng num e den)
 have hb0 : Below w.heap.size w (w.alloc (.cells (numC k ng num e den) 43)):=(Below.refl _ w).alloc (Nat.le_refl _) _
 obtain ⟨w0,hw0⟩ : ∃ w0,w0 = w.alloc (.cells (numC k ng num e den) 43):=⟨_,rfl⟩
 rw [← hw0] at B0 hb0
 obtain ⟨g,hg⟩ : ∃ g,g = w.heap.size:=⟨_,rfl⟩
 rw [← hg] at B0
 have hsz:=hb0.size
 unfold numC at hS hw0 hR ⊢
 go_enter Tryz.func137,Tryz.ntmps137
 go_wp2_with fail
 refine (hS _).mono ?_
 rintro r w1 ⟨rfl,hb1⟩
 rw [← hw0] at hb1
 clear hS
 go_wp2_with fail
 refine (hR _).mono ?_
 rintro r w2 ⟨g2,h2,rfl,s2,b2,hb2⟩
 have B:=hb0.trans ((hb1.trans (hb2.mono hb1.size)).mono hsz)
 have c0:=((B0.later hb1).later hb2).cell 0 (v:=.int .i64 k) rfl
 rw [hg] at c0
 have HS : Hid _:=s2
 have HB : Hid _:=b2
 clear hR s2 b2 B0 hb0 hw0 hg
 go_wp2
 go_ret
 exact ⟨g2,h2,rfl,HS.out,HB.out,B⟩
theorem Qss (w4 : World) (F1 F2 : Value) {base : Nat} (h : base ≤ w4.heap.size) (e : TypeId) : (w4.alloc (.cells #[F1,F2] e)).ownsRow base e 1 (.slice (some ⟨w4.heap.size,0,none⟩) 2 2) 2 [F1,F2] :=
 ⟨rfl,.inr ⟨w4.heap.size,2,#[F1,F2],rfl,h,heap_alloc_new _ _,by omega,by unfold maxLen; omega,rfl,rfl⟩⟩
theorem Qos {w : World} {base : Nat} {e : TypeId} {v F1 F2 F3 : Value} (h : w.ownsRow base e 1 v 3 [F1,F2,F3]) :
  ∃ h9 cap,v = .slice (some ⟨h9,0,none⟩) 3 cap ∧ w.cell? ⟨h9,0,none⟩ = some F1 ∧ w.cell? ⟨h9,1,none⟩ = some F2 ∧ w.cell? ⟨h9,2,none⟩ = some F3:=by
 rcases h.2 with ⟨_,hn⟩ | ⟨h9,cap,cur,rfl,_,hc,_,_,_,ht⟩
 ·exact absurd hn (by decide)
 ·have key : ∀ i,i < 3 → w.cell? ⟨h9,i,none⟩ = ([F1,F2,F3] : List Value)[i]?:=fun i hi => by
   rw [← ht,List.getElem?_take,if_pos (by omega),Array.getElem?_toList]
   unfold World.cell?
   rw [hc]
   rfl
  exact ⟨h9,cap,rfl,key 0 (by omega),key 1 (by omega),key 2 (by omega)⟩
theorem Qot : (Tryz.prog.info? 299).map (fun i => (i.zero,i.size,i.bytes)) = some (some .nilFunc,1,8):=by kernel_rfl
set_option maxRecDepth 100000 in
theorem Qou (ng : Bool) (num : ByteArray) (e : Int) (den : ByteArray) (h0 : 0 < num.size) (hs : num.size ≤ 65536) (e0 : -1073741824 ≤ e) (e1 : e ≤ 1073741824) (hd : ∀ c ∈ num.data.toList,isD c = true) (w : World) :
  Calls Tryz.prog 137 #[.agg (numC 1 ng num e den)] w fun r w' => ∃ h g gm ge gr c,r = .returned (.slice (some ⟨h,0,none⟩) 3 c) ∧ Roads3 w' h g gm ge gr ∧ Bk w' g 43 (numC 1 ng (str (shN 1 num.data.toList)) (shE 1 num.data.toList e) den) ∧
   w'.cell? ⟨gm,0,none⟩ = some (.int .u64 (cutV (trimR [48] num.data.toList))) ∧ w'.cell? ⟨ge,0,none⟩ = some (.int .i64 (e + num.data.toList.length - cutN (trimR [48] num.data.toList))) ∧ w'.cell? ⟨gr,0,none⟩ = some (.bool (cutMr (trimR [48] num.data.toList))) ∧ Below w.heap.size w w':=by
 obtain ⟨i_r,hi_r,hz0_r,hz1_r,hz2_r⟩:=info_parts Qot
 have hS:=fun w => Qik 1 ng num e den (by omega) hs e0 e1 w
 have hR:=fun w => Qen 1 ng (str (shN 1 num.data.toList)) (shE 1 num.data.toList e) den w
 have hT:=fun w => QfC num (by omega) h0 w
 obtain ⟨z,hz⟩:=Qfw num.data.toList
 have hlen : num.data.toList.length = (trimR [48] num.data.toList).length + z:=by
  have:=congrArg List.length hz
  rw [List.length_append,List.length_replicate] at this; exact this
 have hC:=fun w => Qlf (str (trimR [48] num.data.toList)) (by rw [Qad]; rw [← Lib.size_eq] at hlen; omega) w
 rw [Qab] at hC
 obtain ⟨_,_,_,_,_,hcn,_⟩:=QeG (l:=trimR [48] num.data.toList) (Qct.mpr (fun c hc => hd c (by rw [hz]; exact List.mem_append_left _ hc)))
 rw [← Lib.size_eq] at hlen
 rw [show (num.data.toList.length : Int) = (num.size : Int) by rw [← Lib.size_eq]]
 clear hz hd
 generalize str (shN 1 num.data.toList) = N at *
 generalize shE 1 num.data.toList e = E at *
 generalize (trimR [48] num.data.toList).length = L at *
 generalize cutN (trimR [48] num.data.toList) = cn at *
 generalize cutV (trimR [48] num.data.toList) = cv at *
 generalize cutMr (trimR [48] num.data.toList) = cm at *
 generalize cutE (trimR [48] num.data.toList) = ce at *
 generalize str (trimR [48] num.data.toList) = TR at *
 have wm1 : IntKind.i64.wrap (e + (num.size : Int)) = e + (num.size : Int):=wrapI (by omega) (by omega)
 have wm2 : IntKind.i64.wrap (e + (num.size : Int) - (cn : Int)) = e + (num.size : Int) - (cn : Int):=wrapI (by omega) (by omega)
 have hle : cn ≤ num.size:=by omega
 clear hlen hcn
 have B0:=Bk.new w 43 (numC 1 ng num e den)
 have hb0 : Below w.heap.size w (w.alloc (.cells (numC 1 ng num e den) 43)):=(Below.refl _ w).alloc (Nat.le_refl _) _
 obtain ⟨w0,hw0⟩ : ∃ w0,w0 = w.alloc (.cells (numC 1 ng num e den) 43):=⟨_,rfl⟩
 rw [← hw0] at B0 hb0
 obtain ⟨g,hg⟩ : ∃ g,g = w.heap.size:=⟨_,rfl⟩
 rw [← hg] at B0
 have hsz:=hb0.size
 unfold numC at hS hw0 hR ⊢
 go_enter Tryz.func137,Tryz.ntmps137
 go_wp2_with fail
 refine (hS _).mono ?_
 rintro r w1 ⟨rfl,hb1⟩
 rw [← hw0] at hb1
 clear hS
 go_wp2_with fail
 refine (hR _).mono ?_
 rintro r w2 ⟨g2,h2,rfl,s2,b2,hb2⟩
 have B:=hb0.trans ((hb1.trans (hb2.mono hb1.size)).mono hsz)
 have B2:=(B0.later hb1).later hb2
 rw [hg] at B2
 have c0:=B2.cell 0 (v:=.int .i64 1) rfl
 have c2:=B2.cell 2 (v:=.string num) rfl
 have c3:=B2.cell 3 (v:=.int .i64 e) rfl
 have HS : Hid (Slow1 w2 ⟨h2,0,none⟩ g2):=s2
 have HB : Hid (Bk w2 g2 43 (numC 1 ng N E den)):=b2
 have HL : Hid (w.heap.size < w2.heap.size):=B2.lt
 clear hR s2 b2 B0 hb0 hw0 hg hb1 hb2
 go_wp2_with fail
 refine (hT _).mono ?_
 rintro r w3 ⟨rfl,hw3⟩
 rw [hw3]
 clear hT hw3
 go_wp2_with fail
 refine (hC _).mono ?_
 rintro r w3 ⟨rfl,hb3⟩
 clear hC
 have B3:=B2.later hb3
 have d0:=B3.cell 0 (v:=.int .i64 1) rfl
 have d2:=B3.cell 2 (v:=.string num) rfl
 have d3:=B3.cell 3 (v:=.int .i64 e) rfl
 have hlt:=B3.lt
 clear c0 c2 c3 B2 B3
 obtain ⟨F1,hF1⟩ : ∃ F1,F1 = Value.func (Fn.func 214) #[] #[.pointer (some ⟨w3.heap.size,0,none⟩),.pointer (some ⟨w3.heap.size + 1 + 1,0,none⟩),.pointer (some ⟨w3.heap.size + 1,0,none⟩)]:=⟨_,rfl⟩
 obtain ⟨F2,hF2⟩ : ∃ F2,F2 = Value.func (Fn.func 216) #[] #[.pointer (some ⟨w3.heap.size,0,none⟩),.pointer (some ⟨w3.heap.size + 1 + 1,0,none⟩),.pointer (some ⟨w3.heap.size + 1,0,none⟩)]:=⟨_,rfl⟩
 obtain ⟨F3,hF3⟩ : ∃ F3,F3 = Value.func (Fn.func 269) #[] #[.pointer (some ⟨g2,0,none⟩)]:=⟨_,rfl⟩
 obtain ⟨W,hW⟩ : ∃ W,W = (((w3.alloc (.cells #[.int .u64 cv] 22)).alloc (.cells #[.bool cm] 4)).alloc (.cells #[.int .i64 (e + (num.size : Int) - (cn : Int))] 3)).alloc (.cells #[F1,F2] 299):=⟨_,rfl⟩
 have OWN : W.ownsRow w3.heap.size 299 1 (.slice (some ⟨w3.heap.size + 1 + 1 + 1,0,none⟩) 2 2) 2 [F1,F2]:=by
  have:=Qss (((w3.alloc (.cells #[.int .u64 cv] 22)).alloc (.cells #[.bool cm] 4)).alloc (.cells #[.int .i64 (e + (num.size : Int) - (cn : Int))] 3)) F1 F2 (base:=w3.heap.size) (by simp; omega) 299
  rw [← hW] at this
  simp only [World.size_alloc] at this
  exact this
 have hWb : Below w3.heap.size w3 W:=by
  rw [hW]
  exact ((((Below.refl _ w3).alloc (Nat.le_refl _) _).alloc (by simp) _).alloc (by simp; omega) _).alloc (by simp; omega) _
 have NEW : ∀ j u,([F3] : List Value)[j]? = some u → W.cell? ((⟨h2,0,none⟩ : Addr).add j) = some u:=by
  intro j u hj
  match j,hj with
  | 0,hj =>
   simp at hj
   subst hj
   have q : Slow1 w2 ⟨h2,0,none⟩ g2:=HS.out
   have l2:=Qbg q
   have l3:=hb3.size
   show W.cell? ⟨h2,0 + 0,none⟩ = _
   rw [Nat.add_zero,hWb.cell (p:=⟨h2,0,none⟩) (by show h2 < _; have : h2 < w2.heap.size:=l2; omega),hb3.cell (p:=⟨h2,0,none⟩) l2,hF3]
   exact q
 have ONE : ∀ u ∈ [F3],u.oneCell' = true:=by
  intro u hu; simp at hu; subst hu; rw [hF3]; rfl
 have HWS : W.heap.size = w3.heap.size + 1 + 1 + 1 + 1:=by rw [hW]; simp
 have a1 : Below w3.heap.size w3 (w3.alloc (.cells #[.int .u64 cv] 22)):=(Below.refl _ w3).alloc (Nat.le_refl _) _
 have GM : Bk W w3.heap.size 22 #[.int .u64 cv]:=by
  rw [hW]
  exact (((Bk.new w3 _ _).later ((Below.refl _ _).alloc (Nat.le_refl _) _)).later ((Below.refl _ _).alloc (Nat.le_refl _) _)).later ((Below.refl _ _).alloc (Nat.le_refl _) _)
 have GR : Bk W (w3.heap.size + 1) 4 #[.bool cm]:=by
  rw [hW]
  have:=((Bk.new (w3.alloc (.cells #[.int .u64 cv] 22)) 4 #[.bool cm]).later ((Below.refl _ _).alloc (Nat.le_refl _) (.cells #[.int .i64 (e + (num.size : Int) - (cn : Int))] 3))).later ((Below.refl _ _).alloc (Nat.le_refl _) (.cells #[F1,F2] 299))
  simp only [World.size_alloc] at this
  exact this
 have GE : Bk W (w3.heap.size + 1 + 1) 3 #[.int .i64 (e + (num.size : Int) - (cn : Int))]:=by
  rw [hW]
  have:=(Bk.new ((w3.alloc (.cells #[.int .u64 cv] 22)).alloc (.cells #[.bool cm] 4)) 3 #[.int .i64 (e + (num.size : Int) - (cn : Int))]).later ((Below.refl _ _).alloc (Nat.le_refl _) (.cells #[F1,F2] 299))
  simp only [World.size_alloc] at this
  exact this
 clear a1
 subst hF1 hF2
 subst hW
 go_wp2_with (first | (at_builtin; (refine wpList_append_own _ rfl _ _ 247 rfl w3.heap.size 299 i_r .nilFunc 1 8 Tryz.underlying247 hi_r hz0_r hz1_r hz2_r rfl (by decide) _ _ _ rfl OWN ⟨h2,0,none⟩ 1 1 [F3] rfl rfl NEW ONE (by unfold maxLen; omega) (by omega) (by omega) ?_)) | go_step)
 intro v' w' hown' hgrow hiff
 have hb' : Below w3.heap.size w3 w':=hWb.grown hgrow (by omega) (fun k hk => by
  have : some (w3.heap.size + 1 + 1 + 1) = some k:=hk
  simp only [Option.some.injEq] at this
  omega)
 obtain ⟨h9,cap,rfl,t0,t1,t2⟩:=Qos hown'
 have G0 : w'.cell? ⟨w3.heap.size,0,none⟩ = some (.int .u64 cv):=hgrow.cell (GM.cell 0 rfl) (by simp [Value.ownBlock]; omega)
 have G1 : w'.cell? ⟨w3.heap.size + 1,0,none⟩ = some (.bool cm):=hgrow.cell (GR.cell 0 rfl) (by simp [Value.ownBlock])
 have G2 : w'.cell? ⟨w3.heap.size + 1 + 1,0,none⟩ = some (.int .i64 (e + (num.size : Int) - (cn : Int))):=hgrow.cell (GE.cell 0 rfl) (by simp [Value.ownBlock])
 have HR : Hid (Roads3 w' h9 g2 w3.heap.size (w3.heap.size + 1 + 1) (w3.heap.size + 1)):=⟨t0,t1,t2⟩
 have B9:=B.trans ((hb3.trans (hb'.mono hb3.size)).mono B.size)
 have HB9 : Hid (Bk w' g2 43 (numC 1 ng N E den)):=(HB.out.later hb3).later hb'
 clear t0 t1 t2 hgrow hown' OWN NEW ONE HWS hWb hb' hb3 GM GR GE hiff d0 d2 d3
 go_wp2
 go_ret
 exact ⟨h9,g2,_,_,_,cap,rfl,HR.out,HB9.out,G0,G2,G1,B9⟩
def refE (k : Int) (num : B) (e : Int) (den : B) : Int:=if rightB k num e den = true then (if k = 3 ∧ den = [] then 50 else 0) else 110
theorem QqS {s : ByteArray} (h : s.data.toList = []) : s.toList.isEmpty = true:=by rw [Lib.toList_data,h]; rfl
theorem Qov {s : ByteArray} (h : s.data.toList ≠ []) : s.toList.isEmpty = false:=by
 rw [Lib.toList_data]
 cases q : s.data.toList with
 | nil => exact absurd q h
 | cons _ _ => rfl
set_option maxRecDepth 100000 in
theorem Qce (k : Int) (ng : Bool) (num : ByteArray) (e : Int) (den : ByteArray) (hn : num.size ≤ 9223372036854775807) (hd : den.size ≤ 9223372036854775807) (w : World) :
  Calls Tryz.prog 208 #[.agg (numC k ng num e den)] w fun r w' => r = .returned (.int .i64 (refE k num.data.toList e den.data.toList)) ∧ Below w.heap.size w w':=by
 have hC:=fun w => Qlk k ng num e den hn hd w
 have B0:=Bk.new w 43 (numC k ng num e den)
 have hb0 : Below w.heap.size w (w.alloc (.cells (numC k ng num e den) 43)):=(Below.refl _ w).alloc (Nat.le_refl _) _
 obtain ⟨w0,hw0⟩ : ∃ w0,w0 = w.alloc (.cells (numC k ng num e den) 43):=⟨_,rfl⟩
 rw [← hw0] at B0 hb0
 cases hr : rightB k num.data.toList e den.data.toList
 ·have HE : Hid (refE k num.data.toList e den.data.toList = 110):=by show _ = _; unfold refE; rw [hr]; rfl
  rw [hr,if_neg (by decide)] at hC
  rw [HE.out]
  unfold numC at hC hw0 ⊢
  clear hr
  go_enter Tryz.func208,Tryz.ntmps208
  go_wp2_with fail
  refine (hC _).mono ?_
  rintro r w1 ⟨rfl,hb1⟩
  rw [← hw0] at hb1
  have B:=hb0.trans (hb1.mono hb0.size)
  clear hC hw0
  go_wp2
  go_ret
  exact ⟨rfl,B⟩
 ·rw [hr,if_pos rfl] at hC
  by_cases hk : k = 3
  ·have t1 : (k == 3) = true:=QcL hk
   by_cases hden : den.data.toList = []
   ·have HE : Hid (refE k num.data.toList e den.data.toList = 50):=by show _ = _; unfold refE; rw [hr,if_pos rfl,if_pos ⟨hk,hden⟩]
    have t2:=QqS hden
    rw [HE.out]
    unfold numC at hC hw0 ⊢
    clear hr hk hden
    go_enter Tryz.func208,Tryz.ntmps208
    go_wp2_with fail
    refine (hC _).mono ?_
    rintro r w1 ⟨rfl,hb1⟩
    rw [← hw0] at hb1
    have B:=hb0.trans (hb1.mono hb0.size)
    have c0:=(B0.later hb1).cell 0 (v:=.int .i64 k) rfl
    have c4:=(B0.later hb1).cell 4 (v:=.string den) rfl
    clear hC hw0
    go_wp2
    go_ret
    exact ⟨rfl,B⟩
   ·have HE : Hid (refE k num.data.toList e den.data.toList = 0):=by show _ = _; unfold refE; rw [hr,if_pos rfl,if_neg (fun q => hden q.2)]
    have t2:=Qov hden
    rw [HE.out]
    unfold numC at hC hw0 ⊢
    clear hr hk hden
    go_enter Tryz.func208,Tryz.ntmps208
    go_wp2_with fail
    refine (hC _).mono ?_
    rintro r w1 ⟨rfl,hb1⟩
    rw [← hw0] at hb1
    have B:=hb0.trans (hb1.mono hb0.size)
    have c0:=(B0.later hb1).cell 0 (v:=.int .i64 k) rfl
    have c4:=(B0.later hb1).cell 4 (v:=.string den) rfl
    clear hC hw0
    go_wp2
    go_ret
    exact ⟨rfl,B⟩
  ·have t1 : (k == 3) = false:=QaC hk
   have HE : Hid (refE k num.data.toList e den.data.toList = 0):=by show _ = _; unfold refE; rw [hr,if_pos rfl,if_neg (fun q => hk q.1)]
   rw [HE.out]
   unfold numC at hC hw0 ⊢
   clear hr hk
   go_enter Tryz.func208,Tryz.ntmps208
   go_wp2_with fail
   refine (hC _).mono ?_
   rintro r w1 ⟨rfl,hb1⟩
   rw [← hw0] at hb1
   have B:=hb0.trans (hb1.mono hb0.size)
   have c0:=(B0.later hb1).cell 0 (v:=.int .i64 k) rfl
   clear hC hw0
   go_wp2
   go_ret
   exact ⟨rfl,B⟩
def PatIs (Q : Int → Int → Prop) (ng : Bool) (b E : Int) : Prop:=∃ m F,Q m F ∧ ((F ≠ 0 ∧ b = 0 ∧ E = F) ∨ (F = 0 ∧ E = 0 ∧ b = m + sgB ng))
theorem Qgq {m : Int} (h0 : 0 ≤ m) (h1 : m ≤ mostP) : negW m = m + 9223372036854775808 ∧ U (m + 9223372036854775808) ∧ U m:=by
 have : mostP = 9218868437227405311:=rfl
 unfold negW U
 omega
set_option maxRecDepth 100000 in
theorem Qec (k : Int) (ng : Bool) (num : ByteArray) (e : Int) (den : ByteArray) (hn : num.size ≤ 9223372036854775807) (hd : den.size ≤ 9223372036854775807) (hE : refE k num.data.toList e den.data.toList ≠ 0) (w : World) :
  Calls Tryz.prog 136 #[.agg (numC k ng num e den),.func (.func 137) #[] #[]] w fun r w' => r = .returned (.tuple #[.int .u64 0,.int .i64 (refE k num.data.toList e den.data.toList)]) ∧ Below w.heap.size w w':=by
 have hR:=fun w => Qce k ng num e den hn hd w
 have B0:=Bk.new w 43 (numC k ng num e den)
 have hb0 : Below w.heap.size w (w.alloc (.cells (numC k ng num e den) 43)):=(Below.refl _ w).alloc (Nat.le_refl _) _
 obtain ⟨w0,hw0⟩ : ∃ w0,w0 = w.alloc (.cells (numC k ng num e den) 43):=⟨_,rfl⟩
 rw [← hw0] at B0 hb0
 generalize refE k num.data.toList e den.data.toList = F at *
 have t : (F != 0) = true:=Qas hE
 unfold numC at hR hw0 ⊢
 clear hE
 go_enter Tryz.func136,Tryz.ntmps136
 go_wp2_with fail
 refine (hR _).mono ?_
 rintro r w1 ⟨rfl,hb1⟩
 rw [← hw0] at hb1
 have B:=hb0.trans (hb1.mono hb0.size)
 clear hR hw0
 go_wp2
 go_ret2
 exact ⟨rfl,B⟩
set_option maxRecDepth 100000 in
theorem QfD (k : Int) (ng : Bool) (num : ByteArray) (e : Int) (den : ByteArray) (hn : num.size ≤ 9223372036854775807) (hd : den.size ≤ 9223372036854775807) (hE : refE k num.data.toList e den.data.toList = 0) (hz : num.data.toList = []) (w : World) :
  Calls Tryz.prog 136 #[.agg (numC k ng num e den),.func (.func 137) #[] #[]] w fun r w' => r = .returned (.tuple #[.int .u64 (sgB ng),.int .i64 0]) ∧ Below w.heap.size w w':=by
 have hR:=fun w => Qce k ng num e den hn hd w
 have B0:=Bk.new w 43 (numC k ng num e den)
 have hb0 : Below w.heap.size w (w.alloc (.cells (numC k ng num e den) 43)):=(Below.refl _ w).alloc (Nat.le_refl _) _
 obtain ⟨w0,hw0⟩ : ∃ w0,w0 = w.alloc (.cells (numC k ng num e den) 43):=⟨_,rfl⟩
 rw [← hw0] at B0 hb0
 rw [hE] at hR
 have t:=QqS hz
 have hN:=fun w => QbW (b:=0) Qan w
 have e0 : negW 0 = 9223372036854775808:=by decide
 rw [e0] at hN
 unfold numC at hR hw0 ⊢
 clear hE hz
 cases ng
 ·go_enter Tryz.func136,Tryz.ntmps136
  go_wp2_with fail
  refine (hR _).mono ?_
  rintro r w1 ⟨rfl,hb1⟩
  rw [← hw0] at hb1
  have B:=hb0.trans (hb1.mono hb0.size)
  have c2:=(B0.later hb1).cell 2 (v:=.string num) rfl
  have c1:=(B0.later hb1).cell 1 (v:=.bool false) rfl
  clear hR hw0 hN
  go_wp2
  go_ret2
  exact ⟨rfl,B⟩
 ·go_enter Tryz.func136,Tryz.ntmps136
  go_wp2_with fail
  refine (hR _).mono ?_
  rintro r w1 ⟨rfl,hb1⟩
  rw [← hw0] at hb1
  have B:=hb0.trans (hb1.mono hb0.size)
  have c2:=(B0.later hb1).cell 2 (v:=.string num) rfl
  have c1:=(B0.later hb1).cell 1 (v:=.bool true) rfl
  clear hR hw0
  go_wp2_with fail
  refine (hN _).mono ?_
  rintro r w2 ⟨rfl,hw2⟩
  subst hw2
  clear hN
  go_wp2
  go_ret2
  exact ⟨rfl,B⟩
set_option maxRecDepth 100000 in
theorem Qil (k : Int) (ng : Bool) (num : ByteArray) (e : Int) (den : ByteArray) (hn : num.size ≤ 9223372036854775807) (hd : den.size ≤ 9223372036854775807) (hE : refE k num.data.toList e den.data.toList = 0) (hz : num.data.toList ≠ []) {Q : Int → Int → Prop} (num' : ByteArray) (e' : Int) (hQ : ∀ m F,Q m F → (F = 70 ∧ m = 0) ∨ (F = 0 ∧ 0 ≤ m ∧ m ≤ mostP))
  (hRo : ∀ w,Calls Tryz.prog 137 #[.agg (numC k ng num e den)] w fun r w' => ∃ g h,r = .returned (.slice (some ⟨h,0,none⟩) 1 1) ∧ Slow1 w' ⟨h,0,none⟩ g ∧ Bk w' g 43 (numC k ng num' e' den) ∧ Below w.heap.size w w')
  (w : World) (hSl : ∀ g w1,Below w.heap.size w w1 → Bk w1 g 43 (numC k ng num' e' den) → Calls Tryz.prog 269 #[.pointer (some ⟨g,0,none⟩)] w1 fun r w' => ∃ b E,r = .returned (.tuple #[.int .u64 b,.int .i64 E]) ∧ Q b E ∧ U b ∧ Below w1.heap.size w1 w') :
  Calls Tryz.prog 136 #[.agg (numC k ng num e den),.func (.func 137) #[] #[]] w fun r w' => ∃ b E,r = .returned (.tuple #[.int .u64 b,.int .i64 E]) ∧ PatIs Q ng b E ∧ U b ∧ Below w.heap.size w w':=by
 have hR:=fun w => Qce k ng num e den hn hd w
 have B0:=Bk.new w 43 (numC k ng num e den)
 have hb0 : Below w.heap.size w (w.alloc (.cells (numC k ng num e den) 43)):=(Below.refl _ w).alloc (Nat.le_refl _) _
 obtain ⟨w0,hw0⟩ : ∃ w0,w0 = w.alloc (.cells (numC k ng num e den) 43):=⟨_,rfl⟩
 rw [← hw0] at B0 hb0
 rw [hE] at hR
 have t:=Qov hz
 unfold numC at hR hw0 hRo ⊢
 clear hE hz
 go_enter Tryz.func136,Tryz.ntmps136
 go_wp2_with fail
 refine (hR _).mono ?_
 rintro r w1 ⟨rfl,hb1⟩
 rw [← hw0] at hb1
 have B:=hb0.trans (hb1.mono hb0.size)
 have B1:=B0.later hb1
 have c0:=B1.cell 0 (v:=.int .i64 k) rfl
 have c1:=B1.cell 1 (v:=.bool ng) rfl
 have c2:=B1.cell 2 (v:=.string num) rfl
 have c3:=B1.cell 3 (v:=.int .i64 e) rfl
 have c4:=B1.cell 4 (v:=.string den) rfl
 clear hR hw0 hb0 hb1 B0
 go_wp2_with fail
 refine (hRo _).mono ?_
 rintro r w2 ⟨g,h,rfl,s2,b2,hb2⟩
 have B:=B.trans (hb2.mono B.size)
 have c1:=(B1.later hb2).cell 1 (v:=.bool ng) rfl
 have hFi:=Qlq s2 (hSl g w2 B b2)
 have B2:=B1.later hb2
 clear hRo hSl s2 b2 c0 c2 c3 c4 hb2 B1
 go_wp2_with fail
 refine hFi.mono ?_
 rintro r w3 ⟨b,F,rfl,hq,ub,hb3⟩
 have B:=B.trans (hb3.mono B.size)
 have c1:=(B2.later hb3).cell 1 (v:=.bool ng) rfl
 clear B2 hb3
 clear hFi
 rcases hQ b F hq with ⟨rfl,rfl⟩ | ⟨rfl,q0,q1⟩
 ·have HQ : Hid (PatIs Q ng 0 70):=⟨0,70,hq,Or.inl ⟨by decide,rfl,rfl⟩⟩
  clear hq hQ
  go_wp2
  go_ret2
  exact ⟨_,_,rfl,HQ.out,Qan,B⟩
 ·obtain ⟨en,u1,u2⟩:=Qgq q0 q1
  have hN:=fun w => QbW (b:=b) ub w
  rw [en] at hN
  have HQ : Hid (PatIs Q ng (b + sgB ng) 0):=⟨b,0,hq,Or.inr ⟨rfl,rfl,rfl⟩⟩
  clear hq hQ en
  cases ng
  ·have HQ' : Hid (PatIs Q false b 0):=by
    have:=HQ.out
    rw [show sgB false = 0 from rfl,Int.add_zero] at this
    exact this
   clear HQ hN
   go_wp2
   go_ret2
   exact ⟨_,_,rfl,HQ'.out,u2,B⟩
  ·have HQ' : Hid (PatIs Q true (b + 9223372036854775808) 0):=HQ.out
   clear HQ
   go_wp2_with fail
   refine (hN _).mono ?_
   rintro r w4 ⟨rfl,hw4⟩
   subst hw4
   clear hN
   go_wp2
   go_ret2
   exact ⟨_,_,rfl,HQ'.out,u1,B⟩
set_option maxRecDepth 100000 in
theorem Qst (k : Int) (ng : Bool) (num : ByteArray) (e : Int) (den : ByteArray) (hn : num.size ≤ 9223372036854775807) (hd : den.size ≤ 9223372036854775807) (hE : refE k num.data.toList e den.data.toList = 0) (hz : num.data.toList ≠ []) {Q Q1 Q2 : Int → Int → Prop} (num' : ByteArray) (e' cv ce : Int) (cm : Bool) (hQ : ∀ m F,Q m F → (F = 70 ∧ m = 0) ∨ (F = 0 ∧ 0 ≤ m ∧ m ≤ mostP))
  (hRo : ∀ w,Calls Tryz.prog 137 #[.agg (numC k ng num e den)] w fun r w' => ∃ h g gm ge gr c,r = .returned (.slice (some ⟨h,0,none⟩) 3 c) ∧ Roads3 w' h g gm ge gr ∧ Bk w' g 43 (numC k ng num' e' den) ∧ w'.cell? ⟨gm,0,none⟩ = some (.int .u64 cv) ∧ w'.cell? ⟨ge,0,none⟩ = some (.int .i64 ce) ∧ w'.cell? ⟨gr,0,none⟩ = some (.bool cm) ∧ Below w.heap.size w w')
  (w : World) (hSl : ∀ g w1,Below w.heap.size w w1 → Bk w1 g 43 (numC k ng num' e' den) → Calls Tryz.prog 269 #[.pointer (some ⟨g,0,none⟩)] w1 fun r w' => ∃ b E,r = .returned (.tuple #[.int .u64 b,.int .i64 E]) ∧ Q b E ∧ U b ∧ Below w1.heap.size w1 w')
  (hR1 : ∀ gm ge gr w1,Below w.heap.size w w1 → w1.cell? ⟨gm,0,none⟩ = some (.int .u64 cv) → w1.cell? ⟨ge,0,none⟩ = some (.int .i64 ce) → w1.cell? ⟨gr,0,none⟩ = some (.bool cm) → Calls Tryz.prog 214 #[.pointer (some ⟨gm,0,none⟩),.pointer (some ⟨ge,0,none⟩),.pointer (some ⟨gr,0,none⟩)] w1 fun r w' => ∃ b E,r = .returned (.tuple #[.int .u64 b,.int .i64 E]) ∧ Q1 b E ∧ U b ∧ Below w1.heap.size w1 w')
  (hR2 : ∀ gm ge gr w1,Below w.heap.size w w1 → w1.cell? ⟨gm,0,none⟩ = some (.int .u64 cv) → w1.cell? ⟨ge,0,none⟩ = some (.int .i64 ce) → w1.cell? ⟨gr,0,none⟩ = some (.bool cm) → Calls Tryz.prog 216 #[.pointer (some ⟨gm,0,none⟩),.pointer (some ⟨ge,0,none⟩),.pointer (some ⟨gr,0,none⟩)] w1 fun r w' => ∃ b E,r = .returned (.tuple #[.int .u64 b,.int .i64 E]) ∧ Q2 b E ∧ U b ∧ Below w1.heap.size w1 w')
  (k1 : ∀ b E,Q1 b E → E ≠ 100 → Q b E) (k2 : ∀ b E,Q2 b E → E ≠ 100 → Q b E) :
  Calls Tryz.prog 136 #[.agg (numC k ng num e den),.func (.func 137) #[] #[]] w fun r w' => ∃ b E,r = .returned (.tuple #[.int .u64 b,.int .i64 E]) ∧ PatIs Q ng b E ∧ U b ∧ Below w.heap.size w w':=by
 have hR:=fun w => Qce k ng num e den hn hd w
 have B0:=Bk.new w 43 (numC k ng num e den)
 have hb0 : Below w.heap.size w (w.alloc (.cells (numC k ng num e den) 43)):=(Below.refl _ w).alloc (Nat.le_refl _) _
 obtain ⟨w0,hw0⟩ : ∃ w0,w0 = w.alloc (.cells (numC k ng num e den) 43):=⟨_,rfl⟩
 rw [← hw0] at B0 hb0
 rw [hE] at hR
 have t:=Qov hz
 unfold numC at hR hw0 hRo ⊢
 clear hE hz
 go_enter Tryz.func136,Tryz.ntmps136
 go_wp2_with fail
 refine (hR _).mono ?_
 rintro r w1 ⟨rfl,hb1⟩
 rw [← hw0] at hb1
 have B:=hb0.trans (hb1.mono hb0.size)
 have B1:=B0.later hb1
 have c0:=B1.cell 0 (v:=.int .i64 k) rfl
 have c1:=B1.cell 1 (v:=.bool ng) rfl
 have c2:=B1.cell 2 (v:=.string num) rfl
 have c3:=B1.cell 3 (v:=.int .i64 e) rfl
 have c4:=B1.cell 4 (v:=.string den) rfl
 clear hR hw0 hb0 hb1 B0
 go_wp2_with fail
 refine (hRo _).mono ?_
 rintro r w2 ⟨h,g,gm,ge,gr,c,rfl,s2,b2,z1,z2,z3,hb2⟩
 have B:=B.trans (hb2.mono B.size)
 have c1:=(B1.later hb2).cell 1 (v:=.bool ng) rfl
 have lt1:=Qbg z1
 have lt2:=Qbg z2
 have lt3:=Qbg z3
 have cs : ∀ w3,Below w2.heap.size w2 w3 → w3.cell? ⟨gm,0,none⟩ = some (.int .u64 cv) ∧ w3.cell? ⟨ge,0,none⟩ = some (.int .i64 ce) ∧ w3.cell? ⟨gr,0,none⟩ = some (.bool cm):=fun w3 q =>
  ⟨by rw [q.cell (p:=⟨gm,0,none⟩) lt1]; exact z1,by rw [q.cell (p:=⟨ge,0,none⟩) lt2]; exact z2,by rw [q.cell (p:=⟨gr,0,none⟩) lt3]; exact z3⟩
 have hFi:=Qlr (c:=c) s2 (Q1:=Q1) (Q2:=Q2) (Q:=Q) (fun w3 q => hR1 gm ge gr w3 (B.trans (q.mono B.size)) (cs w3 q).1 (cs w3 q).2.1 (cs w3 q).2.2) (fun w3 q => hR2 gm ge gr w3 (B.trans (q.mono B.size)) (cs w3 q).1 (cs w3 q).2.1 (cs w3 q).2.2) (fun w3 q => hSl g w3 (B.trans (q.mono B.size)) (b2.later q)) k1 k2
 have B2:=B1.later hb2
 clear hRo hSl s2 b2 c0 c2 c3 c4 hb2 B1 k1 k2 hR1 hR2 z1 z2 z3 cs lt1 lt2 lt3
 go_wp2_with fail
 refine hFi.mono ?_
 rintro r w3 ⟨b,F,rfl,hq,ub,hb3⟩
 have B:=B.trans (hb3.mono B.size)
 have c1:=(B2.later hb3).cell 1 (v:=.bool ng) rfl
 clear B2 hb3
 clear hFi
 rcases hQ b F hq with ⟨rfl,rfl⟩ | ⟨rfl,q0,q1⟩
 ·have HQ : Hid (PatIs Q ng 0 70):=⟨0,70,hq,Or.inl ⟨by decide,rfl,rfl⟩⟩
  clear hq hQ
  go_wp2
  go_ret2
  exact ⟨_,_,rfl,HQ.out,Qan,B⟩
 ·obtain ⟨en,u1,u2⟩:=Qgq q0 q1
  have hN:=fun w => QbW (b:=b) ub w
  rw [en] at hN
  have HQ : Hid (PatIs Q ng (b + sgB ng) 0):=⟨b,0,hq,Or.inr ⟨rfl,rfl,rfl⟩⟩
  clear hq hQ en
  cases ng
  ·have HQ' : Hid (PatIs Q false b 0):=by
    have:=HQ.out
    rw [show sgB false = 0 from rfl,Int.add_zero] at this
    exact this
   clear HQ hN
   go_wp2
   go_ret2
   exact ⟨_,_,rfl,HQ'.out,u2,B⟩
  ·have HQ' : Hid (PatIs Q true (b + 9223372036854775808) 0):=HQ.out
   clear HQ
   go_wp2_with fail
   refine (hN _).mono ?_
   rintro r w4 ⟨rfl,hw4⟩
   subst hw4
   clear hN
   go_wp2
   go_ret2
   exact ⟨_,_,rfl,HQ'.out,u1,B⟩
namespace Lx
set_option maxRecDepth 100000 in
theorem Qqj : ∀ b : Fin 256,smal9.contains (UInt8.ofNat b.val) = true → valN ((UInt8.ofNat b.val).toNat : Int) < 16:=by decide
theorem Qqk {c : UInt8} (h : smal9.contains c = true) : valN (c.toNat : Int) < 16:=by
 have:=Qqj ⟨c.toNat,c.toNat_lt⟩
 simp only [UInt8.ofNat_toNat] at this
 exact this h
set_option maxRecDepth 100000 in
theorem Qql : ∀ b : Fin 256,digs9.contains (UInt8.ofNat b.val) = true → isD (UInt8.ofNat b.val) = true:=by decide
theorem Qqm {c : UInt8} (h : digs9.contains c = true) : isD c = true:=by
 have:=Qql ⟨c.toNat,c.toNat_lt⟩
 simp only [UInt8.ofNat_toNat] at this
 exact this h
theorem Qow {l : B} (h : fst [48] l = false) (hn : l ≠ []) : lead l:=by
 cases l with
 | nil => exact absurd rfl hn
 | cons c r =>
  refine ⟨c,r,rfl,fun hc => ?_⟩
  subst hc
  simp [fst] at h
theorem QeA {l : B} (h : keptB digs9 l = true) (hn : l ≠ []) : l.length ≤ 65536 ∧ lead l ∧ (∀ c ∈ l,isD c = true) ∧ 0 < l.length:=by
 unfold keptB at h
 simp only [Bool.and_eq_true,decide_eq_true_eq,Bool.not_eq_true',List.all_eq_true] at h
 exact ⟨h.1,Qow h.2.1 hn,fun c hc => Qqm (h.2.2 c hc),List.length_pos_iff.mpr hn⟩
theorem Qqn {l : B} (h : keptB smal9 l = true) (hn : l ≠ []) : l.length ≤ 65536 ∧ lead l ∧ okB 16 l ∧ 0 < l.length:=by
 unfold keptB at h
 simp only [Bool.and_eq_true,decide_eq_true_eq,Bool.not_eq_true',List.all_eq_true] at h
 exact ⟨h.1,Qow h.2.1 hn,fun c hc => Qqk (h.2.2 c hc),List.length_pos_iff.mpr hn⟩
theorem Qox {e : Int} (h : withB e = true) : -1073741824 ≤ e ∧ e ≤ 1073741824:=by
 unfold withB at h
 simpa using h
theorem QcZ {k e : Int} {num den : B} (h : rightB k num e den = true) :
  (k = 1 ∧ keptB digs9 num = true ∧ den = [] ∧ withB e = true) ∨ (k = 2 ∧ keptB smal9 num = true ∧ den = [] ∧ withB e = true) ∨ (k = 3 ∧ keptB digs9 num = true ∧ keptB digs9 den = true ∧ e = 0):=by
 unfold rightB at h
 by_cases h1 : k = 1
 ·rw [if_pos h1] at h
  simp only [Bool.and_eq_true,List.isEmpty_iff] at h
  exact Or.inl ⟨h1,h.1,h.2.1,h.2.2⟩
 ·rw [if_neg h1] at h
  by_cases h2 : k = 2
  ·rw [if_pos h2] at h
   simp only [Bool.and_eq_true,List.isEmpty_iff] at h
   exact Or.inr (Or.inl ⟨h2,h.1,h.2.1,h.2.2⟩)
  ·rw [if_neg h2] at h
   by_cases h3 : k = 3
   ·rw [if_pos h3] at h
    simp only [Bool.and_eq_true,decide_eq_true_eq] at h
    exact Or.inr (Or.inr ⟨h3,h.1,h.2.1,h.2.2⟩)
   ·rw [if_neg h3] at h
    cases h
end Lx
def BitsIs (k : Int) (ng : Bool) (num : B) (e : Int) (den : B) (b E : Int) : Prop :=
 (refE k num e den ≠ 0 ∧ b = 0 ∧ E = refE k num e den) ∨ (refE k num e den = 0 ∧ num = [] ∧ b = sgB ng ∧ E = 0) ∨ (refE k num e den = 0 ∧ num ≠ [] ∧ PatIs (ValIs k num e den) ng b E)
theorem Qed {k e : Int} {num den : B} (h : refE k num e den = 0) : rightB k num e den = true ∧ ¬ (k = 3 ∧ den = []):=by
 unfold refE at h
 cases hr : rightB k num e den
 ·rw [hr,if_neg (by decide)] at h; exact absurd h (by decide)
 ·rw [hr,if_pos rfl] at h
  refine ⟨rfl,fun q => ?_⟩
  rw [if_pos q] at h
  exact absurd h (by decide)
theorem Qc0 {den : B} (h : keptB digs9 den = true) (hn : den ≠ []) : 0 < nv 10 den:=by
 have:=(QeA h hn).2.1.ge (b:=10) (by omega)
 have p : (0 : Int) < 10 ^ (den.length - 1):=Int.pow_pos (by omega)
 omega
theorem Qqo {k e m F : Int} {num den : B} (h : refE k num e den = 0) (q : ValIs k num e den m F) : (F = 70 ∧ m = 0) ∨ (F = 0 ∧ 0 ≤ m ∧ m ≤ mostP):=by
 obtain ⟨hr,h3⟩:=Qed h
 have key : ∀ {A B : Int},0 < B → RoundIs A B false false 0 m F → (F = 70 ∧ m = 0) ∨ (F = 0 ∧ 0 ≤ m ∧ m ≤ mostP):=fun hB hq => by
  rcases Qd6 hB hq with ⟨a,b,_⟩ | ⟨a,b,c,_⟩
  ·exact Or.inl ⟨a,b⟩
  ·exact Or.inr ⟨a,b,c⟩
 unfold ValIs at q
 rcases QcZ hr with ⟨rfl,_⟩ | ⟨rfl,_⟩ | ⟨rfl,_,hd,_⟩
 ·rw [if_pos rfl] at q
  exact key (Qam (Qbd e)) q
 ·rw [if_neg (by decide),if_pos rfl] at q
  exact key (Qam (by omega)) q
 ·rw [if_neg (by decide),if_neg (by decide)] at q
  exact key (Qam (Qc0 hd (fun q => h3 ⟨rfl,q⟩))) q
theorem Qqp {k e m F m' F' : Int} {num den : B} (h : refE k num e den = 0) (q : ValIs k num e den m F) (q' : ValIs k num e den m' F') : m = m' ∧ F = F':=by
 obtain ⟨hr,h3⟩:=Qed h
 unfold ValIs at q q'
 rcases QcZ hr with ⟨rfl,_⟩ | ⟨rfl,_⟩ | ⟨rfl,_,hd,_⟩
 ·rw [if_pos rfl] at q q'
  exact Qjd q q'
 ·rw [if_neg (by decide),if_pos rfl] at q q'
  exact QaG (Qam (by omega)) q q'
 ·rw [if_neg (by decide),if_neg (by decide)] at q q'
  exact QaG (Qam (Qc0 hd (fun q => h3 ⟨rfl,q⟩))) q q'
theorem Qim {k e b E b' E' : Int} {ng : Bool} {num den : B} (h : BitsIs k ng num e den b E) (h' : BitsIs k ng num e den b' E') : b = b' ∧ E = E':=by
 rcases h with ⟨a1,a2,a3⟩ | ⟨a1,a2,a3,a4⟩ | ⟨a1,a2,m,F,a3,a4⟩ <;> rcases h' with ⟨c1,c2,c3⟩ | ⟨c1,c2,c3,c4⟩ | ⟨c1,c2,m',F',c3,c4⟩
 ·exact ⟨a2.trans c2.symm,a3.trans c3.symm⟩
 ·exact absurd c1 a1
 ·exact absurd c1 a1
 ·exact absurd a1 c1
 ·exact ⟨a3.trans c3.symm,a4.trans c4.symm⟩
 ·exact absurd a2 c2
 ·exact absurd a1 c1
 ·exact absurd c2 a2
 ·obtain ⟨rfl,rfl⟩:=Qqp a1 a3 c3
  rcases a4 with ⟨x1,x2,x3⟩ | ⟨x1,x2,x3⟩ <;> rcases c4 with ⟨y1,y2,y3⟩ | ⟨y1,y2,y3⟩
  ·exact ⟨x2.trans y2.symm,x3.trans y3.symm⟩
  ·exact absurd y1 x1
  ·exact absurd x1 y1
  ·exact ⟨x3.trans y3.symm,x2.trans y2.symm⟩
theorem Qsu {l : B} (h : ∀ c ∈ l,isD c = true) (k : Int) : ∀ c ∈ shN k l,isD c = true:=fun c hc => by
 unfold shN at hc
 split at hc
 ·exact h c hc
 ·split at hc
  ·exact h c (List.mem_of_mem_take hc)
  ·rcases List.mem_append.mp hc with hc | hc
   ·exact h c (List.mem_of_mem_take hc)
   ·rw [List.mem_singleton.mp hc]; rfl
theorem Qsv {l : B} (h : okB 16 l) (k : Int) : okB 16 (shN k l):=fun c hc => by
 unfold shN at hc
 split at hc
 ·exact h c hc
 ·split at hc
  ·exact h c (List.mem_of_mem_take hc)
  ·rcases List.mem_append.mp hc with hc | hc
   ·exact h c (List.mem_of_mem_take hc)
   ·rw [List.mem_singleton.mp hc]; decide
theorem Qg8 {l : B} (h : lead l) (k : Int) : lead (shN k l):=by
 unfold shN
 split
 ·exact h
 ·have:=h.take (n:=768) (by omega)
  split
  ·exact this
  ·obtain ⟨c,r,e,hc⟩:=this
   exact ⟨c,r ++ [49],by rw [e]; rfl,hc⟩
theorem Qoy {l : B} (h : l.length ≤ 65536) (k : Int) : (shN k l).length ≤ 65536:=by
 unfold shN
 split
 ·exact h
 ·split
  ·rw [List.length_take]; omega
  ·rw [List.length_append,List.length_take,List.length_singleton]; omega
theorem QqT {l : B} (h : l.length ≤ 65536) {k e : Int} (h0 : -1073741824 ≤ e) (h1 : e ≤ 1073741824) : -2000000000 ≤ shE k l e ∧ shE k l e ≤ 2000000000:=by
 have hp : 0 ≤ perD k ∧ perD k ≤ 4:=by unfold perD; split <;> omega
 have key : ∀ n : Nat,n ≤ 65536 → 0 ≤ (n : Int) * perD k ∧ (n : Int) * perD k ≤ 65536 * 4:=fun n hn => ⟨Int.mul_nonneg (by omega) hp.1,Int.mul_le_mul (by omega) hp.2 hp.1 (by omega)⟩
 unfold shE
 split
 ·omega
 ·split
  ·have:=key (l.length - 768) (by omega); omega
  ·have:=key (l.length - 769) (by omega); omega
theorem Qg9 (k : Int) (ng : Bool) (num : ByteArray) (e : Int) (den : ByteArray) (hn : num.size ≤ 9223372036854775807) (hd : den.size ≤ 9223372036854775807) {w : World} (hG : GrVar w) (hT : TenVar w) :
  Calls Tryz.prog 136 #[.agg (numC k ng num e den),.func (.func 137) #[] #[]] w fun r w' => ∃ b E,r = .returned (.tuple #[.int .u64 b,.int .i64 E]) ∧ BitsIs k ng num.data.toList e den.data.toList b E ∧ U b ∧ Below w.heap.size w w':=by
 by_cases hE : refE k num.data.toList e den.data.toList = 0
 ·by_cases hz : num.data.toList = []
  ·refine (QfD k ng num e den hn hd hE hz w).mono ?_
   rintro r w' ⟨rfl,hb⟩
   exact ⟨_,_,rfl,Or.inr (Or.inl ⟨hE,hz,rfl,rfl⟩),by unfold U; cases ng <;> decide,hb⟩
  ·obtain ⟨hr,h3⟩:=Qed hE
   have fin : ∀ {r : Ending} {w' : World},(∃ b E,r = .returned (.tuple #[.int .u64 b,.int .i64 E]) ∧ PatIs (ValIs k num.data.toList e den.data.toList) ng b E ∧ U b ∧ Below w.heap.size w w') → ∃ b E,r = .returned (.tuple #[.int .u64 b,.int .i64 E]) ∧ BitsIs k ng num.data.toList e den.data.toList b E ∧ U b ∧ Below w.heap.size w w':=fun {r w'} ⟨b,E,q1,q2,q3,q4⟩ => ⟨b,E,q1,Or.inr (Or.inr ⟨hE,hz,q2⟩),q3,q4⟩
   have sz : num.size = num.data.toList.length:=Lib.size_eq num
   have sd : den.size = den.data.toList.length:=Lib.size_eq den
   have vo:=fun m F q => Qqo (m:=m) (F:=F) hE q
   rcases QcZ hr with ⟨rfl,q1,q2,q3⟩ | ⟨rfl,q1,q2,q3⟩ | ⟨rfl,q1,q2,q3⟩
   ·obtain ⟨k1,k2,k3,k4⟩:=QeA q1 hz
    obtain ⟨x0,x1⟩:=Qox q3
    obtain ⟨y0,y1⟩:=QqT k1 (k:=1) x0 x1
    obtain ⟨t,n1,n2,n3,n4,n5,n6⟩:=Qii k3
    have VI : ∀ b E,ValIs 1 num.data.toList e den.data.toList b E ↔ ExIs (nv 10 num.data.toList) e b E:=fun b E => by unfold ValIs; rw [if_pos rfl]
    refine (Qst 1 ng num e den hn hd hE hz (Q:=ValIs 1 num.data.toList e den.data.toList) (Q1:=Road1 (cutV (trimR [48] num.data.toList)) (e + num.data.toList.length - cutN (trimR [48] num.data.toList)) (cutMr (trimR [48] num.data.toList))) (Q2:=Road2 (cutV (trimR [48] num.data.toList)) (e + num.data.toList.length - cutN (trimR [48] num.data.toList)) (cutMr (trimR [48] num.data.toList))) (str (shN 1 num.data.toList)) (shE 1 num.data.toList e) (cutV (trimR [48] num.data.toList)) (e + num.data.toList.length - cutN (trimR [48] num.data.toList)) (cutMr (trimR [48] num.data.toList)) vo (fun w => Qou ng num e den (by omega) (by omega) x0 x1 k3 w) w (fun g w1 hb1 B => ?_) (fun gm ge gr w1 hb1 c1 c2 c3 => ?_) (fun gm ge gr w1 hb1 c1 c2 c3 => ?_) (fun b E h hE => ?_) (fun b E h hE => ?_)).mono fun r w' q => fin q
    ·have hge:=(Qg8 k2 1).ge (b:=10) (by omega)
     refine (Qon B (by rw [Qad]; exact (Qg8 k2 1).pos) (by rw [Qad]; exact Qoy k1 1) (by rw [Qab]; exact Qg5 (Qsu k3 1)) (by rw [Qad,Qab]; exact hge) y0 y1 (hG.later hb1)).mono ?_
     rintro r w' ⟨b,E,rfl,h1,h2,h3⟩
     rw [Qab,Qoq (Qg5 k3) k2] at h1
     exact ⟨b,E,rfl,(VI b E).mpr h1,h2,h3⟩
    ·exact Qoo c1 c2 c3 (by unfold U; omega) (by omega) (by omega) (hT.later hb1)
    ·exact Qop c1 c2 c3 n5 n6 (by omega) (by omega)
    ·rcases h with h | ⟨h,h'⟩
     ·exact absurd h hE
     ·exact (VI b E).mpr (Qkr k3 h' (fun q => by rw [h] at q; cases q))
    ·rcases h with h | ⟨h,h'⟩
     ·exact absurd h hE
     ·exact (VI b E).mpr (Qkr k3 h h')
   ·obtain ⟨k1,k2,k3,k4⟩:=Qqn q1 hz
    obtain ⟨x0,x1⟩:=Qox q3
    obtain ⟨y0,y1⟩:=QqT k1 (k:=2) x0 x1
    refine (Qil 2 ng num e den hn hd hE hz (str (shN 2 num.data.toList)) (shE 2 num.data.toList e) vo (fun w => Qfx 2 ng num e den (by omega) (by omega) x0 x1 w) w (fun g w1 hb1 B => ?_)).mono fun r w' q => fin q
    refine (Qol B (by rw [Qad]; exact (Qg8 k2 2).pos) (by rw [Qad]; exact Qoy k1 2) (by rw [Qab]; exact Qsv k3 2) y0 y1 (hG.later hb1)).mono ?_
    rintro r w' ⟨b,E,rfl,h1,h2,h3⟩
    rw [Qab,Qor k3 k2] at h1
    exact ⟨b,E,rfl,by unfold ValIs; rw [if_neg (by decide),if_pos rfl]; exact h1,h2,h3⟩
   ·obtain ⟨k1,k2,k3,k4⟩:=QeA q1 hz
    have dn : den.data.toList ≠ []:=fun q => h3 ⟨rfl,q⟩
    obtain ⟨l1,l2,l3,l4⟩:=QeA q2 dn
    have s1 : shN 3 num.data.toList = num.data.toList:=by unfold shN; rw [if_pos (Or.inl rfl)]
    refine (Qil 3 ng num e den hn hd hE hz (str (shN 3 num.data.toList)) (shE 3 num.data.toList e) vo (fun w => Qfx 3 ng num e den (by omega) (by omega) (by omega) (by omega) w) w (fun g w1 hb1 B => ?_)).mono fun r w' q => fin q
    rw [s1,Qcp] at B
    refine (Qom B (by omega) (by omega) (Qg5 k3) (by omega) (by omega) (Qg5 l3) (Qc0 q2 dn) (hG.later hb1)).mono ?_
    rintro r w' ⟨b,E,rfl,h1,h2,h3⟩
    exact ⟨b,E,rfl,by unfold ValIs; rw [if_neg (by decide),if_neg (by decide)]; exact h1,h2,h3⟩
 ·refine (Qec k ng num e den hn hd hE w).mono ?_
  rintro r w' ⟨rfl,hb⟩
  exact ⟨_,_,rfl,Or.inl ⟨hE,rfl,rfl⟩,Qan,hb⟩
set_option maxRecDepth 100000 in
theorem Qlu (k : Int) (ng : Bool) (num : ByteArray) (e : Int) (den : ByteArray) (hn : num.size ≤ 9223372036854775807) (hd : den.size ≤ 9223372036854775807) {w : World} (hG : GrVar w) (hT : TenVar w) :
  Calls Tryz.prog 75 #[.agg (numC k ng num e den)] w fun r w' => ∃ b E,r = .returned (.tuple #[.int .u64 b,.int .i64 E]) ∧ BitsIs k ng num.data.toList e den.data.toList b E ∧ U b ∧ Below w.heap.size w w':=by
 have hb0 : Below w.heap.size w (w.alloc (.cells (numC k ng num e den) 43)):=(Below.refl _ w).alloc (Nat.le_refl _) _
 have hP:=Qg9 k ng num e den hn hd (hG.later hb0) (hT.later hb0)
 generalize BitsIs k ng num.data.toList e den.data.toList = Q at *
 unfold numC at hP hb0 ⊢
 go_enter Tryz.func75,Tryz.ntmps75
 go_wp2_with fail
 refine hP.mono ?_
 rintro r w1 ⟨b,E,rfl,hq,ub,hb1⟩
 have HQ : Hid (Q b E):=hq
 have B:=hb0.trans (hb1.mono hb0.size)
 clear hq hP
 go_wp2
 go_ret2
 exact ⟨_,_,rfl,HQ.out,ub,B⟩
theorem Qin {S : B} {p : Pc} (hl : S.length ≤ 60000) (hp : scanP S 0 = p) (hk : p.kind ≠ 0) (hst : p.stop = S.length) (w : World) :
  Calls Tryz.prog 19 #[.string (str S)] w fun r w' => r = .returned (.tuple #[.agg (nmA (Lx.numOf p)),.nilIface]) ∧ Below w.heap.size w w':=by
 refine (Qgp (str S) (by rw [Qad]; unfold maxLen; omega) w).mono ?_
 rintro r w' ⟨⟨g,at_,c,rfl,_,_,_,hn⟩ | ⟨_,_,rfl⟩,hb⟩
 ·exfalso
  rw [Qab,hp] at hn
  rcases hn with ⟨q,_⟩ | ⟨_,q,_⟩
  ·exact hk q
  ·rw [Qad] at q; omega
 ·rw [Qab,hp]
  exact ⟨rfl,hb⟩
set_option maxRecDepth 100000 in
theorem Qgr {s : ByteArray} {k e : Int} {ng : Bool} {nu de : ByteArray} {V : Int} (hP : ∀ w,Calls Tryz.prog 19 #[.string s] w fun r w' => r = .returned (.tuple #[.agg (numC k ng nu e de),.nilIface]) ∧ Below w.heap.size w w')
  (h1 : nu.size ≤ 65536) (h2 : de.size ≤ 65536) (hV : ∀ b E,BitsIs k ng nu.data.toList e de.data.toList b E → b = V ∧ E = 0) {w : World} (hG : GrVar w) (hT : TenVar w) :
  Calls Tryz.prog 23 #[.string s] w fun r w' => r = .returned (.tuple #[.int .u64 V,.nilIface]) ∧ Below w.heap.size w w':=by
 have hB : ∀ w1,Below w.heap.size w w1 → Calls Tryz.prog 75 #[.agg (numC k ng nu e de)] w1 fun r w' => r = .returned (.tuple #[.int .u64 V,.int .i64 0]) ∧ Below w1.heap.size w1 w':=fun w1 h => by
  refine (Qlu k ng nu e de (by omega) (by omega) (hG.later h) (hT.later h)).mono ?_
  rintro r w' ⟨b,E,rfl,q,_,hb⟩
  obtain ⟨rfl,rfl⟩:=hV b E q
  exact ⟨rfl,hb⟩
 clear hV h1 h2
 unfold numC at hP hB
 go_enter Tryz.func23,Tryz.ntmps23
 go_wp2_with fail
 refine (hP _).mono ?_
 rintro r w1 ⟨rfl,hb1⟩
 have B : Below w.heap.size w (w1.alloc (.cells #[.int .i64 k,.bool ng,.string nu,.int .i64 e,.string de] 43)):=hb1.alloc hb1.size _
 have hB':=hB _ B
 clear hP hB
 go_wp2_with fail
 refine hB'.mono ?_
 rintro r w2 ⟨rfl,hb2⟩
 have B:=B.trans (hb2.mono B.size)
 clear hB'
 go_wp2
 go_ret2
 exact ⟨rfl,B⟩
namespace Ar
set_option maxRecDepth 100000 in
theorem tenth11 : RoundIs (1 * pTwo 1074) (pTen 1) false false 0 4591870180066957722 0 :=
 ⟨4591870180066957721,⟨by decide,by decide,by decide +kernel,Or.inr (by decide +kernel)⟩,Or.inr ⟨⟨by decide +kernel,by decide +kernel⟩,Or.inr ⟨by decide,by decide,rfl⟩⟩⟩
end Ar
theorem Qlv {b E : Int} (h : BitsIs 1 false [49] (-1) [] b E) : b = 4591870180066957722 ∧ E = 0:=by
 have hr : refE 1 [49] (-1) [] = 0:=by decide
 refine Qim h (Or.inr (Or.inr ⟨hr,by decide,4591870180066957722,0,?_,Or.inr ⟨rfl,rfl,rfl⟩⟩))
 unfold ValIs
 rw [if_pos rfl]
 have n1 : nv 10 [49] = 1:=by rw [QcQ]; rfl
 rw [n1]
 exact (Qid (k:=1) (by omega)).mpr tenth11
theorem Qjq {w : World} (hG : GrVar w) (hT : TenVar w) : Calls Tryz.prog 23 #[.string ⟨#[48,46,49]⟩] w fun r w' => r = .returned (.tuple #[.int .u64 4591870180066957722,.nilIface]) ∧ Below w.heap.size w w':=by
 have e : Lx.numOf ⟨1,false,[48],[49],[],[],3⟩ = ⟨1,false,[49],-1,[]⟩:=by rfl
 refine Qgr (k:=1) (e:=-1) (ng:=false) (nu:=str [49]) (de:=str []) (fun w => ?_) (by decide) (by decide) (fun b E q => Qlv q) hG hT
 have:=Qin (S:=[48,46,49]) (p:=⟨1,false,[48],[49],[],[],3⟩) (by decide) (by rfl) (by decide) rfl w
 rw [e] at this
 exact this
end Go.Proofs.YtjnmgjcmagnkeabGreatDoor

import Derived.Test.YtjnmgjcmagnkeabGreatDoorPt3
import Derived.Test.YtjnmgjcmagnkeabGreatDoorPt18
namespace Go.Proofs.YtjnmgjcmagnkeabGreatDoor
open Go.ChangeShapes Go.WideShapes Go.ChangeAt Go.RowKit
open Lx
set_option linter.unusedVariables false
namespace Lx
theorem Qto (l : B) : Lib.toLowerA l = l.map lowB:=by
 unfold Lib.toLowerA
 apply List.map_congr_left
 intro b _
 have h:=List.all_eq_true.mp (show (List.range 256).all (fun n => Lib.lowerB (UInt8.ofNat n) == lowB (UInt8.ofNat n)) = true from by kernel_rfl) b.toNat (List.mem_range.mpr (UInt8.toNat_lt b))
 rw [UInt8.ofNat_toNat] at h
 exact eq_of_beq h
theorem Qse {l : B} (h : l.all isH = true) : ∀ (j : Nat) (b : UInt8),l[j]? = some b → b.toNat < 128:=by
 intro j b hb
 have:=List.all_eq_true.mp h b (List.mem_of_getElem? hb)
 unfold isH isD at this
 simp only [Bool.or_eq_true,Bool.and_eq_true,decide_eq_true_eq] at this
 omega
end Lx
theorem Qi9 (s : ByteArray) (h : s.data.toList.all isH = true) (hs : s.size ≤ 200000) (w : World) :
  Calls Tryz.prog 221 #[.string s] w fun e w' => e = .returned (.string (str (s.data.toList.map lowB))) ∧ Below w.heap.size w w':=by
 have:=Any.strings_ToLower_ascii lays159 layBuilderExtra s w (by omega) (Qse h)
 rw [Qto] at this
 exact this
theorem Qn3 (s : ByteArray) (hs : s.size ≤ 200000) (w : World) :
  Calls Tryz.prog 220 #[.string s] w fun e w' => e = .returned (.string s) ∧ Below w.heap.size w w':=by
 have c : ∀ w,Calls Tryz.prog 283 #[.string s] w fun e w' => e = .returned (.string s) ∧ Below w.heap.size w w':=fun w => Any.stringslite_Clone lays316m s w (by omega)
 go_enter Tryz.func220,Tryz.ntmps220
 go_wp2_with (go_at_call 283; refine (c _).mono ?_; rintro e w' ⟨rfl,hb⟩)
 go_ret
 exact ⟨rfl,hb⟩
theorem Qh7 (s : ByteArray) (h : s.data.toList.all isH = true) (hs : s.size ≤ 200000) (w : World) :
  Calls Tryz.prog 139 #[.string s] w fun e w' => e = .returned (.string (str (strip s.data.toList))) ∧ Below w.heap.size w w':=by
 have l1 : (trimL [48] s.data.toList).length ≤ s.size:=by
  have:=(List.dropWhile_suffix (l:=s.data.toList) (fun b => ([48] : B).contains b)).length_le
  rw [← Lib.size_eq] at this
  exact this
 have c2:=fun w => Qi9 (str (trimL [48] s.data.toList)) (by rw [Qab]; exact QsG h) (by rw [Qad]; omega) w
 rw [Qab] at c2
 have c3:=fun w => Qn3 (str ((trimL [48] s.data.toList).map lowB)) (by rw [Qad,List.length_map]; omega) w
 have e : strip s.data.toList = (trimL [48] s.data.toList).map lowB:=rfl
 rw [e]
 clear e
 go_enter Tryz.func139,Tryz.ntmps139
 go_wp2_with fail
 refine (Qdn _ _).mono ?_
 rintro e w1 ⟨rfl,rfl⟩
 go_wp2_with fail
 refine (c2 _).mono ?_
 rintro e w2 ⟨rfl,hb2⟩
 go_wp2_with fail
 refine (c3 _).mono ?_
 rintro e w3 ⟨rfl,hb3⟩
 go_wp2
 go_ret
 exact ⟨rfl,hb2.trans (hb3.mono hb2.size)⟩
end Go.Proofs.YtjnmgjcmagnkeabGreatDoor

import Derived.Deep.DeepCutAuto
import Derived.Test.YtjnmgjcmagnkeabGreatDoorPt25
import Derived.Test.YtjnmgjcmagnkeabGreatDoorPt29
namespace Go.Proofs.YtjnmgjcmagnkeabGreatDoor
open Go.ChangeShapes Go.WideShapes Go.ChangeAt Go.RowKit
open Lx
set_option linter.unusedVariables false
namespace Lx
def Reads (S : B) (N : Nm) : Prop:=∀ R : B,Stops R → (longestL (S ++ R)).kind ≠ 0 ∧ (longestL (S ++ R)).stop = S.length ∧ numOf (longestL (S ++ R)) = N
end Lx
theorem Qjm {S : B} {p : Pc} (hl : S.length ≤ 60000) (hp : scanP S 0 = p) (hk : p.kind ≠ 0) (hst : p.stop = S.length) (w : World) :
  Calls Tryz.prog 19 #[.string (str S)] w fun r w' => r = .returned (.tuple #[.agg (nmA (Lx.numOf p)),.nilIface]) ∧ Below w.heap.size w w':=by
 refine (Qgp (str S) (by rw [Qad]; unfold maxLen; omega) w).mono ?_
 rintro r w' ⟨⟨g,at_,c,rfl,_,_,_,hn⟩ | ⟨_,_,rfl⟩,hb⟩
 ·exfalso
  rw [Qab,hp] at hn
  rcases hn with ⟨q,_⟩ | ⟨_,q,_⟩
  ·exact hk q
  ·rw [Qad] at q; omega
 ·rw [Qab,hp]
  exact ⟨rfl,hb⟩
theorem Qjn {S : B} {N : Nm} (h : Reads S N) (hl : S.length ≤ 60000) (w : World) :
  Calls Tryz.prog 19 #[.string (str S)] w fun r w' => r = .returned (.tuple #[.agg (nmA N),.nilIface]) ∧ Below w.heap.size w w':=by
 obtain ⟨k1,k2,k3⟩:=h [] Stops.nil
 rw [List.append_nil] at k1 k2 k3
 have:=Qjm hl (p:=longestL S) (by unfold scanP; rw [List.drop_zero,List.take_of_length_le (by omega)]) k1 k2 w
 rw [k3] at this
 exact this
theorem Qoj {A S R : B} {N : Nm} (h : Reads S N) (hR : Stops R) (hl : A.length + S.length + R.length ≤ 60000) (w : World) :
  Calls Tryz.prog 24 #[.string (str (A ++ (S ++ R))),.int .i64 (A.length : Int)] w fun r w' => r = .returned (.tuple #[.agg (nmA N),.int .i64 ((A.length : Int) + (S.length : Int)),.nilIface]) ∧ Below w.heap.size w w':=by
 obtain ⟨k1,k2,k3⟩:=h R hR
 have hsc : scanP (str (A ++ (S ++ R))).data.toList A.length = longestL (S ++ R):=by
  unfold scanP
  rw [Qab,List.drop_left,List.take_of_length_le (by rw [List.length_append]; omega)]
 refine (Qog (str (A ++ (S ++ R))) (by rw [Qad,List.length_append,List.length_append]; unfold maxLen; omega) A.length (by rw [Qad,List.length_append]; omega) w).mono ?_
 have e0 : ((A.length : Int)).toNat = A.length:=by omega
 rintro r w' ⟨⟨g,rfl,_,_,_,hn⟩ | ⟨_,_,_,rfl⟩,hb⟩
 ·exfalso
  rw [e0,hsc] at hn
  rcases hn with q | q | q
  ·omega
  ·rw [Qad,List.length_append] at q; omega
  ·exact k1 q
 ·rw [e0,hsc,k3,k2]
  exact ⟨rfl,hb⟩
namespace Lx
end Lx
end Go.Proofs.YtjnmgjcmagnkeabGreatDoor

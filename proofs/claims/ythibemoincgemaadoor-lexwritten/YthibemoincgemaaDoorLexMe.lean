/- plumblaw09: a piece is made. -/
import Derived.Test.YthibemoincgemaaDoorLexMd
import Derived.Test.YthibemoincgemaaDoorLexMb
import Derived.Test.YthibemoincgemaaDoorLexScan
import Derived.Deep.DeepCutAuto
namespace Go.Proofs.YthibemoincgemaaDoor
open Go.ChangeShapes Go.WideShapes Go.ChangeAt Go.RowKit
open Lx
set_option linter.unusedVariables false
namespace Lx
theorem results_tc {P : Program} {fn : Func} {p u : Tmp} {ty : TypeId} (h : fn.results = #[.tmp u, .cell p ty]) (tmps : Array Value) (w : World) (g : Nat) (t : TypeId) (cs : Array Value) (d : TypeDesc)
    (hp : tmps.getD p undef = .pointer (some ⟨g, 0, none⟩)) (hg : Bk w g t cs)
    (hu : P.underlying ty = some d) (hd : (match d with | .struct _ | .array _ _ => true | _ => false) = true) (hi : (P.info? ty).map (·.size) = some cs.size) :
    (results fn tmps).run P w = .ok (.tuple #[tmps.getD u undef, .agg cs]) w := by
  have hp' : tmps[p]?.getD undef = .pointer (some ⟨g, 0, none⟩) := by simpa using hp
  simp [results, h, hp', asAddr, run_loadVar_row w g t ty cs (0, 0) d hg hu hd hi, Result.andThen]
/-- a Piece's cells -/
def pieA (kd sg : Int) (v1 v2 : Value) (pt ne : Bool) (e : Int) (plus big : Bool) : Array Value := #[.int .i64 kd, .int .i64 sg, v1, v2, .bool pt, .bool ne, .int .i64 e, .bool plus, .bool big]
def baseOf (k : Int) : Int := if k = 1 then 16 else 10
end Lx
end Go.Proofs.YthibemoincgemaaDoor

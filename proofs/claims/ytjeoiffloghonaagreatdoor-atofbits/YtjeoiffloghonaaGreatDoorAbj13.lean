import Derived.Deep.RegionWith
import Derived.Below
import Derived.BigQuiet
import Derived.Deep.LoopGhost
import Derived.Deep.QuietTactic
import Derived.Deep.WholeRow
import Derived.KernelRfl
import Derived.Laws.EntriesVeiled
import Derived.Laws.Externs
import Derived.Laws.ResultCell
import Derived.Laws.Strings3
import Derived.Lib.AsciiSet
import Derived.Lib.Bytealg
import Derived.Lib.IndexBytes
import Derived.Lib.Strings
import Derived.Lib.TrimByte
import Derived.Lib.Walk
import Derived.OpenShut
import Derived.ProofKit
import Derived.ShutString
import Derived.WalkKit
import Derived.WalkLawsBesides
import Derived.WalkSpells
import Derived.Test.YtjeoiffloghonaaGreatDoorAbj12
/- Layer 9: the reader in its block; one, run, hasDigits, keep. -/
namespace Go.Proofs.YtjeoiffloghonaaGreatDoor
open Go.ChangeShapes Go.WideShapes Go.ChangeAt Go.RowKit
open Lx
set_option linter.unusedVariables false
namespace Lx
/-- the reader's cells -/
def rdC (t : ByteArray) (k : Nat) (st : Value) (rd wh : Pc) : Array Value :=
  #[.string t, .int .i64 k, st,
    .int .i64 rd.kind, .bool rd.neg, .string (str rd.ahead), .string (str rd.behind), .string (str rd.expo), .string (str rd.den), .int .i64 rd.stop,
    .int .i64 wh.kind, .bool wh.neg, .string (str wh.ahead), .string (str wh.behind), .string (str wh.expo), .string (str wh.den), .int .i64 wh.stop]
def RB (w : World) (g : Nat) (t : ByteArray) (k : Nat) (st : Value) (rd wh : Pc) : Prop := Bk w g 255 (rdC t k st rd wh)
theorem RB.head {w : World} {g : Nat} {t : ByteArray} {k : Nat} {st : Value} {rd wh : Pc} (h : RB w g t k st rd wh) :
    w.cell? ⟨g, 0, none⟩ = some (.string t) ∧ w.cell? ⟨g, 1, none⟩ = some (.int .i64 k) ∧ w.cell? ⟨g, 2, none⟩ = some st :=
  ⟨Bk.cell h 0 rfl, Bk.cell h 1 rfl, Bk.cell h 2 rfl⟩
theorem RB.read {w : World} {g : Nat} {t : ByteArray} {k : Nat} {st : Value} {rd wh : Pc} (h : RB w g t k st rd wh) :
    w.cell? ⟨g, 3, none⟩ = some (.int .i64 rd.kind) ∧ w.cell? ⟨g, 4, none⟩ = some (.bool rd.neg) ∧ w.cell? ⟨g, 5, none⟩ = some (.string (str rd.ahead)) ∧ w.cell? ⟨g, 6, none⟩ = some (.string (str rd.behind)) ∧
    w.cell? ⟨g, 7, none⟩ = some (.string (str rd.expo)) ∧ w.cell? ⟨g, 8, none⟩ = some (.string (str rd.den)) ∧ w.cell? ⟨g, 9, none⟩ = some (.int .i64 rd.stop) :=
  ⟨Bk.cell h 3 rfl, Bk.cell h 4 rfl, Bk.cell h 5 rfl, Bk.cell h 6 rfl, Bk.cell h 7 rfl, Bk.cell h 8 rfl, Bk.cell h 9 rfl⟩
theorem RB.whole {w : World} {g : Nat} {t : ByteArray} {k : Nat} {st : Value} {rd wh : Pc} (h : RB w g t k st rd wh) :
    w.cell? ⟨g, 10, none⟩ = some (.int .i64 wh.kind) ∧ w.cell? ⟨g, 11, none⟩ = some (.bool wh.neg) ∧ w.cell? ⟨g, 12, none⟩ = some (.string (str wh.ahead)) ∧ w.cell? ⟨g, 13, none⟩ = some (.string (str wh.behind)) ∧
    w.cell? ⟨g, 14, none⟩ = some (.string (str wh.expo)) ∧ w.cell? ⟨g, 15, none⟩ = some (.string (str wh.den)) ∧ w.cell? ⟨g, 16, none⟩ = some (.int .i64 wh.stop) :=
  ⟨Bk.cell h 10 rfl, Bk.cell h 11 rfl, Bk.cell h 12 rfl, Bk.cell h 13 rfl, Bk.cell h 14 rfl, Bk.cell h 15 rfl, Bk.cell h 16 rfl⟩
theorem RB.later {w w' : World} {g : Nat} {t : ByteArray} {k : Nat} {st : Value} {rd wh : Pc} (h : RB w g t k st rd wh) (hb : Below w.heap.size w w') : RB w' g t k st rd wh := Bk.later h hb
theorem RB.drew {w : World} {g : Nat} {t : ByteArray} {k : Nat} {st : Value} {rd wh : Pc} (h : RB w g t k st rd wh) (n : Nat) : RB (w.drewN n) g t k st rd wh := h.later (below_drewN (Below.refl _ _) n)
end Lx
namespace Lx
theorem wrapI {x : Int} (h1 : -9223372036854775808 ≤ x) (h2 : x ≤ 9223372036854775807) : IntKind.i64.wrap x = x := by
  simp [IntKind.wrap, IntKind.signed, IntKind.bits]
  omega
end Lx
end Go.Proofs.YtjeoiffloghonaaGreatDoor

/- Layer 9: the states of the reader. -/
namespace Go.Proofs.YtjeoiffloghonaaGreatDoor
open Go.ChangeShapes Go.WideShapes Go.ChangeAt Go.RowKit
open Lx
set_option linter.unusedVariables false
namespace Lx
section
variable {w : World} {g : Nat} {t : ByteArray} {k : Nat} {st : Value} {rd wh : Pc}
theorem RB.kind (h : RB w g t k st rd wh) (x : Int) : RB (w.setCell ⟨g, 3, none⟩ (.int .i64 x)) g t k st { rd with kind := x } wh := Bk.set h 3 _
theorem RB.neg (h : RB w g t k st rd wh) (x : Bool) : RB (w.setCell ⟨g, 4, none⟩ (.bool x)) g t k st { rd with neg := x } wh := Bk.set h 4 _
theorem RB.ahead (h : RB w g t k st rd wh) (x : B) : RB (w.setCell ⟨g, 5, none⟩ (.string (str x))) g t k st { rd with ahead := x } wh := Bk.set h 5 _
theorem RB.behind (h : RB w g t k st rd wh) (x : B) : RB (w.setCell ⟨g, 6, none⟩ (.string (str x))) g t k st { rd with behind := x } wh := Bk.set h 6 _
theorem RB.expo (h : RB w g t k st rd wh) (x : B) : RB (w.setCell ⟨g, 7, none⟩ (.string (str x))) g t k st { rd with expo := x } wh := Bk.set h 7 _
theorem RB.den (h : RB w g t k st rd wh) (x : B) : RB (w.setCell ⟨g, 8, none⟩ (.string (str x))) g t k st { rd with den := x } wh := Bk.set h 8 _
theorem RB.stop (h : RB w g t k st rd wh) (x : Nat) : RB (w.setCell ⟨g, 9, none⟩ (.int .i64 x)) g t k st { rd with stop := x } wh := Bk.set h 9 _
end
end Lx
section
variable {w : World} {g : Nat} {t : ByteArray} {k : Nat} {st : Value} {rd wh : Pc}
end
end Go.Proofs.YtjeoiffloghonaaGreatDoor

/- Layer 9: lex.longest. -/
namespace Go.Proofs.YtjeoiffloghonaaGreatDoor
open Go.ChangeShapes Go.WideShapes Go.ChangeAt Go.RowKit
open Lx
set_option linter.unusedVariables false
namespace Lx
theorem Bk.tn {w w' : World} {g g' : Nat} {t : TypeId} {vs : Array Value} (h : Bk w g' t vs) (k : Tn g w w') (hn : g' ≠ g) : Bk w' g' t vs := by
  have := Bk.lt h
  unfold Bk
  rw [k.block g' this hn]; exact h
end Lx
end Go.Proofs.YtjeoiffloghonaaGreatDoor


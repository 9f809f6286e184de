/- package quot: divide: what holds at its labels. -/
import Derived.Test.YthjfjpdgjhidfabGreatQuotDivA
import Derived.Test.YthjfjpdgjhidfabGreatScopeMany
import Derived.Test.YthjfjpdgjhidfabGreatDiv
namespace Go.Proofs.YthjfjpdgjhidfabGreat
open Go.ChangeShapes Go.WideShapes Go.ChangeAt Go.RowKit
open Na Ar
set_option linter.unusedVariables false

noncomputable def dvScope : Code := match Tryz.f65.body with | some (.seq _ (.scope c)) => c | _ => .skip
/-- the code behind label l -/
noncomputable def dvTail (l : Nat) : Code := match findLabel dvScope l with | some (.seq _ c) => c | _ => .skip
/-- what stays through all of it -/
structure DvP where
  w0 : World
  gq : Nat
  gv : Nat
  gu : Nat
  k : Nat
  J : Nat
  s : Nat
  vs : List Int
  U0 : Int
structure DvOk (p : DvP) : Prop where
  qv : p.gq ≠ p.gv
  qu : p.gq ≠ p.gu
  vu : p.gv ≠ p.gu
  wv : Ws p.vs
  lv : p.vs.length = p.k + 2
  v1 : p.vs.getD (p.k + 1) 0 ≠ 0
  big : p.J + p.k ≤ 4000000
  s63 : p.s ≤ 63
structure DvM (p : DvP) (us qs : List Int) (w : World) : Prop where
  hu : Own .u64 w p.w0.heap.size 53 (.slice (some ⟨p.gu, 0, none⟩) (p.J + p.k + 3) (p.J + p.k + 3)) us
  hq : Own .u64 w p.w0.heap.size 53 (.slice (some ⟨p.gq, 0, none⟩) (p.J + 1) (p.J + 1)) qs
  hv : Own .u64 w p.w0.heap.size 53 (.slice (some ⟨p.gv, 0, none⟩) (p.k + 2) (p.k + 2)) p.vs
  hb : Below p.w0.heap.size p.w0 w
  lu : us.length = p.J + p.k + 3
  lq : qs.length = p.J + 1
structure DvF (p : DvP) (j : Nat) (q r : Int) (a : Act) : Prop where
  sz : a.tmps.size = 174
  df : a.defers = []
  s6 : a.tmps.getD 6 undef = .int .i64 ((p.k : Int) + 2)
  s7 : a.tmps.getD 7 undef = .int .i64 (j : Int)
  s8 : a.tmps.getD 8 undef = .slice (some ⟨p.gq, 0, none⟩) (p.J + 1) (p.J + 1)
  s9 : a.tmps.getD 9 undef = .int .i64 (p.s : Int)
  s10 : a.tmps.getD 10 undef = .slice (some ⟨p.gv, 0, none⟩) (p.k + 2) (p.k + 2)
  s11 : a.tmps.getD 11 undef = .slice (some ⟨p.gu, 0, none⟩) (p.J + p.k + 3) (p.J + p.k + 3)
  s12 : a.tmps.getD 12 undef = .int .u64 q
  s13 : a.tmps.getD 13 undef = .int .u64 r
def dvMeas (l j : Nat) (q : Int) : Nat := j * 18446744073709551626 + (match l with | 0 => 18446744073709551620 | 1 => q.toNat + 2 | 2 => 1 | _ => 0)
def DvW (p : DvP) (l j : Nat) (us qs : List Int) (q r : Int) : Prop :=
  match l with
  | 0 => DvI p.U0 p.vs us qs (j + 1)
  | 1 => DvI p.U0 p.vs us qs (j + 1) ∧ U q ∧ U r ∧ q * p.vs.getD (p.k + 1) 0 + r = us.getD (j + (p.k + 2)) 0 * 18446744073709551616 + us.getD (j + (p.k + 1)) 0 ∧ Na.win us j (p.k + 3) < (q + 1) * num p.vs
  | 2 => DvI p.U0 p.vs us qs (j + 1) ∧ U q ∧ Na.win us j (p.k + 3) < (q + 1) * num p.vs ∧ q * num p.vs < Na.win us j (p.k + 3) + num p.vs
  | _ => U q ∧ Ws us ∧ DvI p.U0 p.vs (us.set (j + (p.k + 2)) 0) (qs.set j q) j
def DvJ (p : DvP) (l m : Nat) (a : Act) (w : World) : Prop :=
  ∃ (j : Nat) (us qs : List Int) (q r : Int), j ≤ p.J ∧ l ≤ 3 ∧ m = dvMeas l j q ∧ DvF p j q r a ∧ DvM p us qs w ∧ DvW p l j us qs q r
/-- the frame, slot by slot -/
theorem dv_frame {p : DvP} {j : Nat} {q r : Int} {a : Act} (h : DvF p j q r a) : ∃ t : Nat → Value, a = { tmps := #[t 0, t 1, t 2, t 3, t 4, t 5, .int .i64 ((p.k : Int) + 2), .int .i64 (j : Int), .slice (some ⟨p.gq, 0, none⟩) (p.J + 1) (p.J + 1), .int .i64 (p.s : Int), .slice (some ⟨p.gv, 0, none⟩) (p.k + 2) (p.k + 2), .slice (some ⟨p.gu, 0, none⟩) (p.J + p.k + 3) (p.J + p.k + 3), .int .u64 q, .int .u64 r, t 14, t 15, t 16, t 17, t 18, t 19, t 20, t 21, t 22, t 23, t 24, t 25, t 26, t 27, t 28, t 29, t 30, t 31, t 32, t 33, t 34, t 35, t 36, t 37, t 38, t 39, t 40, t 41, t 42, t 43, t 44, t 45, t 46, t 47, t 48, t 49, t 50, t 51, t 52, t 53, t 54, t 55, t 56, t 57, t 58, t 59, t 60, t 61, t 62, t 63, t 64, t 65, t 66, t 67, t 68, t 69, t 70, t 71, t 72, t 73, t 74, t 75, t 76, t 77, t 78, t 79, t 80, t 81, t 82, t 83, t 84, t 85, t 86, t 87, t 88, t 89, t 90, t 91, t 92, t 93, t 94, t 95, t 96, t 97, t 98, t 99, t 100, t 101, t 102, t 103, t 104, t 105, t 106, t 107, t 108, t 109, t 110, t 111, t 112, t 113, t 114, t 115, t 116, t 117, t 118, t 119, t 120, t 121, t 122, t 123, t 124, t 125, t 126, t 127, t 128, t 129, t 130, t 131, t 132, t 133, t 134, t 135, t 136, t 137, t 138, t 139, t 140, t 141, t 142, t 143, t 144, t 145, t 146, t 147, t 148, t 149, t 150, t 151, t 152, t 153, t 154, t 155, t 156, t 157, t 158, t 159, t 160, t 161, t 162, t 163, t 164, t 165, t 166, t 167, t 168, t 169, t 170, t 171, t 172, t 173], defers := [] } := by
  refine ⟨fun i => a.tmps.getD i undef, (frame_all a h.sz h.df).trans ?_⟩
  rw [← h.s6, ← h.s7, ← h.s8, ← h.s9, ← h.s10, ← h.s11, ← h.s12, ← h.s13]
  rfl
end Go.Proofs.YthjfjpdgjhidfabGreat

/- Layer 9: memory and texts. -/
import Derived.Test.YtbbmoaipilmmdaaGreatDoorRows
import Derived.WalkKit
import Derived.ProofKit
import Derived.OpenShut
import Derived.ShutString
import Derived.WalkLawsBesides
import Derived.WalkSpells
import Derived.Below
import Derived.Lib.Strings
import Derived.Lib.TrimByte
import Derived.Lib.IndexBytes
import Derived.Lib.AsciiSet
import Derived.Lib.Bytealg
import Derived.Lib.Walk
import Derived.Laws.Externs
import Derived.Laws.Strings3
import Derived.Laws.ResultCell
import Derived.Laws.EntriesVeiled
import Derived.Deep.LoopGhost
import Derived.Deep.WholeRow
import Derived.Deep.QuietTactic
import Derived.BigQuiet
import Derived.Test.YtbbmoaipilmmdaaGreatDoorLexForm
namespace Go.Proofs.YtbbmoaipilmmdaaGreatDoor
open Go.ChangeShapes Go.WideShapes Go.ChangeAt Go.RowKit
set_option linter.unusedVariables false
namespace Lx
/-- only block g may have turned (and new ones come) -/
structure Tn (g : Nat) (w w' : World) : Prop where
  os : w'.os = w.os
  tape : w'.tape = w.tape
  output : w'.output = w.output
  size : w.heap.size ≤ w'.heap.size
  block : ∀ k, k < w.heap.size → k ≠ g → w'.heap[k]? = w.heap[k]?
theorem Tn.refl (g : Nat) (w : World) : Tn g w w := ⟨rfl, rfl, rfl, Nat.le_refl _, fun _ _ _ => rfl⟩
theorem Tn.trans {g : Nat} {a b c : World} (h : Tn g a b) (k : Tn g b c) : Tn g a c :=
  ⟨k.os.trans h.os, k.tape.trans h.tape, k.output.trans h.output, Nat.le_trans h.size k.size, fun i hi h' => (k.block i (Nat.lt_of_lt_of_le hi h.size) h').trans (h.block i hi h')⟩
theorem Tn.set {g : Nat} {a w : World} (h : Tn g a w) (k : Nat) (u : Value) : Tn g a (w.setCell ⟨g, k, none⟩ u) :=
  h.trans ⟨rfl, rfl, rfl, by simp [World.setCell], fun i hi h' => Below.heap_setCell _ _ _ _ (by simp only; omega)⟩
theorem Tn.later {g : Nat} {a w w' : World} (h : Tn g a w) (h' : Below w.heap.size w w') : Tn g a w' :=
  h.trans ⟨h'.os, h'.tape, h'.output, h'.size, fun k hk _ => h'.block k hk⟩
theorem Tn.below {g n : Nat} {a w w' : World} (h : Below n a w) (k : Tn g w w') (hg : n ≤ g) (hn : n ≤ a.heap.size) : Below n a w' :=
  ⟨k.os.trans h.os, k.tape.trans h.tape, k.output.trans h.output, Nat.le_trans h.size k.size, fun i hi => (k.block i (by have := h.size; omega) (by omega)).trans (h.block i hi)⟩
/-- a block with its cells -/
def Bk (w : World) (g : Nat) (t : TypeId) (vs : Array Value) : Prop := w.heap[g]? = some (.cells vs t (0, 0))
theorem Bk.lt {w : World} {g : Nat} {t : TypeId} {vs : Array Value} (h : Bk w g t vs) : g < w.heap.size := by
  by_cases hlt : g < w.heap.size
  · exact hlt
  · unfold Bk at h; simp [Array.getElem?_eq_none (Nat.le_of_not_lt hlt)] at h
theorem Bk.cell {w : World} {g : Nat} {t : TypeId} {vs : Array Value} (h : Bk w g t vs) (i : Nat) {v : Value} (hv : vs[i]? = some v) : w.cell? ⟨g, i, none⟩ = some v := by
  unfold Bk at h
  simp [World.cell?, h, hv]
theorem Bk.frozen {w : World} {g : Nat} {t : TypeId} {vs : Array Value} (h : Bk w g t vs) (i : Nat) : w.frozen? ⟨g, i, none⟩ = false := by
  unfold Bk at h
  simp [World.frozen?, h]
theorem Bk.later {w w' : World} {g : Nat} {t : TypeId} {vs : Array Value} (h : Bk w g t vs) (hb : Below w.heap.size w w') : Bk w' g t vs := by
  have := h.lt
  unfold Bk
  rw [hb.block g this]; exact h
theorem Bk.set {w : World} {g : Nat} {t : TypeId} {vs : Array Value} (h : Bk w g t vs) (i : Nat) (v : Value) : Bk (w.setCell ⟨g, i, none⟩ v) g t (vs.setIfInBounds i v) := by
  unfold Bk at *
  simp [World.setCell, Array.getElem?_modify, h]
theorem Bk.new (w : World) (t : TypeId) (vs : Array Value) : Bk (w.alloc (.cells vs t)) w.heap.size t vs := heap_alloc_new _ _
/-- a text by its bytes -/
def str (l : B) : ByteArray := ⟨l.toArray⟩
theorem str_size (l : B) : (str l).size = l.length := by simp [str, ByteArray.size]
theorem str_list (l : B) : (str l).data.toList = l := by simp [str]
theorem str_of (s : ByteArray) : str s.data.toList = s := by cases s; simp [str]
theorem ext_str (s : ByteArray) (i j : Nat) : s.extract i j = str ((s.data.toList.drop i).take (j - i)) := by
  apply ByteArray.ext
  rw [ByteArray.data_extract]
  apply Array.toList_inj.mp
  rw [Array.toList_extract]
  show List.extract s.data.toList i j = _
  rw [List.extract_eq_take_drop]
  simp [str]
theorem drop_nil_of {s : ByteArray} {k : Nat} (h : s.size ≤ k) : s.data.toList.drop k = [] := List.drop_eq_nil_of_le (by rw [← Lib.size_eq]; exact h)
theorem drop_cons_of {s : ByteArray} {k : Nat} (h : k < s.size) : s.data.toList.drop k = (s[k]'h) :: s.data.toList.drop (k + 1) := by
  have h2 : k < s.data.toList.length := by rw [← Lib.size_eq]; exact h
  rw [List.drop_eq_getElem_cons h2]
  congr 1
theorem nat_u8 {x y : UInt8} : x = y ↔ (x.toNat : Int) = (y.toNat : Int) := by
  constructor
  · rintro rfl; rfl
  · intro h; exact UInt8.toNat_inj.1 (by exact_mod_cast h)
theorem toU8 (x : UInt8) : ((x.toNat : Int)).toNat.toUInt8 = x := by simp
end Lx
end Go.Proofs.YtbbmoaipilmmdaaGreatDoor

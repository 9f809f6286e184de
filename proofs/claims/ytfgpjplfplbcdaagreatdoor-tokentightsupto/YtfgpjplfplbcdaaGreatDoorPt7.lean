import Derived.Test.YtfgpjplfplbcdaaGreatDoorRows
import Derived.WalkKit
import Derived.ProofKit
import Derived.OpenShut
import Derived.ShutString
import Derived.WalkLawsBesides
import Derived.WalkSpells
import Derived.Below
import Derived.Lib.Strings
import Derived.Lib.TrimByte
import Derived.Lib.IndexBytes
import Derived.Lib.AsciiSet
import Derived.Lib.Bytealg
import Derived.Lib.Walk
import Derived.Laws.Externs
import Derived.Laws.Strings3
import Derived.Laws.ResultCell
import Derived.Laws.EntriesVeiled
import Derived.Deep.LoopGhost
import Derived.Deep.WholeRow
import Derived.Deep.QuietTactic
import Derived.BigQuiet
import Derived.KernelRfl
import Derived.Test.YtfgpjplfplbcdaaGreatDoorPt1
/- Layer 9: memory and texts. -/
namespace Go.Proofs.YtfgpjplfplbcdaaGreatDoor
open Go.ChangeShapes Go.WideShapes Go.ChangeAt Go.RowKit
set_option linter.unusedVariables false
namespace Lx
/-- only block g may have turned (and new ones come) -/
structure Tn (g : Nat) (w w' : World) : Prop where
  os : w'.os = w.os
  tape : w'.tape = w.tape
  output : w'.output = w.output
  size : w.heap.size ≤ w'.heap.size
  block : ∀ k, k < w.heap.size → k ≠ g → w'.heap[k]? = w.heap[k]?
theorem Tn.refl (g : Nat) (w : World) : Tn g w w := ⟨rfl, rfl, rfl, Nat.le_refl _, fun _ _ _ => rfl⟩
theorem Tn.trans {g : Nat} {a b c : World} (h : Tn g a b) (k : Tn g b c) : Tn g a c :=
  ⟨k.os.trans h.os, k.tape.trans h.tape, k.output.trans h.output, Nat.le_trans h.size k.size, fun i hi h' => (k.block i (Nat.lt_of_lt_of_le hi h.size) h').trans (h.block i hi h')⟩
theorem Tn.set {g : Nat} {a w : World} (h : Tn g a w) (k : Nat) (u : Value) : Tn g a (w.setCell ⟨g, k, none⟩ u) :=
  h.trans ⟨rfl, rfl, rfl, by simp [World.setCell], fun i hi h' => Below.heap_setCell _ _ _ _ (by simp only; omega)⟩
theorem Tn.later {g : Nat} {a w w' : World} (h : Tn g a w) (h' : Below w.heap.size w w') : Tn g a w' :=
  h.trans ⟨h'.os, h'.tape, h'.output, h'.size, fun k hk _ => h'.block k hk⟩
theorem Tn.below {g n : Nat} {a w w' : World} (h : Below n a w) (k : Tn g w w') (hg : n ≤ g) (hn : n ≤ a.heap.size) : Below n a w' :=
  ⟨k.os.trans h.os, k.tape.trans h.tape, k.output.trans h.output, Nat.le_trans h.size k.size, fun i hi => (k.block i (by have := h.size; omega) (by omega)).trans (h.block i hi)⟩
/-- a block with its cells -/
def Bk (w : World) (g : Nat) (t : TypeId) (vs : Array Value) : Prop := w.heap[g]? = some (.cells vs t (0, 0))
theorem Bk.lt {w : World} {g : Nat} {t : TypeId} {vs : Array Value} (h : Bk w g t vs) : g < w.heap.size := by
  by_cases hlt : g < w.heap.size
  · exact hlt
  · unfold Bk at h; simp [Array.getElem?_eq_none (Nat.le_of_not_lt hlt)] at h
theorem Bk.cell {w : World} {g : Nat} {t : TypeId} {vs : Array Value} (h : Bk w g t vs) (i : Nat) {v : Value} (hv : vs[i]? = some v) : w.cell? ⟨g, i, none⟩ = some v := by
  unfold Bk at h
  simp [World.cell?, h, hv]
theorem Bk.frozen {w : World} {g : Nat} {t : TypeId} {vs : Array Value} (h : Bk w g t vs) (i : Nat) : w.frozen? ⟨g, i, none⟩ = false := by
  unfold Bk at h
  simp [World.frozen?, h]
theorem Bk.later {w w' : World} {g : Nat} {t : TypeId} {vs : Array Value} (h : Bk w g t vs) (hb : Below w.heap.size w w') : Bk w' g t vs := by
  have := h.lt
  unfold Bk
  rw [hb.block g this]; exact h
theorem Bk.set {w : World} {g : Nat} {t : TypeId} {vs : Array Value} (h : Bk w g t vs) (i : Nat) (v : Value) : Bk (w.setCell ⟨g, i, none⟩ v) g t (vs.setIfInBounds i v) := by
  unfold Bk at *
  simp [World.setCell, Array.getElem?_modify, h]
theorem Bk.new (w : World) (t : TypeId) (vs : Array Value) : Bk (w.alloc (.cells vs t)) w.heap.size t vs := heap_alloc_new _ _
/-- a text by its bytes -/
def str (l : B) : ByteArray := ⟨l.toArray⟩
theorem str_size (l : B) : (str l).size = l.length := by simp [str, ByteArray.size]
theorem str_list (l : B) : (str l).data.toList = l := by simp [str]
theorem str_of (s : ByteArray) : str s.data.toList = s := by cases s; simp [str]
theorem ext_str (s : ByteArray) (i j : Nat) : s.extract i j = str ((s.data.toList.drop i).take (j - i)) := by
  apply ByteArray.ext
  rw [ByteArray.data_extract]
  apply Array.toList_inj.mp
  rw [Array.toList_extract]
  show List.extract s.data.toList i j = _
  rw [List.extract_eq_take_drop]
  simp [str]
theorem drop_nil_of {s : ByteArray} {k : Nat} (h : s.size ≤ k) : s.data.toList.drop k = [] := List.drop_eq_nil_of_le (by rw [← Lib.size_eq]; exact h)
theorem drop_cons_of {s : ByteArray} {k : Nat} (h : k < s.size) : s.data.toList.drop k = (s[k]'h) :: s.data.toList.drop (k + 1) := by
  have h2 : k < s.data.toList.length := by rw [← Lib.size_eq]; exact h
  rw [List.drop_eq_getElem_cons h2]
  congr 1
theorem nat_u8 {x y : UInt8} : x = y ↔ (x.toNat : Int) = (y.toNat : Int) := by
  constructor
  · rintro rfl; rfl
  · intro h; exact UInt8.toNat_inj.1 (by exact_mod_cast h)
theorem toU8 (x : UInt8) : ((x.toNat : Int)).toNat.toUInt8 = x := by simp
end Lx
end Go.Proofs.YtfgpjplfplbcdaaGreatDoor

/- Layer 9: what package strings answers: IndexByte, TrimLeft at sets of bytes below 128. -/
namespace Go.Proofs.YtfgpjplfplbcdaaGreatDoor
open Go.ChangeShapes Go.WideShapes Go.ChangeAt Go.RowKit
open Lx
set_option linter.unusedVariables false
namespace Lx
theorem indexByte_neg (l : B) (c : UInt8) : decide (Lib.indexByte l c < 0) = !l.contains c := by
  induction l with
  | nil => rfl
  | cons b r ih =>
    unfold Lib.indexByte
    by_cases h : b = c
    · rw [if_pos (by simpa using h)]
      subst h
      simp
    · rw [if_neg (by simpa using h)]
      have h2 : (c == b) = false := by simpa using fun e => h e.symm
      rw [List.contains_cons, h2, Bool.false_or, ← ih]
      by_cases hn : Lib.indexByte r c = -1
      · rw [if_pos (by simpa using hn), hn]
      · rw [if_neg (by simpa using hn)]
        have := ih
        have hge : Lib.indexByte r c = -1 ∨ 0 ≤ Lib.indexByte r c := by
          clear ih this h2 hn
          induction r with
          | nil => exact Or.inl rfl
          | cons d q ihq =>
            unfold Lib.indexByte
            split
            · exact Or.inr (by omega)
            · rcases ihq with e | e
              · rw [e]; exact Or.inl rfl
              · right
                split
                · rename_i hx; simp at hx; omega
                · omega
        have h0 := hge.resolve_left hn
        rw [decide_eq_decide]
        omega
end Lx
set_option maxRecDepth 100000 in
theorem slIndexByte_any (s : ByteArray) (c : Int) (w : World) :
    Calls Tryz.prog 143 #[.string s, .int .u8 c] w fun e w' => e = .returned (.int .i64 (Lib.indexByte s.data.toList c.toNat.toUInt8)) ∧ w' = w := by
  go_enter Tryz.func143, Tryz.ntmps143
  go_wp2
  rw [run_callFunc_extern Tryz.func150 (by kernel_rfl) (by kernel_rfl) (by kernel_rfl) (e := Extern.BytealgIndexByte.indexByte) (by kernel_rfl), Lib.run_indexByteString]
  simp only [Result.andThen]
  rw [Oper.upon_value]
  go_wp2
  go_ret
  exact ⟨rfl, rfl⟩
theorem sIndexByte9_any (s : ByteArray) (c : Int) (w : World) :
    Calls Tryz.prog 130 #[.string s, .int .u8 c] w fun e w' => e = .returned (.int .i64 (Lib.indexByte s.data.toList c.toNat.toUInt8)) ∧ w' = w := by
  go_enter Tryz.func130, Tryz.ntmps130
  go_wp2_with (go_at_call 143; refine (slIndexByte_any _ _ _).mono ?_; rintro e w' ⟨rfl, rfl⟩)
  go_ret
  exact ⟨rfl, rfl⟩
set_option maxRecDepth 100000 in
theorem setHas_any (b : Nat) (x : UInt8) (v : Bool) (w : World) (hc : w.cell? ⟨b, x.toNat, none⟩ = some (.bool v)) :
    Calls Tryz.prog 99 #[.pointer (some ⟨b, 0, none⟩), .int .u8 x.toNat] w fun e w' => e = .returned (.bool v) ∧ w' = w := by
  have hx256 : (x.toNat : Int) < 256 := by have := UInt8.toNat_lt x; omega
  go_enter Tryz.func99, Tryz.ntmps99
  go_wp2
  go_ret
  exact ⟨rfl, rfl⟩
namespace Lx
/-- without the bytes of a set ahead -/
def trimL (cs l : B) : B := l.dropWhile (fun b => cs.contains b)
/-- a loop that cuts bytes off: what is left -/
theorem dropWhile_at (l cs : B) (k : Nat) (hk : k ≤ l.length) (h1 : ∀ (j : Nat) b, j < k → l[j]? = some b → cs.contains b = true) (h2 : ∀ b, l[k]? = some b → cs.contains b = false) :
    trimL cs l = l.drop k := by
  unfold trimL
  induction k generalizing l with
  | zero =>
    cases l with
    | nil => rfl
    | cons c r => rw [List.dropWhile_cons, h2 c rfl]; rfl
  | succ k ih =>
    cases l with
    | nil => simp at hk
    | cons c r =>
      rw [List.dropWhile_cons, h1 0 c (by omega) rfl, if_pos rfl, List.drop_succ_cons]
      exact ih r (by simpa using hk) (fun j b hj hb => h1 (j + 1) b (by omega) (by simpa using hb)) (fun b hb => h2 b (by simpa using hb))
theorem ext_one {s : ByteArray} {k : Nat} (hk : k < s.size) : (str (s.data.toList.drop k)).extract 1 (s.size - k) = str (s.data.toList.drop (k + 1)) := by
  rw [ext_str, str_list, List.drop_drop, List.take_of_length_le]
  rw [List.length_drop, ← Lib.size_eq]; omega
theorem str_head {s : ByteArray} {k : Nat} (hk : k < s.size) (h : 0 < (str (s.data.toList.drop k)).size) : (str (s.data.toList.drop k))[0]'h = s[k]'hk := by
  have : (str (s.data.toList.drop k)).data.toList[0]? = some ((str (s.data.toList.drop k))[0]'h) := Lib.data_getElem? _ 0 h
  rw [str_list, List.getElem?_drop, Nat.add_zero, Lib.data_getElem? s k hk] at this
  exact (Option.some.inj this).symm
end Lx
set_option maxHeartbeats 1600000 in
set_option maxRecDepth 100000 in
theorem trimLeftSet_any (s : ByteArray) (b : Nat) (cs : B) (w : World) (hset : ∀ x : UInt8, w.cell? ⟨b, x.toNat, none⟩ = some (.bool (cs.contains x))) :
    Calls Tryz.prog 80 #[.string s, .pointer (some ⟨b, 0, none⟩)] w fun e w' => e = .returned (.string (str (trimL cs s.data.toList))) ∧ w' = w := by
  have HS : Hid _ := hset
  clear hset
  go_enter Tryz.func80, Tryz.ntmps80
  go_wp2
  go_loop [0] (fun v => ∃ k : Nat, k ≤ s.size ∧ v = .string (str (s.data.toList.drop k)) ∧ Hid (∀ (j : Nat) b, j < k → s.data.toList[j]? = some b → cs.contains b = true)) (fun v => Lib.strSize v)
  case atStart => exact ⟨0, Nat.zero_le _, by rw [List.drop_zero, str_of], fun j b hj => absurd hj (Nat.not_lt_zero _)⟩
  case round =>
    obtain ⟨k, hk, rfl, hc⟩ := hrel
    have hts : (str (s.data.toList.drop k)).size = s.size - k := by rw [str_size, List.length_drop, ← Lib.size_eq]
    by_cases h0 : k < s.size
    · have hp : 0 < (str (s.data.toList.drop k)).size := by omega
      have hx := str_head h0 hp
      have hx1 := ext_one h0
      have HK : Hid (s.data.toList[k]? = some (s[k]'h0)) := Lib.data_getElem? s k h0
      have HE : Hid (str (s.data.toList.drop k) = str (s.data.toList.drop k)) := rfl
      have hcx := HS.out (s[k]'h0)
      generalize hq : (s[k]'h0) = x at *
      have hi : (0 : Int) < ((s.size - k : Nat) : Int) := by omega
      generalize ht : str (s.data.toList.drop k) = t at hts hp hx hx1 ⊢
      have HT : Hid (str (s.data.toList.drop k) = t) := ht
      clear ht hq
      cases hin : cs.contains x <;> rw [hin] at hcx
      · have HI : Hid (cs.contains x = false) := hin
        clear hin
        go_wp2_with (go_at_call 99; refine (setHas_any _ x _ _ hcx).mono ?_; rintro e w' ⟨rfl, rfl⟩)
        go_ret
        refine ⟨?_, rfl⟩
        have HT' : str (s.data.toList.drop k) = t := HT
        show Ending.returned (Value.string t) = _
        rw [dropWhile_at s.data.toList cs k (by rw [← Lib.size_eq]; exact hk) hc.out (fun b hb => by
          rw [HK.out] at hb; rw [← Option.some.inj hb]; exact HI), HT']
      · have HI : Hid (cs.contains x = true) := hin
        clear hin
        go_wp2_with (go_at_call 99; refine (setHas_any _ x _ _ hcx).mono ?_; rintro e w' ⟨rfl, rfl⟩)
        refine ⟨⟨k + 1, by omega, rfl, fun j b hj hb => ?_⟩, ?_⟩
        · by_cases e : j = k
          · subst e
            rw [HK.out] at hb; rw [← Option.some.inj hb]; exact HI
          · exact hc.out j b (by omega) hb
        · show Lib.strSize (.string _) < Lib.strSize (.string _)
          simp only [Lib.strSize]
          rw [str_size, List.length_drop, ← Lib.size_eq]
          omega
    · have hi : ¬ (0 : Int) < ((s.size - k : Nat) : Int) := by omega
      generalize ht : str (s.data.toList.drop k) = t at hts ⊢
      have HT : Hid (str (s.data.toList.drop k) = t) := ht
      clear ht
      go_wp2
      go_ret
      refine ⟨?_, rfl⟩
      have HT' : str (s.data.toList.drop k) = t := HT
      show Ending.returned (Value.string t) = _
      rw [dropWhile_at s.data.toList cs k (by rw [← Lib.size_eq]; exact hk) hc.out (fun b hb => by
        have : s.data.toList.length ≤ k := by rw [← Lib.size_eq]; omega
        rw [List.getElem?_eq_none this] at hb; cases hb), HT']
end Go.Proofs.YtfgpjplfplbcdaaGreatDoor

/- Layer 9: strings.TrimLeft. -/
namespace Go.Proofs.YtfgpjplfplbcdaaGreatDoor
open Go.ChangeShapes Go.WideShapes Go.ChangeAt Go.RowKit
open Lx
set_option linter.unusedVariables false
set_option maxHeartbeats 1600000 in
set_option maxRecDepth 100000 in
theorem trimLeftByte_any (s : ByteArray) (c : UInt8) (w : World) :
    Calls Tryz.prog 77 #[.string s, .int .u8 c.toNat] w fun e w' => e = .returned (.string (str (trimL [c] s.data.toList))) ∧ w' = w := by
  go_enter Tryz.func77, Tryz.ntmps77
  go_wp2
  go_loop [0] (fun v => ∃ k : Nat, k ≤ s.size ∧ v = .string (str (s.data.toList.drop k)) ∧ Hid (∀ (j : Nat) b, j < k → s.data.toList[j]? = some b → ([c] : B).contains b = true)) (fun v => Lib.strSize v)
  case atStart => exact ⟨0, Nat.zero_le _, by rw [List.drop_zero, str_of], fun j b hj => absurd hj (Nat.not_lt_zero _)⟩
  case round =>
    obtain ⟨k, hk, rfl, hc⟩ := hrel
    have hts : (str (s.data.toList.drop k)).size = s.size - k := by rw [str_size, List.length_drop, ← Lib.size_eq]
    by_cases h0 : k < s.size
    · have hp : 0 < (str (s.data.toList.drop k)).size := by omega
      have hx := str_head h0 hp
      have hx1 := ext_one h0
      have HK : Hid (s.data.toList[k]? = some (s[k]'h0)) := Lib.data_getElem? s k h0
      generalize hq : (s[k]'h0) = x at *
      have hi : (0 : Int) < ((s.size - k : Nat) : Int) := by omega
      generalize ht : str (s.data.toList.drop k) = t at hts hp hx hx1 ⊢
      have HT : Hid (str (s.data.toList.drop k) = t) := ht
      clear ht hq
      by_cases hin : x = c
      · have HI : Hid (([c] : B).contains x = true) := by rw [hin]; simp [Hid]
        have hb : ((x.toNat : Int) == (c.toNat : Int)) = true := by rw [hin]; simp
        clear hin
        go_wp2
        refine ⟨⟨k + 1, by omega, rfl, fun j b hj hb => ?_⟩, ?_⟩
        · by_cases e : j = k
          · subst e
            rw [HK.out] at hb; rw [← Option.some.inj hb]; exact HI
          · exact hc.out j b (by omega) hb
        · show Lib.strSize (.string _) < Lib.strSize (.string _)
          simp only [Lib.strSize]
          rw [str_size, List.length_drop, ← Lib.size_eq]
          omega
      · have HI : Hid (([c] : B).contains x = false) := by simpa [Hid] using hin
        have hb : ((x.toNat : Int) == (c.toNat : Int)) = false := beq_eq_false_iff_ne.2 fun e => hin (UInt8.toNat_inj.1 (by exact_mod_cast e))
        clear hin
        go_wp2
        go_ret
        refine ⟨?_, rfl⟩
        have HT' : str (s.data.toList.drop k) = t := HT
        show Ending.returned (Value.string t) = _
        rw [dropWhile_at s.data.toList [c] k (by rw [← Lib.size_eq]; exact hk) hc.out (fun b hb => by
          rw [HK.out] at hb; rw [← Option.some.inj hb]; exact HI), HT']
    · have hi : ¬ (0 : Int) < ((s.size - k : Nat) : Int) := by omega
      generalize ht : str (s.data.toList.drop k) = t at hts ⊢
      have HT : Hid (str (s.data.toList.drop k) = t) := ht
      clear ht
      go_wp2
      go_ret
      refine ⟨?_, rfl⟩
      have HT' : str (s.data.toList.drop k) = t := HT
      show Ending.returned (Value.string t) = _
      rw [dropWhile_at s.data.toList [c] k (by rw [← Lib.size_eq]; exact hk) hc.out (fun b hb => by
        have : s.data.toList.length ≤ k := by rw [← Lib.size_eq]; omega
        rw [List.getElem?_eq_none this] at hb; cases hb), HT']
namespace Lx
/-- one load, one store by hand -/
theorem op_load {P : Program} {o : Oper} {a : Act} {w w1 : World} {next : Act → World → Prop} {Q : Exit → Act → World → Prop} {t : TypeId} {x : Operand} (v : Value) (ho : o.op = .load t x)
    (h : (Instr.loadAt t (a.eval x)).run P w = .ok v w1) (hn : next (a.put o.dst v) w1) : Oper.wp P o a w next Q := by
  unfold Oper.wp execOp
  rw [ho]
  simp only [Sem.run_bind, Sem.run_pure, h, Result.andThen]
  exact hn
theorem aset_size : (Tryz.prog.info? 138).map (·.size) = some 256 := by kernel_rfl
theorem zeroSet : Tryz.zeroCells138 = Lib.setCells [] := by kernel_rfl
theorem aset_und : Tryz.prog.underlying 138 = some (.array 256 4) := by kernel_rfl
end Lx
set_option maxHeartbeats 4000000 in
set_option maxRecDepth 100000 in
theorem makeSet_any (z : ByteArray) (w : World) (hz : z.size < 1000) (hascii : ∀ (j : Nat) b, z.data.toList[j]? = some b → b.toNat < 128) :
    Calls Tryz.prog 79 #[.string z] w fun e w' => e = .returned (.tuple #[.agg (Lib.setCells z.data.toList), .bool true]) ∧ w' = w.alloc (.cells (Lib.setCells z.data.toList) 138) := by
  have HA : Hid (∀ (j : Nat) b, z.data.toList[j]? = some b → b.toNat < 128) := hascii
  clear hascii
  go_enter Tryz.func79, Tryz.ntmps79
  go_wp2
  rw [show Tryz.zeroCells138 = Lib.setCells [] from zeroSet]
  go_loopg [4] z.size (fun g s4 wx => ∃ i : Nat, i + g = z.size ∧ s4 = .int .i64 i ∧ wx = w.alloc (.cells (Lib.setCells (z.data.toList.take i)) 138))
  case atStart => exact ⟨0, by omega, rfl, rfl⟩
  case round =>
    obtain ⟨i, hig, rfl, rfl⟩ := hrel
    cases gk with
    | zero =>
      obtain rfl : i = z.size := by omega
      have hiz : ¬ ((z.size : Int) < (z.size : Int)) := by omega
      rw [show z.data.toList.take z.size = z.data.toList from List.take_of_length_le (by rw [← Lib.size_eq]; exact Nat.le_refl _)]
      have hld := run_loadVar_new (P := Tryz.prog) w 138 (Lib.setCells z.data.toList) 256 4 aset_und (by rw [Lib.setCells_size]; exact aset_size)
      have hsz := Lib.setCells_size z.data.toList
      have hla := run_loadAt_new (P := Tryz.prog) w 138 (Lib.setCells z.data.toList) 256 4 aset_und (by rw [hsz]; exact aset_size)
      have hsa := run_storeCells_new (P := Tryz.prog) w 138 (Lib.setCells z.data.toList) (Lib.setCells z.data.toList) (by rw [hsz]; exact aset_size) rfl (Lib.setCells_one _)
      generalize hW : w.alloc (.cells (Lib.setCells z.data.toList) 138) = W at hld hla hsa ⊢
      have HW : Hid (w.alloc (.cells (Lib.setCells z.data.toList) 138) = W) := hW
      have HL : Hid _ := hla
      have HS : Hid _ := hsa
      have HD : Hid _ := hld
      clear hW hla hsa hld
      generalize hC : Lib.setCells z.data.toList = C at *
      have HC : Hid (Lib.setCells z.data.toList = C) := hC
      clear hC
      go_wp2
      refine op_load (.agg C) rfl HL.out ?_
      go_wp2
      rw [HS.out]
      simp only [Result.andThen]
      rw [Oper.upon_skip]
      go_wp2
      (try simp only [Exit.inBlock, Exit.then])
      refine bodyPost_ret (v := .tuple #[.agg C, .bool true]) ?_ rfl ⟨by rw [HC.out], by rw [HC.out, HW.out]⟩
      rw [results_cell_tmp rfl]
      simp [asAddr, Result.andThen, HD.out]
    | succ g =>
      have hi : i < z.size := by omega
      have hiz : (i : Int) < (z.size : Int) := by omega
      obtain ⟨x, hx⟩ : ∃ x : UInt8, z[i]'hi = x := ⟨_, rfl⟩
      have hxl : z.data.toList[i]? = some x := by rw [← hx]; exact Lib.data_getElem? z i hi
      have hx128 : ¬ ((128 : Int) ≤ (x.toNat : Int)) := by have := HA.out i x hxl; omega
      have hx256 : (x.toNat : Int) < 256 := by have := HA.out i x hxl; omega
      have hcell := Lib.setCells_at (z.data.toList.take i) x
      have Hx : Hid (z.data.toList[i]? = some x) := hxl
      clear hxl
      go_wp2
      go_roundg g
      case measure => omega
      case rel => exact ⟨i + 1, by omega, by first | rfl | simp, by rw [List.take_add_one, Hx.out]; simp only [Option.toList]; rw [Lib.setCells_snoc]⟩
namespace Lx
end Lx
set_option maxHeartbeats 4000000 in
set_option maxRecDepth 100000 in
/-- a set of two bytes and more -/
theorem trimLeft_many (s z : ByteArray) (w : World) (h2 : 2 ≤ z.size) (h0 : 0 < s.size) (hz : z.size < 1000) (hascii : ∀ (j : Nat) b, z.data.toList[j]? = some b → b.toNat < 128) :
    Calls Tryz.prog 129 #[.string s, .string z] w fun e w' => e = .returned (.string (str (trimL z.data.toList s.data.toList))) ∧ Below w.heap.size w w' := by
  have hM := makeSet_any z w hz hascii
  clear hascii
  have hemp : z.toList.isEmpty = false := by
    rw [Lib.toList_data]
    cases h : z.data.toList with
    | nil => have := Lib.size_eq z; rw [h, List.length_nil] at this; omega
    | cons _ _ => rfl
  have hemps : s.toList.isEmpty = false := by
    rw [Lib.toList_data]
    cases h : s.data.toList with
    | nil => have := Lib.size_eq s; rw [h, List.length_nil] at this; omega
    | cons _ _ => rfl
  have hn1 : ((z.size : Int) == 1) = false := beq_eq_false_iff_ne.2 (by omega)
  have hcellAt : ∀ x : UInt8, ((w.alloc (.cells (Lib.setCells z.data.toList) 138)).alloc (.cells (Lib.setCells z.data.toList) 138)).cell? ⟨w.heap.size + 1, x.toNat, none⟩ = some (.bool (z.data.toList.contains x)) := fun x => by
    rw [World.cell?_alloc_at _ _ _ _ (by simp), Lib.setCells_at]
  have hT := trimLeftSet_any s (w.heap.size + 1) z.data.toList _ hcellAt
  have hsz := Lib.setCells_size z.data.toList
  have hsc := run_storeCells_new (P := Tryz.prog) (w.alloc (.cells (Lib.setCells z.data.toList) 138)) 138 Tryz.zeroCells138 (Lib.setCells z.data.toList) (by rw [hsz]; exact aset_size) (by rw [hsz, zeroSet]; exact Lib.setCells_size _) (Lib.setCells_one _)
  simp only [World.size_alloc] at hsc
  have HC : Hid _ := hsc
  clear hsc hcellAt
  go_enter Tryz.func129, Tryz.ntmps129
  go_wp2_with (go_at_call 79; refine hM.mono ?_; rintro e w' ⟨rfl, hw⟩; rw [hw])
  rw [HC.out]
  simp only [Result.andThen]
  rw [Oper.upon_skip]
  go_wp2_with (go_at_call 80; refine hT.mono ?_; rintro e w' ⟨rfl, hw⟩; rw [hw])
  go_ret
  exact ⟨rfl, ((Below.refl _ w).alloc (Nat.le_refl _) _).alloc (by simp) _⟩
set_option maxRecDepth 100000 in
/-- a set of one byte -/
theorem trimLeft_one (s : ByteArray) (c : UInt8) (w : World) (hc : c.toNat < 128) (h0 : 0 < s.size) :
    Calls Tryz.prog 129 #[.string s, .string ⟨#[c]⟩] w fun e w' => e = .returned (.string (str (trimL [c] s.data.toList))) ∧ w' = w := by
  have hemps : s.toList.isEmpty = false := by
    rw [Lib.toList_data]
    cases h : s.data.toList with
    | nil => have := Lib.size_eq s; rw [h, List.length_nil] at this; omega
    | cons _ _ => rfl
  have hemp : (ByteArray.mk #[c]).toList.isEmpty = false := by rw [Lib.toList_data]; rfl
  have hi : (c.toNat : Int) < 128 := by omega
  have hx : ∀ h, (ByteArray.mk #[c])[0]'h = c := fun _ => rfl
  go_enter Tryz.func129, Tryz.ntmps129
  go_wp2_with (go_at_call 77; refine (trimLeftByte_any _ c _).mono ?_; rintro e w' ⟨rfl, rfl⟩)
  go_ret
  exact ⟨rfl, rfl⟩
set_option maxRecDepth 100000 in
theorem trimLeft_none (z : ByteArray) (w : World) :
    Calls Tryz.prog 129 #[.string ⟨#[]⟩, .string z] w fun e w' => e = .returned (.string ⟨#[]⟩) ∧ w' = w := by
  go_enter Tryz.func129, Tryz.ntmps129
  go_wp2
  go_ret
  exact ⟨rfl, rfl⟩
namespace Lx
theorem empty_of {s : ByteArray} (h : ¬ 0 < s.size) : s = ⟨#[]⟩ := by
  have : s.data.toList = [] := List.length_eq_zero_iff.mp (by rw [← Lib.size_eq]; omega)
  rw [← str_of s, this]; rfl
end Lx
theorem trimLeft_set (cs : B) (s : ByteArray) (w : World) (h2 : 2 ≤ cs.length) (hz : cs.length < 1000) (hascii : cs.all (fun b => decide (b.toNat < 128)) = true) :
    Calls Tryz.prog 129 #[.string s, .string ⟨cs.toArray⟩] w fun e w' => e = .returned (.string (str (trimL cs s.data.toList))) ∧ Below w.heap.size w w' := by
  by_cases h0 : 0 < s.size
  · have := trimLeft_many s (str cs) w (by rw [str_size]; exact h2) h0 (by rw [str_size]; exact hz) (fun j b hb => by
      rw [str_list] at hb
      simpa using List.all_eq_true.mp hascii b (List.mem_of_getElem? hb))
    rw [str_list] at this
    exact this
  · obtain rfl := empty_of h0
    refine (trimLeft_none _ _).mono ?_
    rintro e w' ⟨rfl, rfl⟩
    exact ⟨rfl, Below.refl _ _⟩
theorem trimLeft_zero (s : ByteArray) (w : World) :
    Calls Tryz.prog 129 #[.string s, .string ⟨#[48]⟩] w fun e w' => e = .returned (.string (str (trimL [48] s.data.toList))) ∧ w' = w := by
  by_cases h0 : 0 < s.size
  · exact trimLeft_one s 48 w (by decide) h0
  · obtain rfl := empty_of h0
    refine (trimLeft_none _ _).mono ?_
    rintro e w' ⟨rfl, rfl⟩
    exact ⟨rfl, rfl⟩
end Go.Proofs.YtfgpjplfplbcdaaGreatDoor

/- Layer 10: strings.Trim. -/
namespace Go.Proofs.YtfgpjplfplbcdaaGreatDoor
open Go.ChangeShapes Go.WideShapes Go.ChangeAt Go.RowKit
open Lx
set_option linter.unusedVariables false
namespace Lx
/-- without the bytes of a set at the end -/
def trimR (cs l : B) : B := (l.reverse.dropWhile (fun b => cs.contains b)).reverse
theorem trimR_at (l cs : B) (k : Nat) (hk : k ≤ l.length) (h1 : ∀ (j : Nat) b, k ≤ j → l[j]? = some b → cs.contains b = true) (h2 : ∀ b, 0 < k → l[k - 1]? = some b → cs.contains b = false) : trimR cs l = l.take k := by
  have at' : ∀ j, j < l.length → l.reverse[j]? = l[l.length - 1 - j]? := fun j hj => List.getElem?_reverse hj
  have e : trimL cs l.reverse = l.reverse.drop (l.length - k) := by
    refine dropWhile_at _ cs _ (by simp) (fun j b hj hb => ?_) (fun b hb => ?_)
    · rw [at' j (by omega)] at hb
      exact h1 _ b (by omega) hb
    · by_cases hk0 : k = 0
      · subst hk0
        simp at hb
      · rw [at' _ (by omega)] at hb
        have : l.length - 1 - (l.length - k) = k - 1 := by omega
        rw [this] at hb
        exact h2 b (by omega) hb
  unfold trimL at e
  unfold trimR
  rw [e, List.drop_reverse, List.reverse_reverse]
  congr 1
  omega
theorem str_last {s : ByteArray} {k : Nat} (hk : k < s.size) (h : k < (str (s.data.toList.take (k + 1))).size) : (str (s.data.toList.take (k + 1)))[k]'h = s[k]'hk := by
  have : (str (s.data.toList.take (k + 1))).data.toList[k]? = some ((str (s.data.toList.take (k + 1)))[k]'h) := Lib.data_getElem? _ k h
  rw [str_list, List.getElem?_take, if_pos (by omega), Lib.data_getElem? s k hk] at this
  exact (Option.some.inj this).symm
theorem ext_last {s : ByteArray} {k : Nat} (hk : k < s.size) : (str (s.data.toList.take (k + 1))).extract 0 k = str (s.data.toList.take k) := by
  rw [ext_str, str_list, List.drop_zero, Nat.sub_zero, List.take_take]
  congr 2
  omega
end Lx
set_option maxHeartbeats 1600000 in
set_option maxRecDepth 100000 in
theorem trimRightSet_any (s : ByteArray) (hs : s.size ≤ 9223372036854775807) (b : Nat) (cs : B) (w : World) (hset : ∀ x : UInt8, w.cell? ⟨b, x.toNat, none⟩ = some (.bool (cs.contains x))) :
    Calls Tryz.prog 81 #[.string s, .pointer (some ⟨b, 0, none⟩)] w fun e w' => e = .returned (.string (str (trimR cs s.data.toList))) ∧ w' = w := by
  have HS : Hid _ := hset
  clear hset
  go_enter Tryz.func81, Tryz.ntmps81
  go_wp2
  go_loop [0] (fun v => ∃ k : Nat, k ≤ s.size ∧ v = .string (str (s.data.toList.take k)) ∧ Hid (∀ (j : Nat) b, k ≤ j → s.data.toList[j]? = some b → cs.contains b = true)) (fun v => Lib.strSize v)
  case atStart => exact ⟨s.size, Nat.le_refl _, by rw [List.take_of_length_le (by rw [← Lib.size_eq]; exact Nat.le_refl _), str_of], fun j b hj hb => by
    rw [List.getElem?_eq_none (by rw [← Lib.size_eq]; exact hj)] at hb; cases hb⟩
  case round =>
    obtain ⟨k, hk, rfl, hc⟩ := hrel
    have hts : (str (s.data.toList.take k)).size = k := by rw [str_size, List.length_take, ← Lib.size_eq]; omega
    cases k with
    | succ k =>
      have h0 : k < s.size := by omega
      have hp : k < (str (s.data.toList.take (k + 1))).size := by omega
      have hx := str_last h0 hp
      have hx1 := ext_last h0
      have HK : Hid (s.data.toList[k]? = some (s[k]'h0)) := Lib.data_getElem? s k h0
      have hcx := HS.out (s[k]'h0)
      generalize hq : (s[k]'h0) = x at *
      have hi : (0 : Int) < ((k + 1 : Nat) : Int) := by omega
      have hi1 : ((k + 1 : Nat) : Int) - 1 = k := by omega
      have hk9 : (k : Int) ≤ 9223372036854775806 := by omega
      generalize ht : str (s.data.toList.take (k + 1)) = t at hts hp hx hx1 ⊢
      have HT : Hid (str (s.data.toList.take (k + 1)) = t) := ht
      clear ht hq
      cases hin : cs.contains x <;> rw [hin] at hcx
      · have HI : Hid (cs.contains x = false) := hin
        clear hin
        go_wp2_with (go_at_call 99; refine (setHas_any _ x _ _ hcx).mono ?_; rintro e w' ⟨rfl, rfl⟩)
        go_ret
        refine ⟨?_, rfl⟩
        have HT' : str (s.data.toList.take (k + 1)) = t := HT
        show Ending.returned (Value.string t) = _
        rw [trimR_at s.data.toList cs (k + 1) (by rw [← Lib.size_eq]; exact hk) hc.out (fun b _ hb => by
          rw [Nat.add_sub_cancel, HK.out] at hb; rw [← Option.some.inj hb]; exact HI), HT']
      · have HI : Hid (cs.contains x = true) := hin
        clear hin
        go_wp2_with (go_at_call 99; refine (setHas_any _ x _ _ hcx).mono ?_; rintro e w' ⟨rfl, rfl⟩)
        refine ⟨⟨k, by omega, rfl, fun j b hj hb => ?_⟩, ?_⟩
        · by_cases e : j = k
          · subst e
            rw [HK.out] at hb; rw [← Option.some.inj hb]; exact HI
          · exact hc.out j b (by omega) hb
        · show Lib.strSize (.string _) < Lib.strSize (.string _)
          simp only [Lib.strSize]
          rw [str_size, List.length_take, ← Lib.size_eq]
          omega
    | zero =>
      have hi : ¬ (0 : Int) < ((0 : Nat) : Int) := by omega
      generalize ht : str (s.data.toList.take 0) = t at hts ⊢
      have HT : Hid (str (s.data.toList.take 0) = t) := ht
      clear ht
      go_wp2
      go_ret
      refine ⟨?_, rfl⟩
      have HT' : str (s.data.toList.take 0) = t := HT
      show Ending.returned (Value.string t) = _
      rw [trimR_at s.data.toList cs 0 (Nat.zero_le _) hc.out (fun b h => absurd h (Nat.not_lt_zero _)), HT']
set_option maxHeartbeats 4000000 in
set_option maxRecDepth 100000 in
/-- a set of two bytes and more -/
theorem trim_many (s z : ByteArray) (hs : s.size ≤ 9223372036854775807) (w : World) (h2 : 2 ≤ z.size) (h0 : 0 < s.size) (hz : z.size < 1000) (hascii : ∀ (j : Nat) b, z.data.toList[j]? = some b → b.toNat < 128) :
    Calls Tryz.prog 64 #[.string s, .string z] w fun e w' => e = .returned (.string (str (trimL z.data.toList (trimR z.data.toList s.data.toList)))) ∧ Below w.heap.size w w' := by
  have hM := makeSet_any z w hz hascii
  clear hascii
  have hemp : z.toList.isEmpty = false := by
    rw [Lib.toList_data]
    cases h : z.data.toList with
    | nil => have := Lib.size_eq z; rw [h, List.length_nil] at this; omega
    | cons _ _ => rfl
  have hemps : s.toList.isEmpty = false := by
    rw [Lib.toList_data]
    cases h : s.data.toList with
    | nil => have := Lib.size_eq s; rw [h, List.length_nil] at this; omega
    | cons _ _ => rfl
  have hn1 : ((z.size : Int) == 1) = false := beq_eq_false_iff_ne.2 (by omega)
  have hcellAt : ∀ x : UInt8, ((w.alloc (.cells (Lib.setCells z.data.toList) 138)).alloc (.cells (Lib.setCells z.data.toList) 138)).cell? ⟨w.heap.size + 1, x.toNat, none⟩ = some (.bool (z.data.toList.contains x)) := fun x => by
    rw [World.cell?_alloc_at _ _ _ _ (by simp), Lib.setCells_at]
  have hT := trimRightSet_any s hs (w.heap.size + 1) z.data.toList _ hcellAt
  have hT2 := trimLeftSet_any (str (trimR z.data.toList s.data.toList)) (w.heap.size + 1) z.data.toList _ hcellAt
  rw [str_list] at hT2
  have hsz := Lib.setCells_size z.data.toList
  have hsc := run_storeCells_new (P := Tryz.prog) (w.alloc (.cells (Lib.setCells z.data.toList) 138)) 138 Tryz.zeroCells138 (Lib.setCells z.data.toList) (by rw [hsz]; exact aset_size) (by rw [hsz, zeroSet]; exact Lib.setCells_size _) (Lib.setCells_one _)
  simp only [World.size_alloc] at hsc
  have HC : Hid _ := hsc
  clear hsc hcellAt
  go_enter Tryz.func64, Tryz.ntmps64
  go_wp2_with (go_at_call 79; refine hM.mono ?_; rintro e w' ⟨rfl, hw⟩; rw [hw])
  rw [HC.out]
  simp only [Result.andThen]
  rw [Oper.upon_skip]
  go_wp2_with (first | (go_at_call 81; refine hT.mono ?_; rintro e w' ⟨rfl, hw⟩; rw [hw]) | (go_at_call 80; refine hT2.mono ?_; rintro e w' ⟨rfl, hw⟩; rw [hw]))
  go_ret
  exact ⟨rfl, ((Below.refl _ w).alloc (Nat.le_refl _) _).alloc (by simp) _⟩
set_option maxRecDepth 100000 in
theorem trim_none (z : ByteArray) (w : World) :
    Calls Tryz.prog 64 #[.string ⟨#[]⟩, .string z] w fun e w' => e = .returned (.string ⟨#[]⟩) ∧ w' = w := by
  go_enter Tryz.func64, Tryz.ntmps64
  go_wp2
  go_ret
  exact ⟨rfl, rfl⟩
theorem trim_set (cs : B) (s : ByteArray) (hs : s.size ≤ 9223372036854775807) (w : World) (h2 : 2 ≤ cs.length) (hz : cs.length < 1000) (hascii : cs.all (fun b => decide (b.toNat < 128)) = true) :
    Calls Tryz.prog 64 #[.string s, .string ⟨cs.toArray⟩] w fun e w' => e = .returned (.string (str (trimL cs (trimR cs s.data.toList)))) ∧ Below w.heap.size w w' := by
  by_cases h0 : 0 < s.size
  · have := trim_many s (str cs) hs w (by rw [str_size]; exact h2) h0 (by rw [str_size]; exact hz) (fun j b hb => by
      rw [str_list] at hb
      simpa using List.all_eq_true.mp hascii b (List.mem_of_getElem? hb))
    rw [str_list] at this
    exact this
  · obtain rfl := empty_of h0
    refine (trim_none _ _).mono ?_
    rintro e w' ⟨rfl, rfl⟩
    exact ⟨rfl, Below.refl _ _⟩
end Go.Proofs.YtfgpjplfplbcdaaGreatDoor


import Derived.Below
import Derived.BigQuiet
import Derived.ChangeOld
import Derived.Deep.CutRange
import Derived.Deep.LoopGhost
import Derived.Deep.QuietTactic
import Derived.Deep.RegionHeld3
import Derived.Deep.RegionWith
import Derived.Deep.WholeRow
import Derived.KernelRfl
import Derived.LaidEql
import Derived.Laws.AppendOwn
import Derived.Laws.BitsAllLaws
import Derived.Laws.CopyRow
import Derived.Laws.EntriesVeiled
import Derived.Laws.Externs
import Derived.Laws.IdiomCopy
import Derived.Laws.IdiomRangeMap
import Derived.Laws.RangeString
import Derived.Laws.ResultCell
import Derived.Laws.Runes
import Derived.Laws.Strings3
import Derived.Lib.AppendIntMem
import Derived.Lib.AsciiSet
import Derived.Lib.AtoiErrMem
import Derived.Lib.Builder
import Derived.Lib.Bytealg
import Derived.Lib.ConvBytes
import Derived.Lib.IndexBytes
import Derived.Lib.ItoaLen
import Derived.Lib.ItoaNum
import Derived.Lib.Strings
import Derived.Lib.TrimByte
import Derived.Lib.Walk
import Derived.OpenShut
import Derived.OwnWalk
import Derived.ProofKit
import Derived.RowKitTokens
import Derived.Shelf.Strconv.Clone
import Derived.Shelf.Strconv.Itoa3
import Derived.Shelf.Strings.BuilderK
import Derived.Shelf.Strings.OnBuilder
import Derived.ShutString
import Derived.Stop.Asserts
import Derived.WalkKit
import Derived.WalkLawsBesides
import Derived.WalkSpells
import Derived.Test.YtfgpjplfplbcdaaGreatDoorPl17
import Derived.Test.YtfgpjplfplbcdaaGreatDoorPl20
import Derived.Test.YtfgpjplfplbcdaaGreatDoorPl24
import Derived.Test.YtfgpjplfplbcdaaGreatDoorPl25
/- Layer 18: the law's turned. -/
namespace Go.Proofs.YtfgpjplfplbcdaaGreatDoor
open Go.ChangeShapes Go.WideShapes Go.ChangeAt Go.RowKit
open Lx Tk
set_option linter.unusedVariables false
namespace Tk
theorem fl_none (a : Nat) (b : B) : flL a a b = b := by unfold flL; simp
theorem fl_len {a z : Nat} {b : B} (h : a ≤ z) (hz : z ≤ b.length) : (flL a z b).length = b.length := by unfold flL; simp; omega
theorem fl_get {a z : Nat} {b : B} (h : a ≤ z) (hz : z < b.length) : (flL a z b).getD z 0 = b.getD z 0 := by
  unfold flL
  rw [← List.append_assoc, List.getD_eq_getElem?_getD, List.getElem?_append_right (by simp; omega), List.getElem?_drop]
  have : z + (z - (b.take a ++ ((b.drop a).take (z - a)).map flB).length) = z := by simp; omega
  rw [this, List.getD_eq_getElem?_getD]
theorem fl_set {a z : Nat} {b : B} (h : a ≤ z) (hz : z < b.length) : (flL a z b).set z (flB (b.getD z 0)) = flL a (z + 1) b := by
  have hl : (b.take a ++ ((b.drop a).take (z - a)).map flB).length = z := by simp; omega
  unfold flL
  rw [← List.append_assoc, List.set_append_right _ _ (by omega), hl, Nat.sub_self, List.drop_eq_getElem_cons hz, List.set_cons_zero]
  have e1 : z + 1 - a = (z - a) + 1 := by omega
  have e2 : (b.drop a)[z - a]? = some b[z] := by rw [List.getElem?_drop, show a + (z - a) = z from by omega, List.getElem?_eq_getElem hz]
  rw [e1, List.take_add_one, e2, List.getD_eq_getElem?_getD, List.getElem?_eq_getElem hz, List.map_append]
  simp only [List.append_assoc]
  rfl
def stT (b : B) (c : Ct) : B := if c.kind = 1 then flL c.fr c.to b else b
theorem stT_len {b : B} {c : Ct} (h1 : c.fr ≤ c.to) (h2 : c.to ≤ b.length) : (stT b c).length = b.length := by
  unfold stT
  split
  · exact fl_len h1 h2
  · rfl
theorem stT_all : ∀ (l : List Ct) (b : B), (∀ c ∈ l, c.fr ≤ c.to ∧ c.to ≤ b.length) → (l.foldl stT b).length = b.length
  | [], b, _ => rfl
  | c :: l, b, h => by
    have h1 := h c (List.mem_cons_self ..)
    have e := stT_len (b := b) h1.1 h1.2
    rw [List.foldl_cons, stT_all l _ (fun d hd => by rw [e]; exact h d (List.mem_cons_of_mem _ hd)), e]
set_option maxRecDepth 100000 in
theorem xor32 (x : UInt8) : bits .xor .u8 (x.toNat : Int) 32 = ((flB x).toNat : Int) := by
  have := bytes18 (p := fun x => bits .xor .u8 (x.toNat : Int) 32 == ((flB x).toNat : Int)) (by decide) x
  simpa using this
end Tk
set_option maxHeartbeats 3200000 in
set_option maxRecDepth 100000 in
theorem turned18_any {w : World} {v : Value} {l : List Ct} (hR : Rt w v (l.map Ct.tg)) (s : ByteArray) (hs : s.size ≤ 100000000) (hl : l.length ≤ 100000000) (hle : ∀ c ∈ l, c.fr ≤ c.to ∧ c.to ≤ s.size) :
    Calls Tryz.prog 21 #[.string s, v] w fun e w' => e = .returned (.string (str (l.foldl stT s.data.toList))) ∧ Below w.heap.size w w' := by
  obtain ⟨a1, k1, rfl⟩ := hR.slice
  rw [List.length_map] at hR ⊢
  obtain ⟨cap, w1, hcv, hbw, hb1⟩ := conv_text18 w s
  have HR : Hid (Rt w (.slice a1 l.length k1) (l.map Ct.tg)) := hR
  have HLE : Hid _ := hle
  have HSL : Hid (s.size = s.data.toList.length) := Lib.size_eq s
  generalize hg : w.heap.size = g at *
  have HG : Hid (w.heap.size = g) := hg
  have HBW : Hid (BW8 w1 g s.data.toList) := hbw
  have HB1 : Hid (Below g w w1) := hb1
  clear hbw hb1 hR hle hg
  go_enter Tryz.func21, Tryz.ntmps21
  go_wp2
  go_loopw [6] (fun iv wr => ∃ i : Nat, iv = .int .i64 (i : Int) ∧ i ≤ l.length ∧ Hid (BW8 wr g ((l.take i).foldl stT s.data.toList)) ∧ Hid (Below g w wr)) (fun i _ => l.length - (RowKit.intOf i).toNat)
  case atStart => exact ⟨0, rfl, Nat.zero_le _, by show BW8 _ _ _; simpa using HBW.out, HB1⟩
  case round =>
    obtain ⟨i, rfl, hi, HW, HB⟩ := hrel
    by_cases hlt : i < l.length
    · have hii : (i : Int) < (l.length : Int) := by omega
      obtain ⟨c, hc⟩ : ∃ c, l[i]? = some c := ⟨_, List.getElem?_eq_getElem hlt⟩
      have hcle := HLE.out c (List.mem_of_getElem? hc)
      have hTl : ((l.take i).foldl stT s.data.toList).length = s.size := by
        rw [stT_all _ _ (fun d hd => by rw [← HSL.out]; exact HLE.out d (List.mem_of_mem_take hd)), ← HSL.out]
      have hsn : (l.take (i + 1)).foldl stT s.data.toList = stT ((l.take i).foldl stT s.data.toList) c := by
        rw [List.take_add_one, hc, List.foldl_append]; rfl
      obtain ⟨g1, o1, rfl, hcell⟩ := HR.out.at (i := i) (t := c.tg) (by rw [List.getElem?_map, hc]; rfl)
      have HP : Hid (∀ wz, Below g w wz → wz.cell? ⟨g1, o1 + i * 9, none⟩ = some (.int .i64 c.kind) ∧ wz.cell? ⟨g1, o1 + i * 9 + 1, none⟩ = some (.int .i64 (c.fr : Int)) ∧ wz.cell? ⟨g1, o1 + i * 9 + 2, none⟩ = some (.int .i64 (c.to : Int))) := fun wz hz => by
        have lo : ∀ {p : Addr} {u : Value}, w.cell? p = some u → wz.cell? p = some u := fun {p u} h => by
          have h2 := cell_lt h
          rw [HG.out] at h2
          exact (hz.cell h2).trans h
        exact ⟨lo (hcell 0 _ rfl), lo (hcell 1 _ rfl), lo (hcell 2 _ rfl)⟩
      obtain ⟨p0, p1, p2⟩ := HP.out _ HB.out
      clear hcell hc
      generalize (l.take i).foldl stT s.data.toList = T at *
      by_cases hk : c.kind = 1
      · have HS : Hid ((l.take (i + 1)).foldl stT s.data.toList = flL c.fr c.to T) := by show _ = _; rw [hsn]; unfold stT; rw [if_pos hk]
        rw [hk] at p0
        clear hsn
        go_wp2
        go_loopw [7] (fun kv wq => ∃ k : Nat, kv = .int .i64 (k : Int) ∧ c.fr ≤ k ∧ k ≤ c.to ∧ Hid (BW8 wq g (flL c.fr k T)) ∧ Hid (Below g w wq)) (fun k _ => c.to - (RowKit.intOf k).toNat)
        case atStart => exact ⟨c.fr, rfl, Nat.le_refl _, hcle.1, by show BW8 _ _ _; rw [fl_none]; exact HW.out, HB⟩
        case round =>
          obtain ⟨k, rfl, hk0, hk1, HV, HC⟩ := hrel
          obtain ⟨q0, q1, q2⟩ := HP.out _ HC.out
          rw [hk] at q0
          by_cases hkt : k < c.to
          · have hkk : (k : Int) < (c.to : Int) := by omega
            have hkl : k < T.length := by omega
            have hkf : k < (flL c.fr k T).length := by rw [fl_len hk0 (by omega)]; exact hkl
            have pb := HV.out.2.1 k hkf
            rw [fl_get hk0 hkl] at pb
            have fz := HV.out.2.2 k hkf
            have hset := HV.out.set hkf (flB (T.getD k 0))
            rw [fl_set hk0 hkl] at hset
            have hx3 := xor32 (T.getD k 0)
            generalize T.getD k 0 = x at *
            rw [← hx3] at hset
            have HX : Hid _ := hset
            have HTn : Hid (Below g w (wr.setCell ⟨g, k, none⟩ (.int .u8 (bits .xor .u8 (x.toNat : Int) 32)))) := Tn.below HC.out ((Tn.refl g wr).set k _) (Nat.le_refl _) (by rw [HG.out]; exact Nat.le_refl _)
            have hks : (k : Int) < (s.size : Int) := by omega
            clear hset HV HC hkl hkf hx3 HS
            go_wp2
            go_roundw
            case rel => exact ⟨k + 1, by go_num, by omega, by omega, HX, HTn⟩
            case measure => simp [RowKit.intOf]; omega
          · have hkk : ¬ (k : Int) < (c.to : Int) := by omega
            have hke : k = c.to := by omega
            have HS2 : Hid (BW8 wr g ((l.take (i + 1)).foldl stT s.data.toList)) := by
              show BW8 _ _ _
              rw [HS.out, ← hke]; exact HV.out
            clear HS HV
            go_wp2
            go_roundw
            case rel => exact ⟨i + 1, by go_num, by omega, HS2, HC⟩
            case measure => simp [RowKit.intOf]; omega
      · have dk : (c.kind == 1) = false := by simpa using hk
        have HS : Hid (BW8 wr g ((l.take (i + 1)).foldl stT s.data.toList)) := by show BW8 _ _ _; rw [hsn]; unfold stT; rw [if_neg hk]; exact HW.out
        clear hsn hk
        go_wp2
        go_loopw [7] (fun kv wq => kv = .int .i64 (c.fr : Int) ∧ wq = wr) (fun _ _ => 0)
        case atStart => exact ⟨rfl, rfl⟩
        case round =>
          obtain ⟨rfl, rfl⟩ := hrel
          by_cases hkt : c.fr < c.to
          · have hkk : (c.fr : Int) < (c.to : Int) := by omega
            go_wp2
            go_roundw
            case rel => exact ⟨i + 1, by go_num, by omega, HS, HB⟩
            case measure => simp [RowKit.intOf]; omega
          · have hkk : ¬ (c.fr : Int) < (c.to : Int) := by omega
            go_wp2
            go_roundw
            case rel => exact ⟨i + 1, by go_num, by omega, HS, HB⟩
            case measure => simp [RowKit.intOf]; omega
    · have hii : ¬ (i : Int) < (l.length : Int) := by omega
      have hie : i = l.length := by omega
      subst hie
      rw [List.take_length] at HW
      have hTl : (l.foldl stT s.data.toList).length = s.size := by
        rw [stT_all _ _ (fun d hd => by rw [← HSL.out]; exact HLE.out d hd), ← HSL.out]
      have hc := HW.out.conv (cap := cap) (n := s.size) hTl.symm
      clear HW hTl
      go_wp2
      go_ret
      exact ⟨rfl, HB.out⟩
end Go.Proofs.YtfgpjplfplbcdaaGreatDoor

/- Layer 18: the law's put. -/
namespace Go.Proofs.YtfgpjplfplbcdaaGreatDoor
open Go.ChangeShapes Go.WideShapes Go.ChangeAt Go.RowKit
open Lx Tk
set_option linter.unusedVariables false
namespace Tk
/-- places that rise -/
def Asc : Nat → List Ct → Nat → Prop
  | k, [], n => k ≤ n
  | k, c :: l, n => k ≤ c.fr ∧ c.fr ≤ c.to ∧ c.to ≤ n ∧ Asc c.to l n
theorem Toks.asc {k : Nat} {r : B} {l : List Ct} {e : Option Nat} (h : Toks k r l e) : Asc k l (k + r.length) := by
  induction h with
  | nil _ => show _ ≤ _; omega
  | bad _ => show _ ≤ _; omega
  | @cons k r l e hp _ ih =>
    have f := cut_f r
    have h1 := f.up hp
    have h2 := f.to
    rw [List.length_drop] at ih
    refine ⟨by show k ≤ k + _; omega, by show k + _ ≤ k + _; omega, by show k + _ ≤ _; omega, ?_⟩
    show Asc (k + (cutR r).to) l (k + r.length)
    have : k + (cutR r).to + (r.length - (cutR r).to) = k + r.length := by omega
    rw [← this]
    exact ih
theorem and7 (h : Int) : ∃ j : Nat, j ≤ 7 ∧ bits .and .i64 h 7 = (j : Int) := by
  refine ⟨(BitVec.ofInt 64 h &&& BitVec.ofInt 64 7).toNat, ?_, ?_⟩
  · rw [BitVec.toNat_and]
    have := @Nat.and_le_right (BitVec.ofInt 64 h).toNat (BitVec.ofInt 64 7).toNat
    have e : (BitVec.ofInt 64 7).toNat = 7 := rfl
    omega
  · have := @Nat.and_le_right (BitVec.ofInt 64 h).toNat (BitVec.ofInt 64 7).toNat
    have e : (BitVec.ofInt 64 7).toNat = 7 := rfl
    show IntKind.i64.wrap ((BitVec.ofInt 64 h &&& BitVec.ofInt 64 7).toNat : Int) = _
    rw [BitVec.toNat_and, IntKind.wrap_i64]
    omega
/-- the blanks that are laid -/
def blP (j : Nat) : B := [32, 10, 9, 13, 32, 32, 9].take j
theorem blP_all (j : Nat) : (blP j).all isBl = true := by
  unfold blP
  rw [List.all_eq_true]
  intro x hx
  have := List.mem_of_mem_take hx
  simp only [List.mem_cons, List.not_mem_nil, or_false] at this
  rcases this with rfl | rfl | rfl | rfl | rfl | rfl | rfl <;> rfl
theorem blP_len (j : Nat) : (blP j).length ≤ 7 := by unfold blP; rw [List.length_take]; simp; omega
theorem blP_ext (j : Nat) : (ByteArray.mk #[32, 10, 9, 13, 32, 32, 9]).extract 0 j = str (blP j) := by
  rw [ext_str]
  rfl
/-- what is laid so far -/
structure PuS (s : ByteArray) (l : List Ct) (i k : Nat) (O : ByteArray) : Prop where
  asc : Asc k (l.drop i) s.size
  len : O.size ≤ k + 7 * i
  bs : ∃ bs : List B, bs.length = i ∧ (∀ b ∈ bs, b.all isBl = true) ∧ ∀ bs', putL 0 s.data.toList l (bs ++ bs') = O.data.toList ++ putL k (s.data.toList.drop k) (l.drop i) bs'
theorem PuS.next {s : ByteArray} {l : List Ct} {i k : Nat} {O : ByteArray} (h : PuS s l i k O) {c : Ct} (hc : l[i]? = some c) (hs : i < l.length) (j : Nat) : k ≤ c.fr ∧ c.fr ≤ c.to ∧ c.to ≤ s.size ∧ PuS s l (i + 1) c.to (O ++ s.extract k c.fr ++ str (blP j) ++ s.extract c.fr c.to) := by
  obtain ⟨h1, h2, bs, h3, h4, h5⟩ := h
  have hd : l.drop i = c :: l.drop (i + 1) := by
    rw [List.drop_eq_getElem_cons hs]
    rw [List.getElem?_eq_getElem hs] at hc
    cases hc
    rfl
  rw [hd] at h1 h5
  obtain ⟨a1, a2, a3, a4⟩ := h1
  have ll := blP_len j
  refine ⟨a1, a2, a3, a4, ?_, bs ++ [blP j], by rw [List.length_append, h3]; rfl, ?_, fun bs' => ?_⟩
  · have e1 : (s.extract k c.fr).size = c.fr - k := by rw [ByteArray.size_extract]; omega
    have e2 : (s.extract c.fr c.to).size = c.to - c.fr := by rw [ByteArray.size_extract]; omega
    have e3 : (str (blP j)).size = (blP j).length := str_size _
    rw [ByteArray.size_append, ByteArray.size_append, ByteArray.size_append, e1, e2, e3]
    omega
  · intro b hb
    rcases List.mem_append.mp hb with hb | hb
    · exact h4 b hb
    · simp at hb; subst hb; exact blP_all j
  · have h6 := h5 (blP j :: bs')
    rw [show (bs ++ [blP j]) ++ bs' = bs ++ (blP j :: bs') from by simp, h6]
    show O.data.toList ++ ((s.data.toList.drop k).take (c.fr - k) ++ (blP j ++ (((s.data.toList.drop k).drop (c.fr - k)).take (c.to - c.fr) ++ putL c.to ((s.data.toList.drop k).drop (c.to - k)) (l.drop (i + 1)) bs'))) = _
    rw [List.drop_drop, List.drop_drop, show k + (c.fr - k) = c.fr from by omega, show k + (c.to - k) = c.to from by omega, ext_str, ext_str]
    simp [str]
theorem PuS.done {s : ByteArray} {l : List Ct} {k : Nat} {O : ByteArray} (h : PuS s l l.length k O) : k ≤ s.size ∧ O.size ≤ s.size + 7 * l.length ∧ ∃ bs : List B, bs.length = l.length ∧ (∀ b ∈ bs, b.all isBl = true) ∧ O ++ s.extract k s.size ++ str [13, 32] = str (putL 0 s.data.toList l bs) := by
  obtain ⟨h1, h2, bs, h3, h4, h5⟩ := h
  rw [List.drop_length] at h1 h5
  have hk : k ≤ s.size := h1
  refine ⟨hk, by omega, bs, h3, h4, ?_⟩
  have h6 := h5 []
  rw [List.append_nil] at h6
  rw [h6]
  have e : putL k (s.data.toList.drop k) [] [] = s.data.toList.drop k ++ [13, 32] := rfl
  rw [e, ext_str, List.take_of_length_le (by rw [List.length_drop, ← Lib.size_eq]; omega)]
  apply ByteArray.ext
  simp [str]
end Tk
set_option maxHeartbeats 3200000 in
set_option maxRecDepth 100000 in
theorem put18_any {w : World} {v : Value} {l : List Ct} (hR : Rt w v (l.map Ct.tg)) (s : ByteArray) (hs : s.size ≤ 100000000) (hl : l.length ≤ 100000000) (hA : Asc 0 l s.size) {a : Option Addr} {n cc : Nat} {z : List Int} (hz : RowAt .i64 w a n z) (hn : n ≤ 9223372036854775807) :
    Calls Tryz.prog 20 #[.string s, v, .slice a n cc] w fun e w' => (∃ bs : List B, bs.length = l.length ∧ (∀ b ∈ bs, b.all isBl = true) ∧ e = .returned (.string (str (putL 0 s.data.toList l bs))) ∧ (str (putL 0 s.data.toList l bs)).size ≤ 950000000) ∧ Below w.heap.size w w' := by
  obtain ⟨a1, k1, rfl⟩ := hR.slice
  rw [List.length_map] at hR ⊢
  have HR : Hid (Rt w (.slice a1 l.length k1) (l.map Ct.tg)) := hR
  have HZ : Hid (RowAt .i64 w a n z) := hz
  have P0 : Hid (PuS s l 0 0 ⟨#[]⟩) := ⟨hA, Nat.zero_le _, ⟨[], ⟨rfl, ⟨fun b hb => by simp at hb, fun bs' => by simp⟩⟩⟩⟩
  clear hR hz hA
  go_enter Tryz.func20, Tryz.ntmps20
  go_wp2
  go_loopw [7, 8, 9] (fun ov av iv wr => ∃ (O : ByteArray) (k i : Nat), ov = .string O ∧ av = .int .i64 (k : Int) ∧ iv = .int .i64 (i : Int) ∧ i ≤ l.length ∧ Hid (PuS s l i k O) ∧ Hid (Below w.heap.size w wr)) (fun _ _ i _ => l.length - (RowKit.intOf i).toNat)
  case atStart => exact ⟨_, 0, 0, rfl, rfl, rfl, Nat.zero_le _, P0, Below.refl _ _⟩
  case round =>
    obtain ⟨O, k, i, rfl, rfl, rfl, hi, HP, HB⟩ := hrel
    by_cases hlt : i < l.length
    · have hii : (i : Int) < (l.length : Int) := by omega
      obtain ⟨c, hc⟩ : ∃ c, l[i]? = some c := ⟨_, List.getElem?_eq_getElem hlt⟩
      obtain ⟨q1, q2, q3, _⟩ := HP.out.next hc hlt 0
      have hOs : O.size ≤ 800000000 := by have := HP.out.len; omega
      have HN : Hid (∀ j, PuS s l (i + 1) c.to (O ++ s.extract k c.fr ++ str (blP j) ++ s.extract c.fr c.to)) := fun j => (HP.out.next hc hlt j).2.2.2
      obtain ⟨g1, o1, rfl, hcell⟩ := HR.out.at (i := i) (t := c.tg) (by rw [List.getElem?_map, hc]; rfl)
      have lo : ∀ {p : Addr} {u : Value}, w.cell? p = some u → wr.cell? p = some u := fun {p u} h => (HB.out.cell (cell_lt h)).trans h
      have p1 : wr.cell? ⟨g1, o1 + i * 9 + 1, none⟩ = some (.int .i64 (c.fr : Int)) := lo (hcell 1 _ rfl)
      have p2 : wr.cell? ⟨g1, o1 + i * 9 + 2, none⟩ = some (.int .i64 (c.to : Int)) := lo (hcell 2 _ rfl)
      have z1 : (k : Int) ≤ (c.fr : Int) := by omega
      have z2 : (c.fr : Int) ≤ (c.to : Int) := by omega
      have z3 : (c.to : Int) ≤ (s.size : Int) := by omega
      have z4 : (c.fr : Int) ≤ (s.size : Int) := by omega
      have e1 : (s.extract k c.fr).size ≤ 100000000 := by rw [ByteArray.size_extract]; omega
      have e2 : (s.extract c.fr c.to).size ≤ 100000000 := by rw [ByteArray.size_extract]; omega
      clear hcell hc lo HP
      by_cases hn0 : n = 0
      · subst hn0
        have x1 := blP_ext 1
        have e3 : (str (blP 1)).size ≤ 7 := by rw [str_size]; exact blP_len 1
        have HN1 := HN.out 1
        clear HN
        go_wp2
        go_quiet (fail)
        go_wp2
        exact ⟨⟨_, c.to, i + 1, rfl, rfl, by go_num, by omega, HN1, below_drewN HB.out _⟩, by simp [RowKit.intOf]; omega⟩
      · obtain ⟨hzl, hz0 | ⟨gz, oz, rfl, hgz, hzc⟩⟩ := HZ.out
        · exact absurd hz0 hn0
        · have hm : i % n < n := Nat.mod_lt _ (by omega)
          have pz := (HB.out.cell (cell_lt (hzc (i % n) (by omega)))).trans (hzc (i % n) (by omega))
          have ez : (i : Int).tmod (n : Int) = ((i % n : Nat) : Int) := by rw [Int.tmod_eq_emod_of_nonneg (by omega)]; omega
          obtain ⟨J, hJ, eJ⟩ := and7 (z.getD (i % n) 0)
          generalize z.getD (i % n) 0 = Z at *
          have hmI : ((i % n : Nat) : Int) < (n : Int) := by omega
          have hn1 : (0 : Int) < (n : Int) := by omega
          have hn2 : ¬ (n : Int) = 0 := by omega
          generalize i % n = M at *
          have eJ8 : (J : Int).tmod 8 = (J : Int) := by rw [Int.tmod_eq_emod_of_nonneg (by omega)]; omega
          have hJ7 : (J : Int) ≤ 7 := by omega
          have x1 := blP_ext J
          have e3 : (str (blP J)).size ≤ 7 := by rw [str_size]; exact blP_len J
          have HN1 := HN.out J
          clear HN hzc hgz hzl
          go_wp2
          go_quiet (fail)
          go_wp2
          exact ⟨⟨_, c.to, i + 1, rfl, rfl, by go_num, by omega, HN1, below_drewN HB.out _⟩, by simp [RowKit.intOf]; omega⟩
    · have hii : ¬ (i : Int) < (l.length : Int) := by omega
      have hie : i = l.length := by omega
      subst hie
      obtain ⟨d1, d2, bs, d3, d4, d5⟩ := HP.out.done
      have z3 : (k : Int) ≤ (s.size : Int) := by omega
      have hOs : O.size ≤ 800000000 := by omega
      have e1 : (s.extract k s.size).size ≤ 100000000 := by rw [ByteArray.size_extract]; omega
      have HD : Hid _ := d5
      have HZ9 : Hid ((str (putL 0 s.data.toList l bs)).size ≤ 950000000) := by
        show _ ≤ _
        rw [← d5, ByteArray.size_append, ByteArray.size_append]
        have : (str [13, 32]).size = 2 := rfl
        omega
      have HB4 : Hid (∀ b ∈ bs, b.all isBl = true) := d4
      clear d5 d4 HP
      go_wp2
      go_ret
      exact ⟨⟨bs, d3, (fun b hb x hx => List.all_eq_true.mp (HB4.out b hb) x hx), by rw [← HD.out]; rfl, HZ9.out⟩, HB.out⟩
end Go.Proofs.YtfgpjplfplbcdaaGreatDoor


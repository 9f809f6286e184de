/- Layer 18: told of a word. -/
import Derived.Test.YtnnpakllehldhaaGreatDoorTkU
import Derived.Deep.QuietTactic
import Derived.BigQuiet
namespace Go.Proofs.YtnnpakllehldhaaGreatDoor
open Go.ChangeShapes Go.WideShapes Go.ChangeAt Go.RowKit
open Lx Tk
set_option linter.unusedVariables false
namespace Tk
theorem str_at {l : B} {i : Nat} {x : UInt8} (h : i < (str l).size) (hx : l[i]? = some x) : (str l)[i]'h = x := by
  have := Lib.data_getElem? (str l) i h
  rw [str_list, hx] at this
  exact (Option.some.inj this).symm
end Tk
set_option maxHeartbeats 3200000 in
set_option maxRecDepth 100000 in
theorem told18_word (s : ByteArray) (fr to_ : Nat) (P : B) (hs : s.size ≤ 1000000000) (h1 : fr ≤ to_) (h2 : to_ ≤ s.size) (hP : s.extract fr to_ = str P) (hl : P.length ≤ 1000000000) (hall : P.all isLt = true) (w : World) :
    Calls Tryz.prog 19 #[.string s, .agg (tkA 1 fr to_ (P.map upB) nmZ0)] w fun e w' => e = .returned (.bool true) ∧ Below w.heap.size w w' := by
  have hi1 : (fr : Int) ≤ (to_ : Int) := by omega
  have hi2 : (to_ : Int) ≤ (s.size : Int) := by omega
  have hU : tkA 1 fr to_ (P.map upB) nmZ0 = #[.int .i64 1, .int .i64 fr, .int .i64 to_, .string (str (P.map upB)), .int .i64 0, .bool false, .string ⟨#[]⟩, .int .i64 0, .string ⟨#[]⟩] := rfl
  rw [hU]
  clear hU
  have hz1 : (str P).size = P.length := str_size P
  have hz2 : (str (P.map upB)).size = P.length := by rw [str_size, List.length_map]
  have HF : Hid (∀ (i : Nat) (h1 : i < (str P).size) (h2 : i < (str (P.map upB)).size), isLt ((str P)[i]'h1) = true ∧ (str (P.map upB))[i]'h2 = upB ((str P)[i]'h1)) := by
    intro i ha hb
    have hi : i < P.length := by omega
    have e1 := str_at ha (List.getElem?_eq_getElem hi)
    have e2 := str_at hb (x := upB (P[i]'hi)) (by rw [List.getElem?_map, List.getElem?_eq_getElem hi]; rfl)
    rw [e1, e2]
    exact ⟨List.all_eq_true.mp hall _ (List.getElem_mem hi), rfl⟩
  have hb0 : Below w.heap.size w (w.alloc (.cells #[.int .i64 1, .int .i64 fr, .int .i64 to_, .string (str (P.map upB)), .int .i64 0, .bool false, .string ⟨#[]⟩, .int .i64 0, .string ⟨#[]⟩] 32)) := (Below.refl _ w).alloc (Nat.le_refl _) _
  have B0 := Bk.new w 32 #[.int .i64 1, .int .i64 fr, .int .i64 to_, .string (str (P.map upB)), .int .i64 0, .bool false, .string ⟨#[]⟩, .int .i64 0, .string ⟨#[]⟩]
  generalize str P = PP at *
  generalize str (P.map upB) = WW at *
  generalize P.length = n at *
  have HB0 : Hid _ := hb0
  clear hall hb0
  have HBk : Hid (Bk (w.alloc (.cells #[.int .i64 1, .int .i64 fr, .int .i64 to_, .string WW, .int .i64 0, .bool false, .string ⟨#[]⟩, .int .i64 0, .string ⟨#[]⟩] 32)) w.heap.size 32 #[.int .i64 1, .int .i64 fr, .int .i64 to_, .string WW, .int .i64 0, .bool false, .string ⟨#[]⟩, .int .i64 0, .string ⟨#[]⟩]) := B0
  clear B0
  go_enter Tryz.func19, Tryz.ntmps19
  go_wp2
  go_loopw [6] (fun iv wr => ∃ i : Nat, iv = .int .i64 (i : Int) ∧ i ≤ n ∧ Hid (Below w.heap.size w wr) ∧ Hid (Bk wr w.heap.size 32 #[.int .i64 1, .int .i64 fr, .int .i64 to_, .string WW, .int .i64 0, .bool false, .string ⟨#[]⟩, .int .i64 0, .string ⟨#[]⟩])) (fun i _ => n - (RowKit.intOf i).toNat)
  case atStart => exact ⟨0, rfl, Nat.zero_le _, HB0, HBk⟩
  case round =>
    obtain ⟨i, rfl, hi, HB, HK⟩ := hrel
    by_cases hlt : i < n
    · have hiP : i < PP.size := by omega
      have hiW : i < WW.size := by omega
      have hii : (i : Int) < (PP.size : Int) := by omega
      have hiw : (i : Int) < (WW.size : Int) := by omega
      obtain ⟨f1, f2⟩ := HF.out i hiP hiW
      obtain ⟨g1, g2, g3⟩ := sm_up f1
      have y3 : wr.cell? ⟨w.heap.size, 3, none⟩ = some (.string WW) := HK.out.cell 3 rfl
      rw [← f2] at g1 g2 g3
      have q1 : ¬ ((WW[i]'hiW).toNat : Int) < 65 := by omega
      have q2 : ¬ (90 : Int) < ((WW[i]'hiW).toNat : Int) := by omega
      have hne : (((smB (WW[i]'hiW)).toNat : Int) != ((smB (PP[i]'hiP)).toNat : Int)) = false := by rw [g1]; simp
      clear f1 f2 g1 g2 g3
      go_wp2_with fail
      go_quiet ((go_at_call 30; exact Calls.quiet_of_same (small18_any _ _)))
      go_wp2
      exact ⟨⟨i + 1, by go_num, by omega, below_drewN HB.out _, HK.out⟩, by simp [RowKit.intOf]; omega⟩
    · have hii : ¬ (i : Int) < (PP.size : Int) := by omega
      go_wp2
      go_ret
      exact ⟨rfl, HB.out⟩
/-- told of a token that is there -/
theorem told18_all (s : ByteArray) (k : Nat) (hs : s.size ≤ 1000000000) (hk : k ≤ s.size) (hp : 0 < (cutR (s.data.toList.drop k)).kind) (w : World) :
    Calls Tryz.prog 19 #[.string s, .agg (tkA (cutR (s.data.toList.drop k)).kind ((k + (cutR (s.data.toList.drop k)).fr : Nat) : Int) ((k + (cutR (s.data.toList.drop k)).to : Nat) : Int) (cutR (s.data.toList.drop k)).word (cutR (s.data.toList.drop k)).num)] w fun e w' => e = .returned (.bool true) ∧ Below w.heap.size w w' := by
  have f := cut_k hp
  have h1 := f.up
  have h2 := f.le
  rw [List.length_drop, ← Lib.size_eq] at h2
  have e : s.extract (k + (cutR (s.data.toList.drop k)).fr) (k + (cutR (s.data.toList.drop k)).to) = str (((s.data.toList.drop k).drop (cutR (s.data.toList.drop k)).fr).take ((cutR (s.data.toList.drop k)).to - (cutR (s.data.toList.drop k)).fr)) := by
    rw [ext_str, List.drop_drop, show k + (cutR (s.data.toList.drop k)).to - (k + (cutR (s.data.toList.drop k)).fr) = (cutR (s.data.toList.drop k)).to - (cutR (s.data.toList.drop k)).fr from by omega]
  have hlen : (((s.data.toList.drop k).drop (cutR (s.data.toList.drop k)).fr).take ((cutR (s.data.toList.drop k)).to - (cutR (s.data.toList.drop k)).fr)).length = (cutR (s.data.toList.drop k)).to - (cutR (s.data.toList.drop k)).fr := by
    rw [List.length_take, List.length_drop, List.length_drop, ← Lib.size_eq]; omega
  have fk := f.kinds
  generalize ((s.data.toList.drop k).drop (cutR (s.data.toList.drop k)).fr).take ((cutR (s.data.toList.drop k)).to - (cutR (s.data.toList.drop k)).fr) = P at *
  rcases fk with ⟨a1, a2, a3, a4, a5⟩ | ⟨a1, a2, a3, a4⟩ | ⟨a1, a2, a3, a4⟩ | ⟨a1, a2, a3, a4⟩ | ⟨a1, a2, a3, a4, a5, a6, a7⟩
  · rw [a1, a2, a3]
    exact told18_word s _ _ P hs (by omega) (by omega) e (by omega) a4 w
  · rw [a1, a2, a3]
    rw [a4] at e
    exact told18_mark s _ _ 2 40 hs (by omega) (by omega) e (Or.inl ⟨rfl, rfl⟩) w
  · rw [a1, a2, a3]
    rw [a4] at e
    exact told18_mark s _ _ 3 41 hs (by omega) (by omega) e (Or.inr (Or.inl ⟨rfl, rfl⟩)) w
  · rw [a1, a2, a3]
    rw [a4] at e
    exact told18_mark s _ _ 4 44 hs (by omega) (by omega) e (Or.inr (Or.inr ⟨rfl, rfl⟩)) w
  · rw [a1, a2]
    exact told18_num s _ _ P _ hs (by omega) (by omega) e (by omega) a3 (by rw [a4, hlen]) a6 w
end Go.Proofs.YtnnpakllehldhaaGreatDoor

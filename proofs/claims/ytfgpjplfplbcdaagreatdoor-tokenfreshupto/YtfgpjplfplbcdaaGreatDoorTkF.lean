/- Layer 18: cut, in all. -/
import Derived.Test.YtfgpjplfplbcdaaGreatDoorTkE
namespace Go.Proofs.YtfgpjplfplbcdaaGreatDoor
open Go.ChangeShapes Go.WideShapes Go.ChangeAt Go.RowKit
open Lx Tk Go.Shelf
set_option linter.unusedVariables false
namespace Tk
/-- the cells of a cut at a place; the wrong place -/
def ctA (k : Nat) (c : Ct) : Array Value := if c.kind = -1 then zero9 else tkA c.kind ((k + c.fr : Nat) : Int) ((k + c.to : Nat) : Int) c.word c.num
def ctW (k : Nat) (c : Ct) : Int := if c.kind = -1 then ((k + c.fr : Nat) : Int) else -1
theorem cutR_cons {r : B} {c : UInt8} {q : B} (h : r.dropWhile isBl = c :: q) : cutR r = (tokB c q).move (r.takeWhile isBl).length := by
  unfold cutR
  rw [h]
theorem cutR_nil {r : B} (h : r.dropWhile isBl = []) : cutR r = ⟨0, r.length, r.length, [], nmZ0⟩ := by
  unfold cutR
  rw [h]
theorem kd_bl {c : UInt8} (h : isBl c = false) : kd c ≠ 1 := by
  have := all_bytes (p := fun c => isBl c || !(kd c == 1)) (by kernel_rfl) c
  rw [h] at this
  simpa using this
theorem kd_lt {c : UInt8} (h : kd c = 2) : isLt c = true := by
  have := all_bytes (p := fun c => !(kd c == 2) || isLt c) (by kernel_rfl) c
  rw [h] at this
  simpa using this
theorem kd_mark {c : UInt8} {k : Int} (h : kd c = k + 1) (hk : k = 2 ∨ k = 3 ∨ k = 4) (q : B) : tokB c q = ⟨k, 0, 1, [], nmZ0⟩ := by
  rcases hk with rfl | rfl | rfl
  · have e : c = 40 := by
      have := all_bytes (p := fun c => !(kd c == 3) || c == 40) (by kernel_rfl) c
      rw [show kd c = 3 from h] at this
      simpa using this
    subst e; rfl
  · have e : c = 41 := by
      have := all_bytes (p := fun c => !(kd c == 4) || c == 41) (by kernel_rfl) c
      rw [show kd c = 4 from h] at this
      simpa using this
    subst e; rfl
  · have e : c = 44 := by
      have := all_bytes (p := fun c => !(kd c == 5) || c == 44) (by kernel_rfl) c
      rw [show kd c = 5 from h] at this
      simpa using this
    subst e; rfl
theorem tokB_lt {c : UInt8} (h : isLt c = true) (q : B) : tokB c q = shutC (c :: q) ⟨1, 0, ((c :: q).takeWhile isLt).length, ((c :: q).takeWhile isLt).map upB, nmZ0⟩ := by
  unfold tokB
  rw [if_pos h]
theorem tokB_num {c : UInt8} (h : kd c = 0) (q : B) : tokB c q = if (longestL ((c :: q).take 65536)).kind = 0 then Ct.bad 0 else shutC (c :: q) ⟨5, 0, (longestL ((c :: q).take 65536)).stop, [], numOf (longestL ((c :: q).take 65536))⟩ := by
  have := all_bytes (p := fun c => !(kd c == 0) || (!isLt c && !(c == 40) && !(c == 41) && !(c == 44))) (by kernel_rfl) c
  rw [h] at this
  simp at this
  unfold tokB
  rw [if_neg (by simp [this.1.1.1]), if_neg this.1.1.2, if_neg this.1.2, if_neg this.2]
theorem ctA_bad {k n j : Nat} : ctA k ((Ct.bad j).move n) = zero9 := if_pos rfl
theorem ctW_bad {k n j : Nat} : ctW k ((Ct.bad j).move n) = ((k + n + j : Nat) : Int) := by
  show ((k + (n + j) : Nat) : Int) = _
  rw [Nat.add_assoc]
theorem ctA_ok {k n : Nat} {c : Ct} (h : c.kind ≠ -1) (h0 : c.fr = 0) : ctA k (c.move n) = tkA c.kind ((k + n : Nat) : Int) ((k + n + c.to : Nat) : Int) c.word c.num := by
  unfold ctA Ct.move
  rw [if_neg h, h0, Nat.add_zero, Nat.add_assoc]
theorem ctW_ok {k n : Nat} {c : Ct} (h : c.kind ≠ -1) : ctW k (c.move n) = -1 := if_neg h
end Tk
theorem cut18_any (s : ByteArray) (k : Nat) (hs : s.size ≤ 1000000000) (hk : k ≤ s.size) (w : World) :
    Calls Tryz.prog 37 #[.string s, .int .i64 (k : Int)] w fun e w' => e = .returned (.tuple #[.agg (ctA k (cutR (s.data.toList.drop k))), .int .i64 (ctW k (cutR (s.data.toList.drop k)))]) ∧ Below w.heap.size w w' := by
  have c0 := behind18_any s k 1 hs hk
  rw [isK_bl] at c0
  have hl : (s.data.toList.drop k).length = s.size - k := by rw [List.length_drop, ← Lib.size_eq]
  have hd := dk_len isBl (s.data.toList.drop k)
  have hdr : (s.data.toList.drop k).dropWhile isBl = s.data.toList.drop (k + ((s.data.toList.drop k).takeWhile isBl).length) := by
    rw [← drop_dk, List.drop_drop]
  generalize hn : ((s.data.toList.drop k).takeWhile isBl).length = n at *
  by_cases hf : k + n < s.size
  · have hc := drop_cons_of hf
    have hcut : cutR (s.data.toList.drop k) = (tokB (s[k + n]'hf) (s.data.toList.drop (k + n + 1))).move n := by
      rw [cutR_cons (hdr.trans hc), hn]
    have hb := dk_head (hdr.trans hc)
    have hne1 := kd_bl hb
    rw [hcut]
    rcases kd_cases (s[k + n]'hf) with h0 | h1 | h2 | h3
    · have c1 := tokenAt18_num s (k + n) hs hf h0
      rw [tokB_num h0, ← hc]
      have hok : scOk s ((k + n : Nat) : Int) ↔ (longestL ((s.data.toList.drop (k + n)).take 65536)).kind ≠ 0 := by
        unfold scOk scanP
        rw [Int.toNat_natCast]
        exact ⟨fun h => h.2.2, fun h => ⟨by omega, by omega, h⟩⟩
      by_cases hz : (longestL ((s.data.toList.drop (k + n)).take 65536)).kind = 0
      · rw [if_pos hz]
        have hno : ¬ scOk s ((k + n : Nat) : Int) := fun h => (hok.mp h) hz
        have e4 : scC s ((k + n : Nat) : Int) = 90 := by unfold scC; rw [if_neg hno]
        rw [e4] at c1
        rw [ctA_bad, ctW_bad]
        exact cut18_none s k (k + n) hf _ _ _ _ _ _ _ _ w c0 c1
      · rw [if_neg hz]
        have hyes : scOk s ((k + n : Nat) : Int) := hok.mpr hz
        have e1 : scT s ((k + n : Nat) : Int) = ((k + n + (longestL ((s.data.toList.drop (k + n)).take 65536)).stop : Nat) : Int) := by unfold scT scanP; rw [if_pos hyes, Int.toNat_natCast]; omega
        have e2 : scN s ((k + n : Nat) : Int) = numOf (longestL ((s.data.toList.drop (k + n)).take 65536)) := by unfold scN scanP; rw [if_pos hyes, Int.toNat_natCast]
        have e4 : scC s ((k + n : Nat) : Int) = 0 := by unfold scC; rw [if_pos hyes]
        rw [e1, e2, e4] at c1
        have hle := longest_le ((s.data.toList.drop (k + n)).take 65536)
        have hl2 : ((s.data.toList.drop (k + n)).take 65536).length ≤ s.size - (k + n) := by rw [List.length_take, List.length_drop, ← Lib.size_eq]; omega
        generalize (longestL ((s.data.toList.drop (k + n)).take 65536)).stop = M at *
        generalize numOf (longestL ((s.data.toList.drop (k + n)).take 65536)) = NN at *
        have c2 := needsGap18_any 5 ((k + n : Nat) : Int) ((k + n + M : Nat) : Int) [] NN
        have c3 := endsToken18_any s (k + n + M) (by omega)
        have hsh : (s.data.toList.drop (k + n)).drop M = s.data.toList.drop (k + n + M) := by rw [List.drop_drop]
        unfold shutC
        show Calls _ _ _ _ fun e w' => e = .returned (.tuple #[.agg (ctA k ((if shutB ((s.data.toList.drop (k + n)).drop M) then _ else _ : Ct).move n)), .int .i64 (ctW k ((if shutB ((s.data.toList.drop (k + n)).drop M) then _ else _ : Ct).move n))]) ∧ _
        rw [hsh]
        cases hb2 : shutB (s.data.toList.drop (k + n + M))
        · rw [hb2] at c3
          rw [if_neg (by simp), ctA_bad, ctW_bad]
          exact cut18_open s k (k + n) hf _ _ _ _ _ _ _ _ w c0 c1 c2 c3
        · rw [hb2] at c3
          rw [if_pos rfl, ctA_ok (by show (5 : Int) ≠ -1; omega) rfl, ctW_ok (by show (5 : Int) ≠ -1; omega)]
          exact cut18_shut s k (k + n) hf _ _ _ _ _ _ _ _ w c0 c1 c2 c3
    · exact absurd h1 hne1
    · have c1 := tokenAt18_word s (k + n) hs hf h2
      rw [tokB_lt (kd_lt h2), ← hc]
      have hle := dk_len isLt (s.data.toList.drop (k + n))
      have hl2 : (s.data.toList.drop (k + n)).length = s.size - (k + n) := by rw [List.length_drop, ← Lib.size_eq]
      generalize (s.data.toList.drop (k + n)).takeWhile isLt = L at *
      have c2 := needsGap18_any 1 ((k + n : Nat) : Int) ((k + n + L.length : Nat) : Int) (L.map upB) nmZ0
      have c3 := endsToken18_any s (k + n + L.length) (by omega)
      have hsh : (s.data.toList.drop (k + n)).drop L.length = s.data.toList.drop (k + n + L.length) := by rw [List.drop_drop]
      unfold shutC
      show Calls _ _ _ _ fun e w' => e = .returned (.tuple #[.agg (ctA k ((if shutB ((s.data.toList.drop (k + n)).drop L.length) then _ else _ : Ct).move n)), .int .i64 (ctW k ((if shutB ((s.data.toList.drop (k + n)).drop L.length) then _ else _ : Ct).move n))]) ∧ _
      rw [hsh]
      cases hb2 : shutB (s.data.toList.drop (k + n + L.length))
      · rw [hb2] at c3
        rw [if_neg (by simp), ctA_bad, ctW_bad]
        exact cut18_open s k (k + n) hf _ _ _ _ _ _ _ _ w c0 c1 c2 c3
      · rw [hb2] at c3
        rw [if_pos rfl, ctA_ok (by show (1 : Int) ≠ -1; omega) rfl, ctW_ok (by show (1 : Int) ≠ -1; omega)]
        exact cut18_shut s k (k + n) hf _ _ _ _ _ _ _ _ w c0 c1 c2 c3
    · obtain ⟨kn, hkn, hk3⟩ : ∃ kn : Int, (kn = 2 ∨ kn = 3 ∨ kn = 4) ∧ kd (s[k + n]'hf) = kn + 1 := by
        rcases h3 with h | h | h
        · exact ⟨2, by omega, by omega⟩
        · exact ⟨3, by omega, by omega⟩
        · exact ⟨4, by omega, by omega⟩
      have c1 := tokenAt18_mark s (k + n) hs hf kn hk3 hkn
      have c2 := needsGap18_any kn ((k + n : Nat) : Int) ((k + n + 1 : Nat) : Int) [] nmZ0
      have hq : (kn == 1 || kn == 5) = false := by rcases hkn with rfl | rfl | rfl <;> rfl
      rw [hq] at c2
      rw [kd_mark hk3 hkn, ctA_ok (by show kn ≠ -1; omega) rfl, ctW_ok (by show kn ≠ -1; omega)]
      exact cut18_mark s k (k + n) hf _ _ _ _ _ _ _ _ w c0 c1 c2
  · have hfe : k + n = s.size := by omega
    have hnil := hdr.trans (drop_nil_of (s := s) (k := k + n) (by omega))
    rw [cutR_nil hnil, hl]
    rw [hfe] at c0
    have e : ctA k ⟨0, s.size - k, s.size - k, [], nmZ0⟩ = tkA 0 s.size s.size [] nmZ0 := by
      unfold ctA
      rw [if_neg (by show (0 : Int) ≠ -1; omega)]
      show tkA 0 ((k + (s.size - k) : Nat) : Int) ((k + (s.size - k) : Nat) : Int) [] nmZ0 = _
      rw [show k + (s.size - k) = s.size from by omega]
    rw [e, show ctW k ⟨0, s.size - k, s.size - k, [], nmZ0⟩ = -1 from rfl]
    exact cut18_end s k w c0
end Go.Proofs.YtfgpjplfplbcdaaGreatDoor

/- Layer 9: the document's held. -/
import Derived.Test.YthibemoincgemabGreatDoorLexRd2
namespace Go.Proofs.YthibemoincgemabGreatDoor
open Go.ChangeShapes Go.WideShapes Go.ChangeAt Go.RowKit
open Lx
set_option linter.unusedVariables false
namespace Lx
theorem foldR_bound (ds : B) (h : ds.all isD = true) : 0 ≤ ds.foldl stepR 0 ∧ ds.foldl stepR 0 ≤ 4294967296 := by
  have := fold_same ds h 0 0 (by decide) (by decide) (by decide) (by decide) (Or.inl ⟨rfl, by decide⟩)
  omega
theorem all_filter (l : B) : (l.filter isD).all isD = true := by
  rw [List.all_eq_true]
  intro b hb
  exact (List.mem_filter.mp hb).2
/-- what is read of the first bytes -/
def nR (l : B) : Int := (l.filter isD).foldl stepR 0
theorem nR_bound (l : B) : 0 ≤ nR l ∧ nR l ≤ 4294967296 := foldR_bound _ (all_filter l)
theorem nR_yes (l : B) (x : UInt8) (h : isD x = true) : nR (l ++ [x]) = stepR (nR l) x := by
  unfold nR
  rw [List.filter_append, List.foldl_append]
  simp [h]
theorem nR_no (l : B) (x : UInt8) (h : isD x = false) : nR (l ++ [x]) = nR l := by
  unfold nR
  rw [List.filter_append]
  simp [h]
theorem neg_snoc (l : B) (x : UInt8) : (l ++ [x]).contains 45 = (l.contains 45 || (x == 45)) := by
  induction l with
  | nil => rw [List.nil_append, List.contains_cons, List.contains_nil, Bool.or_false, Bool.false_or]; exact Bool.beq_comm
  | cons c r ih => rw [List.cons_append, List.contains_cons, List.contains_cons, ih, Bool.or_assoc]
theorem expoR_eq (l : B) : expoR l = if l.contains 45 then - nR l else nR l := rfl
end Lx
set_option maxHeartbeats 3200000 in
set_option maxRecDepth 100000 in
theorem held9r_any (s : ByteArray) (m : Nat) (hs : s.size ≤ 100000) (hm : m ≤ 1000000) (w : World) :
    Calls Tryz.prog 64 #[.string s, .int .i64 (m : Int)] w fun e w' => e = .returned (.int .i64 (heldR (expoR s.data.toList - m))) ∧ w' = w := by
  go_enter Tryz.func64, Tryz.ntmps64
  go_wp2
  go_loop [5, 6, 7] (fun v5 v6 v7 => ∃ (i : Nat) (bb : Bool) (n : Int), v7 = .int .i64 (i : Int) ∧ i ≤ s.size ∧ v5 = .bool bb ∧ v6 = .int .i64 n ∧ Hid ((s.data.toList.take i).contains 45 = bb) ∧ Hid (nR (s.data.toList.take i) = n)) (fun _ _ v7 => s.size - (RowKit.intOf v7).toNat)
  case atStart => exact ⟨0, false, 0, rfl, Nat.zero_le _, rfl, rfl, rfl, rfl⟩
  case round =>
    obtain ⟨i, bb, n, rfl, hi, rfl, rfl, hbb, hn⟩ := hrel
    obtain ⟨n0, n1⟩ := nR_bound (s.data.toList.take i)
    rw [hn.out] at n0 n1
    by_cases hp : i < s.size
    · have hpi : (i : Int) < (s.size : Int) := by omega
      have ht : s.data.toList.take (i + 1) = s.data.toList.take i ++ [s[i]'hp] := by
        rw [List.take_add_one, Lib.data_getElem? s i hp]; rfl
      have hc := neg_snoc (s.data.toList.take i) (s[i]'hp)
      have hy := nR_yes (s.data.toList.take i) (s[i]'hp)
      have hno := nR_no (s.data.toList.take i) (s[i]'hp)
      rw [← ht, hn.out] at hy hno
      rw [← ht, hbb.out] at hc
      have h45 := beq_u8 (s[i]'hp) 45
      change ((((s[i]'hp).toNat : Nat) : Int) == 45) = _ at h45
      have c1 := digit9_any (s[i]'hp)
      clear hbb hn ht
      cases hd : isD (s[i]'hp)
      · rw [hd] at c1
        have HN : Hid (nR (s.data.toList.take (i + 1)) = n) := hno hd
        cases hq : ((s[i]'hp) == 45)
        · rw [hq] at h45 hc
          rw [Bool.or_false] at hc
          have HC : Hid ((s.data.toList.take (i + 1)).contains 45 = bb) := hc
          clear hy hno hc hd hq
          go_wp2_with (go_at_call 92; refine (c1 _).mono ?_; rintro e w' ⟨rfl, rfl⟩)
          go_round
          case rel => exact ⟨i + 1, bb, n, rfl, by omega, rfl, rfl, HC, HN⟩
          case measure => simp [RowKit.intOf]; omega
        · rw [hq] at h45 hc
          rw [Bool.or_true] at hc
          have HC : Hid ((s.data.toList.take (i + 1)).contains 45 = true) := hc
          clear hy hno hc hd hq
          go_wp2_with (go_at_call 92; refine (c1 _).mono ?_; rintro e w' ⟨rfl, rfl⟩)
          go_round
          case rel => exact ⟨i + 1, true, n, rfl, by omega, rfl, rfl, HC, HN⟩
          case measure => simp [RowKit.intOf]; omega
      · rw [hd] at c1
        have hyd := hy hd
        have hq : ((s[i]'hp) == 45) = false := by simpa using (digit_not hd).2.2
        rw [hq] at h45 hc
        rw [Bool.or_false] at hc
        have HC : Hid ((s.data.toList.take (i + 1)).contains 45 = bb) := hc
        have hd2 : 48 ≤ (s[i]'hp).toNat ∧ (s[i]'hp).toNat ≤ 57 := by unfold isD at hd; simpa using hd
        unfold stepR at hyd
        clear hy hno hc hd hq
        by_cases hbig : 4294967296 < n * 10 + (((s[i]'hp).toNat : Int) - 48)
        · rw [if_pos hbig] at hyd
          have HN : Hid (nR (s.data.toList.take (i + 1)) = 4294967296) := hyd
          clear hyd
          go_wp2_with (go_at_call 92; refine (c1 _).mono ?_; rintro e w' ⟨rfl, rfl⟩)
          go_round
          case rel => exact ⟨i + 1, bb, 4294967296, rfl, by omega, rfl, rfl, HC, HN⟩
          case measure => simp [RowKit.intOf]; omega
        · rw [if_neg hbig] at hyd
          have HN : Hid (nR (s.data.toList.take (i + 1)) = n * 10 + (((s[i]'hp).toNat : Int) - 48)) := hyd
          clear hyd
          go_wp2_with (go_at_call 92; refine (c1 _).mono ?_; rintro e w' ⟨rfl, rfl⟩)
          go_round
          case rel => exact ⟨i + 1, bb, _, rfl, by omega, rfl, rfl, HC, HN⟩
          case measure => simp [RowKit.intOf]; omega
    · have hpi : ¬ (i : Int) < (s.size : Int) := by omega
      have hie : s.data.toList.take i = s.data.toList := List.take_of_length_le (by rw [← Lib.size_eq]; omega)
      rw [hie] at hbb hn
      have hE : expoR s.data.toList = if bb then -n else n := by rw [expoR_eq, hbb.out, hn.out]
      clear hie hbb hn
      cases bb
      · by_cases h1 : 1073741824 < n - m
        · skip
          have HE : Hid (heldR (expoR s.data.toList - m) = 1073741824) := by
            unfold Hid
            rw [hE]
            show heldR (n - m) = _; unfold heldR; rw [if_pos h1]
          clear hE
          go_wp2
          go_ret
          exact ⟨by rw [HE.out]; rfl, rfl⟩
        · by_cases h2 : n - m < -1073741824
          · skip
            have HE : Hid (heldR (expoR s.data.toList - m) = -1073741824) := by
              unfold Hid
              rw [hE]
              show heldR (n - m) = _; unfold heldR; rw [if_neg h1, if_pos h2]
            clear hE
            go_wp2
            go_ret
            exact ⟨by rw [HE.out]; rfl, rfl⟩
          · skip
            have HE : Hid (heldR (expoR s.data.toList - m) = n - m) := by
              unfold Hid
              rw [hE]
              show heldR (n - m) = _; unfold heldR; rw [if_neg h1, if_neg h2]
            clear hE
            go_wp2
            go_ret
            exact ⟨by rw [HE.out]; rfl, rfl⟩
      · have h1 : ¬ 1073741824 < -n - m := by omega
        by_cases h2 : -n - m < -1073741824
        · skip
          have HE : Hid (heldR (expoR s.data.toList - m) = -1073741824) := by
            unfold Hid
            rw [hE]
            show heldR (-n - m) = _; unfold heldR; rw [if_neg h1, if_pos h2]
          clear hE
          go_wp2
          go_ret
          exact ⟨by rw [HE.out]; rfl, rfl⟩
        · skip
          have HE : Hid (heldR (expoR s.data.toList - m) = -n - m) := by
            unfold Hid
            rw [hE]
            show heldR (-n - m) = _; unfold heldR; rw [if_neg h1, if_neg h2]
          clear hE
          go_wp2
          go_ret
          exact ⟨by rw [HE.out]; rfl, rfl⟩
end Go.Proofs.YthibemoincgemabGreatDoor

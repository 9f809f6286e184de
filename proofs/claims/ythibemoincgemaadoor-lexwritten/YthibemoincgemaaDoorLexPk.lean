/- plumblaw09: what is written is read (alone, and at its place), and is right. -/
import Derived.Test.YthibemoincgemaaDoorLexMk
import Derived.Test.YthibemoincgemaaDoorLexParse
import Derived.Test.YthibemoincgemaaDoorLexCk
namespace Go.Proofs.YthibemoincgemaaDoor
open Go.ChangeShapes Go.WideShapes Go.ChangeAt Go.RowKit
open Lx
set_option linter.unusedVariables false
theorem parse_said9 {S : B} {p : Pc} (hl : S.length ≤ 60000) (hp : scanP S 0 = p) (hk : p.kind ≠ 0) (hst : p.stop = S.length) (w : World) :
    Calls Tryd.prog 11 #[.string (str S)] w fun r w' => r = .returned (.tuple #[.agg (nmA (Lx.numOf p)), .nilIface]) ∧ Below w.heap.size w w' := by
  refine (parse9_any (str S) (by rw [str_size]; unfold maxLen; omega) w).mono ?_
  rintro r w' ⟨⟨g, at_, c, rfl, _, _, _, hn⟩ | ⟨_, _, rfl⟩, hb⟩
  · exfalso
    rw [str_list, hp] at hn
    rcases hn with ⟨q, _⟩ | ⟨_, q, _⟩
    · exact hk q
    · rw [str_size] at q; omega
  · rw [str_list, hp]
    exact ⟨rfl, hb⟩
theorem parse_good {S : B} {N : Nm} (h : Reads S N) (hl : S.length ≤ 60000) (w : World) :
    Calls Tryd.prog 11 #[.string (str S)] w fun r w' => r = .returned (.tuple #[.agg (nmA N), .nilIface]) ∧ Below w.heap.size w w' := by
  obtain ⟨k1, k2, k3⟩ := h [] Stops.nil
  rw [List.append_nil] at k1 k2 k3
  have := parse_said9 hl (p := longestL S) (by unfold scanP; rw [List.drop_zero, List.take_of_length_le (by omega)]) k1 k2 w
  rw [k3] at this
  exact this
theorem scan_good {A S R : B} {N : Nm} (h : Reads S N) (hR : Stops R) (hl : A.length + S.length + R.length ≤ 60000) (w : World) :
    Calls Tryd.prog 8 #[.string (str (A ++ (S ++ R))), .int .i64 (A.length : Int)] w fun r w' => r = .returned (.tuple #[.agg (nmA N), .int .i64 ((A.length : Int) + (S.length : Int)), .nilIface]) ∧ Below w.heap.size w w' := by
  obtain ⟨k1, k2, k3⟩ := h R hR
  have hsc : scanP (str (A ++ (S ++ R))).data.toList A.length = longestL (S ++ R) := by
    unfold scanP
    rw [str_list, List.drop_left, List.take_of_length_le (by rw [List.length_append]; omega)]
  refine (scan_in (str (A ++ (S ++ R))) (by rw [str_size, List.length_append, List.length_append]; unfold maxLen; omega) A.length (by rw [str_size, List.length_append]; omega) w).mono ?_
  have e0 : ((A.length : Int)).toNat = A.length := by omega
  rintro r w' ⟨⟨g, rfl, _, _, _, hn⟩ | ⟨_, _, _, rfl⟩, hb⟩
  · exfalso
    rw [e0, hsc] at hn
    rcases hn with q | q | q
    · omega
    · rw [str_size, List.length_append] at q; omega
    · exact k1 q
  · rw [e0, hsc, k3, k2]
    exact ⟨rfl, hb⟩
set_option maxRecDepth 100000 in
theorem alive9b_any (w : World) :
    Calls Tryd.prog 12 #[] w fun r w' => r = .returned (.bool true) ∧ Below w.heap.size w w' := by
  have hP : ∀ w, Calls Tryd.prog 11 #[.string (ByteArray.mk #[45, 49, 46, 53, 48, 101, 49])] w fun r w' => r = .returned (.tuple #[.agg (nmA ⟨1, true, [49, 53, 48], -1, []⟩), .nilIface]) ∧ Below w.heap.size w w' := fun w => by
    have := parse_said9 (S := [45, 49, 46, 53, 48, 101, 49]) (p := ⟨1, true, [49], [53, 48], [49], [], 7⟩) (by decide) (by rfl) (by decide) rfl w
    have e : Lx.numOf ⟨1, true, [49], [53, 48], [49], [], 7⟩ = ⟨1, true, [49, 53, 48], -1, []⟩ := by rfl
    rw [e] at this
    exact this
  go_enter Tryd.func12, Tryd.ntmps12
  go_wp2_with fail
  refine (hP _).mono ?_
  rintro r w1 ⟨rfl, hb⟩
  have hB : Hid (Below w.heap.size w (w1.alloc (.cells (nmA ⟨1, true, [49, 53, 48], -1, []⟩) 25))) := hb.alloc hb.size _
  unfold nmA at hB
  clear hP hb
  unfold nmA
  have s1 : str [49, 53, 48] = ByteArray.mk #[49, 53, 48] := rfl
  have s2 : str [] = ByteArray.mk #[] := rfl
  simp only [s1, s2] at hB ⊢
  go_wp2
  go_ret
  exact ⟨rfl, hB.out⟩
namespace Lx
set_option maxRecDepth 100000 in
theorem lowF_in : ∀ b : Fin 256, isH (UInt8.ofNat b.val) = true → smal9.contains (lowF (UInt8.ofNat b.val)) = true := by decide
theorem lowF_smal {b : UInt8} (h : isH b = true) : smal9.contains (lowF b) = true := by
  have := lowF_in ⟨b.toNat, UInt8.toNat_lt b⟩
  simp only [UInt8.ofNat_toNat] at this
  exact this h
theorem lowF_digs {b : UInt8} (h : isD b = true) : digs9.contains (lowF b) = true := by
  have hb := isD_bd h
  have : lowF b = b := by unfold lowF; rw [if_neg (by omega)]
  rw [this]
  exact (digits_has b).trans h
theorem lowF_zero {b : UInt8} (h : ([48] : B).contains b = false) : ([48] : B).contains (lowF b) = false := by
  unfold lowF
  split
  · rename_i q
    have hne : UInt8.ofNat (b.toNat + 32) ≠ 48 := fun e => by
      have := congrArg UInt8.toNat e
      rw [UInt8.toNat_ofNat'] at this
      have h48 : (48 : UInt8).toNat = 48 := rfl
      omega
    generalize UInt8.ofNat (b.toNat + 32) = c at *
    simp [hne]
  · exact h
theorem bareR_kept {cs l : B} (hl : l.length ≤ 65536) (h : ∀ b ∈ l, cs.contains (lowF b) = true) : keptB cs (bareR l) = true := by
  have h1 : (bareR l).length ≤ 65536 := by
    unfold bareR
    rw [List.length_map]
    have := dk_len (fun b => ([48] : B).contains b) l
    omega
  have h2 : fst [48] (bareR l) = false := by
    unfold bareR
    cases hd : l.dropWhile (fun b => ([48] : B).contains b) with
    | nil => rfl
    | cons c r =>
      have := dk_head hd
      rw [List.map_cons]
      exact lowF_zero this
  have h3 : (bareR l).all (fun b => cs.contains b) = true := by
    unfold bareR
    rw [List.all_map, List.all_eq_true]
    intro b hb
    exact h b (List.dropWhile_subset _ hb)
  unfold keptB
  rw [h2, h3, decide_eq_true h1]
  rfl
theorem right_len {k e : Int} {num den : B} (h : rightB k num e den = true) : num.length ≤ 65536 ∧ den.length ≤ 65536 := by
  unfold rightB keptB at h
  split at h
  · simp at h; exact ⟨h.1.1, by rw [h.2.1]; simp⟩
  · split at h
    · simp at h; exact ⟨h.1.1, by rw [h.2.1]; simp⟩
    · split at h
      · simp at h; exact ⟨h.1.1, h.2.1.1⟩
      · simp at h
/-- what it says is a right Numeral -/
theorem made_right {k q e : Int} {plus ne big : Bool} {z1 z2 : List Int} (hk : k = 0 ∨ k = 1 ∨ k = 2) :
    ∀ N, N = mdN k (sgL q plus) (dgL (baseOf k) big z1) (dgL (baseOf k) big z2) ne (e.tmod 100000) → rightB N.kind N.num N.exp N.den = true := by
  rintro N rfl
  have he0 : -100000 < e.tmod 100000 := Int.lt_tmod_of_pos e (by omega)
  have he1 : e.tmod 100000 < 100000 := Int.tmod_lt_of_pos e (by omega)
  have hb0 : 0 < baseOf k := by unfold baseOf; split <;> omega
  have hb1 : baseOf k ≤ 16 := by unfold baseOf; split <;> omega
  have l1 : (dgL (baseOf k) big z1).length ≤ 40 := dgL_len
  have l2 : (dgL (baseOf k) big z2).length ≤ 40 := dgL_len
  have H1 : (dgL (baseOf k) big z1).all isH = true := dgL_H hb0 hb1
  have H2 : (dgL (baseOf k) big z2).all isH = true := dgL_H hb0 hb1
  have D : k ≠ 1 → (dgL (baseOf k) big z1).all isD = true ∧ (dgL (baseOf k) big z2).all isD = true := fun hk1 => by
    have : baseOf k = 10 := by unfold baseOf; rw [if_neg hk1]
    rw [this]
    exact ⟨dgL_D, dgL_D⟩
  generalize dgL (baseOf k) big z1 = h at *
  generalize dgL (baseOf k) big z2 = t at *
  generalize e.tmod 100000 = e' at *
  have mh : ∀ k : Int, (mdHead k h t).length ≤ 40 := by
    intro k
    unfold mdHead
    split
    · split
      · simp
      · exact l1
    · split
      · simp
      · exact l1
  have mt : ∀ k : Int, (mdTail k t).length ≤ 40 := by
    intro k
    unfold mdTail
    split
    · split
      · simp
      · exact l2
    · exact l2
  have mhD : ∀ k : Int, h.all isD = true → (mdHead k h t).all isD = true := by
    intro k hd
    unfold mdHead
    split
    · split
      · rfl
      · exact hd
    · split
      · rfl
      · exact hd
  have mhH : ∀ k : Int, (mdHead k h t).all isH = true := by
    intro k
    unfold mdHead
    split
    · split
      · rfl
      · exact H1
    · split
      · rfl
      · exact H1
  have mtD : ∀ k : Int, t.all isD = true → (mdTail k t).all isD = true := by
    intro k hd
    unfold mdTail
    split
    · split
      · rfl
      · exact hd
    · exact hd
  have wi : ∀ n : Int, -1073741824 ≤ n → n ≤ 1073741824 → withB n = true := fun n a b => by unfold withB; rw [decide_eq_true a, decide_eq_true b]; rfl
  have kd : ∀ l : B, l.length ≤ 65536 → l.all isD = true → keptB digs9 (bareR l) = true := fun l a b => bareR_kept a (fun x hx => lowF_digs (List.all_eq_true.mp b x hx))
  have kh : ∀ l : B, l.length ≤ 65536 → l.all isH = true → keptB smal9 (bareR l) = true := fun l a b => bareR_kept a (fun x hx => lowF_smal (List.all_eq_true.mp b x hx))
  rcases hk with rfl | rfl | rfl
  · obtain ⟨d1, d2⟩ := D (by omega)
    rw [mdN_0]
    show rightB 1 (bareR (mdHead 0 h t ++ t)) (if ne = true then -(t.length : Int) else e' - t.length) [] = true
    unfold rightB
    have := mh 0
    rw [if_pos rfl, kd _ (by rw [List.length_append]; omega) (by rw [List.all_append, mhD 0 d1, d2]; rfl), wi _ (by split <;> omega) (by split <;> omega)]
    rfl
  · rw [mdN_1]
    show rightB 2 (bareR (mdHead 1 h t ++ t)) (e' - 4 * t.length) [] = true
    unfold rightB
    have := mh 1
    rw [if_neg (by omega), if_pos rfl, kh _ (by rw [List.length_append]; omega) (by rw [List.all_append, mhH 1, H2]; rfl), wi _ (by omega) (by omega)]
    rfl
  · obtain ⟨d1, d2⟩ := D (by omega)
    rw [mdN_2]
    show rightB 3 (bareR (mdHead 2 h t)) 0 (bareR (mdTail 2 t)) = true
    unfold rightB
    have := mh 2
    have := mt 2
    rw [if_neg (by omega), if_neg (by omega), if_pos rfl, kd _ (by omega) (mhD 2 d1), kd _ (by omega) (mtD 2 d2)]
    rfl
end Lx
theorem made9_right {kd sg e : Int} {a1 a2 : Option Addr} {n1 c1 n2 c2 : Nat} {z1 z2 : List Int} (hn1 : n1 ≤ 9223372036854775807) (hn2 : n2 ≤ 9223372036854775807) (pt ne plus big : Bool) :
    ∃ S N, Reads S N ∧ S.length ≤ 200 ∧ rightB N.kind N.num N.exp N.den = true ∧ ∀ w, RowAt .i64 w a1 n1 z1 → RowAt .i64 w a2 n2 z2 → Calls Tryd.prog 14 #[.agg (pieA kd sg (.slice a1 n1 c1) (.slice a2 n2 c2) pt ne e plus big)] w fun r w' =>
      r = .returned (.tuple #[.string (str S), .agg (nmA N)]) ∧ Below w.heap.size w w' := by
  have hk : kd % 3 = 0 ∨ kd % 3 = 1 ∨ kd % 3 = 2 := by omega
  obtain ⟨h1, h2⟩ := made_say (k := kd % 3) (q := sg % 3 - 1) (e := e) (plus := plus) (pt := pt) (ne := ne) (big := big) (z1 := z1) (z2 := z2) hk
  refine ⟨_, _, h1, h2, made_right hk _ rfl, fun w hr1 hr2 => ?_⟩
  rcases hk with k0 | k1 | k2
  · rw [k0]; exact made9_k0 hr1 hr2 hn1 hn2 pt ne plus big k0 rfl rfl rfl rfl
  · rw [k1]; exact made9_k1 hr1 hr2 hn1 hn2 pt ne plus big k1 rfl rfl rfl rfl
  · rw [k2]; exact made9_k2 hr1 hr2 hn1 hn2 pt ne plus big k2 rfl rfl rfl rfl
end Go.Proofs.YthibemoincgemaaDoor

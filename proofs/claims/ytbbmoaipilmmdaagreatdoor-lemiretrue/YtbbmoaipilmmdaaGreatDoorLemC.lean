/- package lemire: Cut. -/
import Derived.Test.YtbbmoaipilmmdaaGreatDoorLemTrim
import Derived.Test.YtbbmoaipilmmdaaGreatDoorLemCm
import Derived.Test.YtbbmoaipilmmdaaGreatDoorBaseJ
import Derived.Lib.ConvBytes
import Derived.Lib.AtoiErrMem
namespace Go.Proofs.YtbbmoaipilmmdaaGreatDoor
open Go.ChangeShapes Go.WideShapes Go.ChangeAt Go.RowKit
open Lx
set_option linter.unusedVariables false
namespace Lx
theorem trim_empty (cs l : B) : trimL cs (trimR cs l) = [] ↔ ∀ b ∈ l, cs.contains b = true := by
  unfold trimL trimR
  rw [trim_all]
  constructor
  · intro h
    have hr : l.reverse.dropWhile (fun b => cs.contains b) = [] := by
      cases hq : l.reverse.dropWhile (fun b => cs.contains b) with
      | nil => rfl
      | cons c r =>
        exfalso
        have h1 := h c (by rw [hq]; simp)
        have h2 := List.head_dropWhile_not (fun b => cs.contains b) (l := l.reverse) (by rw [hq]; simp)
        simp only [hq, List.head_cons] at h2
        rw [h1] at h2
        cases h2
    intro b hb
    exact (trim_all cs l.reverse).mp hr b (by simpa using hb)
  · intro h b hb
    apply h b
    have := List.mem_reverse.mp hb
    have := (List.dropWhile_sublist _).mem this
    simpa using this
theorem empty_list (l : B) : (str l).toList.isEmpty = l.isEmpty := by rw [Lib.toList_data, str_list]
def digs : B := [48, 49, 50, 51, 52, 53, 54, 55, 56, 57]
theorem trim_digs (l : B) : (trimL digs (trimR digs l)).isEmpty = allD l := by
  have h := trim_empty digs l
  have e : ∀ b, digs.contains b = isD b := digits_has
  simp only [e] at h
  cases hd : allD l
  · rw [List.isEmpty_eq_false_iff]
    intro hc
    rw [allD_iff.mpr (h.mp hc)] at hd
    cases hd
  · rw [h.mpr (allD_iff.mp hd)]; rfl
theorem trim_more (l : B) : (trimL [48] (trimR [48] l)).isEmpty = !(l.any (fun b => b != 48)) := by
  have h := trim_empty [48] l
  cases hd : l.any (fun b => b != 48)
  · have : ∀ b ∈ l, ([48] : B).contains b = true := fun b hb => by
      have := List.any_eq_false.mp hd b hb
      simpa using this
    rw [h.mpr this]; rfl
  · rw [Bool.not_true, List.isEmpty_eq_false_iff]
    intro hc
    obtain ⟨b, hb, hne⟩ := List.any_eq_true.mp hd
    have := h.mp hc b hb
    simp at this hne
    exact hne this
end Lx
set_option maxHeartbeats 1600000 in
set_option maxRecDepth 100000 in
theorem lemWord_any (t : ByteArray) (hl : t.size ≤ 19) (hd : ∀ b ∈ t.data.toList, isD b = true) (w : World) :
    Calls Tryz.prog 39 #[.string t] w fun e w' => e = .returned (.int .u64 (dv t.data.toList)) ∧ Below w.heap.size w w' := by
  obtain ⟨cap, w1, hcv, hcell, hbw⟩ : ∃ cap w', (convert 9 121 (.string t)).run Tryz.prog w = .ok (.slice (some ⟨w.heap.size, 0, none⟩) t.size cap) w' ∧ (∀ j, j < t.size → w'.cell? ⟨w.heap.size, j, none⟩ = some (.int .u8 (t.data.toList.getD j 0).toNat)) ∧ Below w.heap.size w w' :=
    ⟨_, _, Lib.run_convert_string_bytes (P := Tryz.prog) w 9 121 5 t (u := .string) Tryz.underlying9 Tryz.underlying121 Tryz.underlying5, fun j hj => Lib.bytesWorld_cell _ _ _ _ hj, Lib.bytesWorld_below w 5 t⟩
  have HC : Hid _ := hcell
  have HD : Hid _ := hd
  clear hcell hd
  generalize hg : w.heap.size = g at *
  clear hg
  go_enter Tryz.func39, Tryz.ntmps39
  go_wp2
  go_loop [3, 9] (fun o i => ∃ k : Nat, k ≤ t.size ∧ o = .int .u64 (dv (t.data.toList.take k)) ∧ i = .int .i64 (k : Int)) (fun _ i => t.size - (RowKit.intOf i).toNat)
  case atStart => exact ⟨0, Nat.zero_le _, rfl, rfl⟩
  case round =>
    obtain ⟨k, hk, rfl, rfl⟩ := hrel
    by_cases hlt : k < t.size
    · have hll : k < t.data.toList.length := by rw [← Lib.size_eq]; exact hlt
      have hi : decide ((k : Int) < (t.size : Int)) = true := by simp; omega
      have hc := HC.out k hlt
      have hb := HD.out (t.data.toList.getD k 0) (by rw [List.getD_eq_getElem?_getD, List.getElem?_eq_getElem hll]; exact List.getElem_mem hll)
      obtain ⟨b0, b1⟩ := isD_bd hb
      have HV : Hid (dv (t.data.toList.take (k + 1)) = dv (t.data.toList.take k) * 10 + (((t.data.toList.getD k 0).toNat : Int) - 48)) := by
        show _ = _
        rw [← dv_snoc, List.take_add_one, List.getElem?_eq_getElem hll, List.getD_eq_getElem?_getD, List.getElem?_eq_getElem hll]
        rfl
      have hv := dv_bd (l := t.data.toList.take k) (fun b hb => HD.out b (List.mem_of_mem_take hb))
      have hp : (10 : Int) ^ (t.data.toList.take k).length ≤ 10 ^ 18 := by
        have e : (10 : Int) ^ 18 = 10 ^ (t.data.toList.take k).length * 10 ^ (18 - (t.data.toList.take k).length) := by
          rw [← Int.pow_add]; congr 1
          rw [List.length_take]; omega
        have p1 := ten_pos (t.data.toList.take k).length
        have p2 := ten_pos (18 - (t.data.toList.take k).length)
        have := Int.mul_le_mul_of_nonneg_left (show (1 : Int) ≤ 10 ^ (18 - (t.data.toList.take k).length) by omega) (Int.le_of_lt p1)
        omega
      have e18 : (10 : Int) ^ 18 = 1000000000000000000 := by rfl
      obtain ⟨v0, v1⟩ := hv
      have v2 : dv (t.data.toList.take k) ≤ 1000000000000000000 := by omega
      clear v1 hp e18 hb
      generalize dv (t.data.toList.take k) = V at *
      generalize (t.data.toList.getD k 0).toNat = d at *
      go_wp2
      refine ⟨⟨k + 1, by omega, by rw [HV.out], by go_num⟩, ?_⟩
      simp [RowKit.intOf]
      omega
    · have : k = t.size := by omega
      subst this
      rw [List.take_of_length_le (by rw [← Lib.size_eq]; exact Nat.le_refl _)]
      go_wp2
      go_ret
      exact ⟨rfl, hbw⟩
set_option maxHeartbeats 1600000 in
set_option maxRecDepth 100000 in
theorem lemCut_any (s : ByteArray) (hs : s.size ≤ 9223372036854775807) (w : World) :
    Calls Tryz.prog 14 #[.string s] w fun e w' => e = .returned (.tuple #[.int .u64 (cutV s.data.toList), .int .i64 (cutN s.data.toList : Int), .bool (cutMr s.data.toList), .int .i64 (cutE s.data.toList)]) ∧ Below w.heap.size w w' := by
  have h1 := trim_set digs s hs w (by decide) (by decide) (by decide)
  have he := (empty_list (trimL digs (trimR digs s.data.toList))).trans (trim_digs s.data.toList)
  have e0 : digs.toArray = #[48, 49, 50, 51, 52, 53, 54, 55, 56, 57] := rfl
  rw [e0] at h1
  generalize str (trimL digs (trimR digs s.data.toList)) = T1 at *
  cases hd : allD s.data.toList
  · rw [hd] at he
    have c1 : cutV s.data.toList = 0 := by unfold cutV; rw [hd]; rfl
    have c2 : cutN s.data.toList = 0 := by unfold cutN; rw [hd]; rfl
    have c3 : cutMr s.data.toList = false := by unfold cutMr; rw [hd]; rfl
    have c4 : cutE s.data.toList = 41 := by unfold cutE; rw [hd]; rfl
    rw [c1, c2, c3, c4]
    clear c1 c2 c3 c4 hd e0
    go_enter Tryz.func14, Tryz.ntmps14
    go_wp2_with fail
    refine h1.mono ?_
    rintro e w1 ⟨rfl, hb1⟩
    clear h1
    go_wp2
    ((try simp only [Exit.inBlock, Exit.then]); refine bodyPost_ret (results_tmp4 rfl _ _ _) rfl ?_)
    exact ⟨rfl, hb1⟩
  · rw [hd] at he
    have c1 : cutV s.data.toList = dv ((said s.data.toList).take (usedN s.data.toList)) := by unfold cutV; rw [hd]; rfl
    have c2 : cutN s.data.toList = s.data.toList.length - (said s.data.toList).length + usedN s.data.toList := by unfold cutN; rw [hd]; rfl
    have c3 : cutMr s.data.toList = ((said s.data.toList).drop (usedN s.data.toList)).any (fun b => b != 48) := by unfold cutMr; rw [hd]; rfl
    have c4 : cutE s.data.toList = 0 := by unfold cutE; rw [hd]; rfl
    have hall : ∀ b ∈ said s.data.toList, isD b = true := fun b hb => allD_iff.mp hd b (by
      obtain ⟨k, _, k2, _, _⟩ := said_split s.data.toList
      rw [k2] at hb
      exact List.mem_of_mem_drop hb)
    have hle := said_le s.data.toList
    rw [← Lib.size_eq] at hle c2
    have h2 := fun w => trimLeft_zero s w
    have e2 : trimL [48] s.data.toList = said s.data.toList := rfl
    rw [e2] at h2
    rw [c1, c2, c3, c4]
    clear c1 c2 c3 c4 hd e0
    have hu : Hid (usedN s.data.toList = min (said s.data.toList).length 19) := rfl
    generalize usedN s.data.toList = u at *
    generalize said s.data.toList = l at *
    have hsz : (str l).size = l.length := str_size l
    have hu1 : u ≤ l.length := by rw [hu.out]; omega
    have hu2 : u ≤ 19 := by rw [hu.out]; omega
    have hmin : min (l.length : Int) 19 = (u : Int) := by rw [hu.out]; omega
    have x1 : (str l).extract u l.length = str (l.drop u) := by
      rw [ext_str, str_list, List.take_of_length_le (by rw [List.length_drop]; omega)]
    have x2 : (str l).extract 0 u = str (l.take u) := by rw [ext_str, str_list, List.drop_zero, Nat.sub_zero]
    have hsd : (str (l.drop u)).size ≤ 9223372036854775807 := by rw [str_size, List.length_drop]; omega
    have h3 := fun w => trim_zero (str (l.drop u)) hsd w
    rw [str_list] at h3
    have hem := (empty_list (trimL [48] (trimR [48] (l.drop u)))).trans (trim_more (l.drop u))
    have h4 := fun w => lemWord_any (str (l.take u)) (by rw [str_size, List.length_take]; omega) (fun b hb => hall b (by rw [str_list] at hb; exact List.mem_of_mem_take hb)) w
    rw [str_list] at h4
    generalize str (trimL [48] (trimR [48] (l.drop u))) = T3 at *
    generalize (l.drop u).any (fun b => b != 48) = mr at *
    generalize dv (l.take u) = V at *
    generalize str (l.drop u) = T2 at *
    generalize str (l.take u) = T4 at *
    generalize l.length = n at *
    generalize str l = T5 at *
    clear hall hsd
    go_enter Tryz.func14, Tryz.ntmps14
    go_wp2_with fail
    refine h1.mono ?_
    rintro e w1 ⟨rfl, hb1⟩
    clear h1
    go_wp2_with fail
    refine (h2 _).mono ?_
    rintro e w2 ⟨rfl, rfl⟩
    clear h2
    go_wp2_with fail
    refine (h3 _).mono ?_
    rintro e w3 ⟨rfl, hb3⟩
    have hB := hb1.trans (hb3.mono hb1.size)
    clear h3 hb1 hb3
    go_wp2_with fail
    refine (h4 _).mono ?_
    rintro e w4 ⟨rfl, hb4⟩
    have hB := hB.trans (hb4.mono hB.size)
    clear h4 hb4
    go_wp2
    ((try simp only [Exit.inBlock, Exit.then]); refine bodyPost_ret (results_tmp4 rfl _ _ _) rfl ?_)
    refine ⟨?_, hB⟩
    have en : ((s.size - n + u : Nat) : Int) = (s.size : Int) - n + u := by omega
    rw [en]
    simp
end Go.Proofs.YtbbmoaipilmmdaaGreatDoor

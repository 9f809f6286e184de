/- Layer 9: lex.Check. -/
import Derived.Test.YtfgpjplfplbcdaaGreatDoorLexExp
import Derived.Test.YtfgpjplfplbcdaaGreatDoorLexSay
import Derived.Test.YtfgpjplfplbcdaaGreatDoorLemTrim
import Derived.Test.YtfgpjplfplbcdaaGreatDoorLemCm
namespace Go.Proofs.YtfgpjplfplbcdaaGreatDoor
open Go.ChangeShapes Go.WideShapes Go.ChangeAt Go.RowKit
open Lx
set_option linter.unusedVariables false
namespace Lx
theorem trimmed_empty (cs l : B) : (trimL cs (trimR cs l)).isEmpty = l.all (fun b => cs.contains b) := by
  have h : trimL cs (trimR cs l) = [] ↔ ∀ b ∈ l, cs.contains b = true := by
    unfold trimL trimR
    rw [trim_all]
    constructor
    · intro h
      have hr : l.reverse.dropWhile (fun b => cs.contains b) = [] := by
        cases hq : l.reverse.dropWhile (fun b => cs.contains b) with
        | nil => rfl
        | cons c r =>
          exfalso
          have h1 := h c (by rw [hq]; simp)
          have h2 := List.head_dropWhile_not (fun b => cs.contains b) (l := l.reverse) (by rw [hq]; simp)
          simp only [hq, List.head_cons] at h2
          rw [h1] at h2
          cases h2
      intro b hb
      exact (trim_all cs l.reverse).mp hr b (by simpa using hb)
    · intro h b hb
      apply h b
      have := List.mem_reverse.mp hb
      have := (List.dropWhile_sublist _).mem this
      simpa using this
  cases hd : l.all (fun b => cs.contains b)
  · rw [List.isEmpty_eq_false_iff]
    intro hc
    rw [List.all_eq_true.mpr (h.mp hc)] at hd
    cases hd
  · rw [h.mpr (List.all_eq_true.mp hd)]; rfl
def digs9 : B := [48, 49, 50, 51, 52, 53, 54, 55, 56, 57]
def smal9 : B := [48, 49, 50, 51, 52, 53, 54, 55, 56, 57, 97, 98, 99, 100, 101, 102]
/-- digits as a Numeral keeps them -/
def keptB (cs l : B) : Bool := decide (l.length ≤ 65536) && (!fst [48] l && l.all (fun b => cs.contains b))
def withB (e : Int) : Bool := decide (-1073741824 ≤ e) && decide (e ≤ 1073741824)
/-- is it a right one? -/
def rightB (k : Int) (num : B) (e : Int) (den : B) : Bool :=
  if k = 1 then keptB digs9 num && (den.isEmpty && withB e) else if k = 2 then keptB smal9 num && (den.isEmpty && withB e) else if k = 3 then keptB digs9 num && (keptB digs9 den && decide (e = 0)) else false
theorem held_same (e : Int) : (e == heldI e) = withB e := by
  unfold heldI withB
  by_cases h1 : e < 1073741824
  · simp only [if_pos h1]
    by_cases h2 : e < -1073741824
    · rw [if_pos h2]
      have : ¬ (-1073741824 ≤ e) := by omega
      have h3 : e ≠ -1073741824 := by omega
      simp [this, h3]
    · rw [if_neg h2]
      have : -1073741824 ≤ e := by omega
      have : e ≤ 1073741824 := by omega
      simp [*]
  · simp only [if_neg h1]
    rw [if_neg (by omega)]
    by_cases h2 : e = 1073741824
    · subst h2; decide
    · have : ¬ (e ≤ 1073741824) := by omega
      simp [this, h2]
end Lx
theorem within9_any (e : Int) (w : World) :
    Calls Tryz.prog 46 #[.int .i64 e] w fun r w' => r = .returned (.bool (withB e)) ∧ w' = w := by
  rw [← held_same]
  have h := fun w => held9_any e w
  generalize heldI e = H at *
  go_enter Tryz.func46, Tryz.ntmps46
  go_wp2_with (go_at_call 65; refine (h _).mono ?_; rintro r w' ⟨rfl, rfl⟩)
  go_ret
  exact ⟨rfl, rfl⟩
set_option maxHeartbeats 1600000 in
set_option maxRecDepth 100000 in
theorem kept9_any (cs : B) (s : ByteArray) (hs : s.size ≤ 9223372036854775807) (h2 : 2 ≤ cs.length) (hz : cs.length < 1000) (hascii : cs.all (fun b => decide (b.toNat < 128)) = true) (w : World) :
    Calls Tryz.prog 45 #[.string s, .string ⟨cs.toArray⟩] w fun r w' => r = .returned (.bool (keptB cs s.data.toList)) ∧ Below w.heap.size w w' := by
  have hP := fun w => prefix_any s 48 w
  have hT := fun w => trim_set cs s hs w h2 hz hascii
  have he : (str (trimL cs (trimR cs s.data.toList))).toList.isEmpty = s.data.toList.all (fun b => cs.contains b) := by
    rw [Lib.toList_data, str_list, trimmed_empty]
  have hk : keptB cs s.data.toList = (decide ((s.size : Int) ≤ 65536) && (!fst [48] s.data.toList && s.data.toList.all (fun b => cs.contains b))) := by
    unfold keptB
    rw [← Lib.size_eq]
    congr 1
    apply decide_eq_decide.mpr
    omega
  rw [hk]
  clear hk
  generalize fst [48] s.data.toList = pf at *
  generalize s.data.toList.all (fun b => cs.contains b) = al at *
  generalize str (trimL cs (trimR cs s.data.toList)) = T at *
  generalize (ByteArray.mk cs.toArray) = z at *
  by_cases hl : (s.size : Int) ≤ 65536
  · have d : decide ((s.size : Int) ≤ 65536) = true := by simp; omega
    rw [d]
    clear hl
    cases pf
    · go_enter Tryz.func45, Tryz.ntmps45
      go_wp2_with fail
      refine (hP _).mono ?_
      rintro r w1 ⟨rfl, rfl⟩
      go_wp2_with fail
      refine (hT _).mono ?_
      rintro r w2 ⟨rfl, hb⟩
      clear hP hT
      go_wp2
      go_ret
      exact ⟨by simp, hb⟩
    · go_enter Tryz.func45, Tryz.ntmps45
      go_wp2_with fail
      refine (hP _).mono ?_
      rintro r w1 ⟨rfl, rfl⟩
      clear hP hT
      go_wp2
      go_ret
      exact ⟨rfl, Below.refl _ _⟩
  · have d : decide ((s.size : Int) ≤ 65536) = false := by simp; omega
    rw [d]
    go_enter Tryz.func45, Tryz.ntmps45
    go_wp2
    go_ret
    exact ⟨rfl, Below.refl _ _⟩
/-- a Numeral's cells -/
def Lx.numC (k : Int) (ng : Bool) (num : ByteArray) (e : Int) (den : ByteArray) : Array Value := #[.int .i64 k, .bool ng, .string num, .int .i64 e, .string den]
set_option maxHeartbeats 3200000 in
set_option maxRecDepth 100000 in
theorem check9_any (k : Int) (ng : Bool) (num : ByteArray) (e : Int) (den : ByteArray) (hn : num.size ≤ 9223372036854775807) (hd : den.size ≤ 9223372036854775807) (w : World) :
    Calls Tryz.prog 34 #[.agg (numC k ng num e den)] w fun r w' => r = .returned (.int .i64 (if rightB k num.data.toList e den.data.toList = true then 0 else 90)) ∧ Below w.heap.size w w' := by
  have hb0 : Below w.heap.size w (w.alloc (.cells (numC k ng num e den) 30)) := (Below.refl _ w).alloc (Nat.le_refl _) _
  have HB : Hid (Bk (w.alloc (.cells (numC k ng num e den) 30)) w.heap.size 30 (numC k ng num e den)) := Bk.new _ _ _
  have hK1 := fun w => kept9_any digs9 num hn (by decide) (by decide) (by decide) w
  have hK2 := fun w => kept9_any smal9 num hn (by decide) (by decide) (by decide) w
  have hK3 := fun w => kept9_any digs9 den hd (by decide) (by decide) (by decide) w
  have e1 : digs9.toArray = #[48, 49, 50, 51, 52, 53, 54, 55, 56, 57] := rfl
  have e2 : smal9.toArray = #[48, 49, 50, 51, 52, 53, 54, 55, 56, 57, 97, 98, 99, 100, 101, 102] := rfl
  rw [e1] at hK1 hK3
  rw [e2] at hK2
  have hW := fun w => within9_any e w
  have hem : den.toList.isEmpty = den.data.toList.isEmpty := by rw [Lib.toList_data]
  unfold rightB
  generalize keptB digs9 num.data.toList = a1 at *
  generalize keptB smal9 num.data.toList = a2 at *
  generalize keptB digs9 den.data.toList = a3 at *
  generalize withB e = a4 at *
  generalize den.data.toList.isEmpty = a5 at *
  unfold numC at hb0 HB ⊢
  clear e1 e2
  by_cases k1 : k = 1
  · subst k1
    rw [if_pos rfl]
    clear hK2 hK3
    cases a1
    · go_enter Tryz.func34, Tryz.ntmps34
      go_wp2_with fail
      refine (hK1 _).mono ?_
      rintro r w1 ⟨rfl, hb1⟩
      have hB := hb0.trans (hb1.mono hb0.size)
      have B1 := HB.out.later hb1
      have z0 := B1.cell 0 rfl
      have z2 := B1.cell 2 rfl
      have z3 := B1.cell 3 rfl
      have z4 := B1.cell 4 rfl
      clear hK1 hb1 B1
      clear hW
      go_wp2
      go_ret
      exact ⟨rfl, hB⟩
    · cases a5
      · go_enter Tryz.func34, Tryz.ntmps34
        go_wp2_with fail
        refine (hK1 _).mono ?_
        rintro r w1 ⟨rfl, hb1⟩
        have hB := hb0.trans (hb1.mono hb0.size)
        have B1 := HB.out.later hb1
        have z0 := B1.cell 0 rfl
        have z2 := B1.cell 2 rfl
        have z3 := B1.cell 3 rfl
        have z4 := B1.cell 4 rfl
        clear hK1 hb1 B1
        clear hW
        go_wp2
        go_ret
        exact ⟨rfl, hB⟩
      · cases a4
        · go_enter Tryz.func34, Tryz.ntmps34
          go_wp2_with fail
          refine (hK1 _).mono ?_
          rintro r w1 ⟨rfl, hb1⟩
          have hB := hb0.trans (hb1.mono hb0.size)
          have B1 := HB.out.later hb1
          have z0 := B1.cell 0 rfl
          have z2 := B1.cell 2 rfl
          have z3 := B1.cell 3 rfl
          have z4 := B1.cell 4 rfl
          clear hK1 hb1 B1
          go_wp2_with fail
          refine (hW _).mono ?_
          rintro r w2 ⟨rfl, rfl⟩
          clear hW
          go_wp2
          go_ret
          exact ⟨rfl, hB⟩
        · go_enter Tryz.func34, Tryz.ntmps34
          go_wp2_with fail
          refine (hK1 _).mono ?_
          rintro r w1 ⟨rfl, hb1⟩
          have hB := hb0.trans (hb1.mono hb0.size)
          have B1 := HB.out.later hb1
          have z0 := B1.cell 0 rfl
          have z2 := B1.cell 2 rfl
          have z3 := B1.cell 3 rfl
          have z4 := B1.cell 4 rfl
          clear hK1 hb1 B1
          go_wp2_with fail
          refine (hW _).mono ?_
          rintro r w2 ⟨rfl, rfl⟩
          clear hW
          go_wp2
          go_ret
          exact ⟨rfl, hB⟩
  · have t1 : (k == 1) = false := by simpa using k1
    rw [if_neg k1]
    by_cases k2 : k = 2
    · subst k2
      rw [if_pos rfl]
      clear hK1 hK3 t1 k1
      cases a2
      · go_enter Tryz.func34, Tryz.ntmps34
        go_wp2_with fail
        refine (hK2 _).mono ?_
        rintro r w1 ⟨rfl, hb1⟩
        have hB := hb0.trans (hb1.mono hb0.size)
        have B1 := HB.out.later hb1
        have z0 := B1.cell 0 rfl
        have z2 := B1.cell 2 rfl
        have z3 := B1.cell 3 rfl
        have z4 := B1.cell 4 rfl
        clear hK2 hb1 B1
        clear hW
        go_wp2
        go_ret
        exact ⟨rfl, hB⟩
      · cases a5
        · go_enter Tryz.func34, Tryz.ntmps34
          go_wp2_with fail
          refine (hK2 _).mono ?_
          rintro r w1 ⟨rfl, hb1⟩
          have hB := hb0.trans (hb1.mono hb0.size)
          have B1 := HB.out.later hb1
          have z0 := B1.cell 0 rfl
          have z2 := B1.cell 2 rfl
          have z3 := B1.cell 3 rfl
          have z4 := B1.cell 4 rfl
          clear hK2 hb1 B1
          clear hW
          go_wp2
          go_ret
          exact ⟨rfl, hB⟩
        · cases a4
          · go_enter Tryz.func34, Tryz.ntmps34
            go_wp2_with fail
            refine (hK2 _).mono ?_
            rintro r w1 ⟨rfl, hb1⟩
            have hB := hb0.trans (hb1.mono hb0.size)
            have B1 := HB.out.later hb1
            have z0 := B1.cell 0 rfl
            have z2 := B1.cell 2 rfl
            have z3 := B1.cell 3 rfl
            have z4 := B1.cell 4 rfl
            clear hK2 hb1 B1
            go_wp2_with fail
            refine (hW _).mono ?_
            rintro r w2 ⟨rfl, rfl⟩
            clear hW
            go_wp2
            go_ret
            exact ⟨rfl, hB⟩
          · go_enter Tryz.func34, Tryz.ntmps34
            go_wp2_with fail
            refine (hK2 _).mono ?_
            rintro r w1 ⟨rfl, hb1⟩
            have hB := hb0.trans (hb1.mono hb0.size)
            have B1 := HB.out.later hb1
            have z0 := B1.cell 0 rfl
            have z2 := B1.cell 2 rfl
            have z3 := B1.cell 3 rfl
            have z4 := B1.cell 4 rfl
            clear hK2 hb1 B1
            go_wp2_with fail
            refine (hW _).mono ?_
            rintro r w2 ⟨rfl, rfl⟩
            clear hW
            go_wp2
            go_ret
            exact ⟨rfl, hB⟩
    · have t2 : (k == 2) = false := by simpa using k2
      rw [if_neg k2]
      by_cases k3 : k = 3
      · subst k3
        rw [if_pos rfl]
        clear hK2 hW t1 t2 k1 k2 hem
        cases a1
        · go_enter Tryz.func34, Tryz.ntmps34
          go_wp2_with fail
          refine (hK1 _).mono ?_
          rintro r w1 ⟨rfl, hb1⟩
          have hB := hb0.trans (hb1.mono hb0.size)
          have B1 := HB.out.later hb1
          have z0 := B1.cell 0 rfl
          have z2 := B1.cell 2 rfl
          have z3 := B1.cell 3 rfl
          have z4 := B1.cell 4 rfl
          clear hK1 hb1 B1
          clear hK3
          go_wp2
          go_ret
          exact ⟨rfl, hB⟩
        · cases a3
          · go_enter Tryz.func34, Tryz.ntmps34
            go_wp2_with fail
            refine (hK1 _).mono ?_
            rintro r w1 ⟨rfl, hb1⟩
            have hB := hb0.trans (hb1.mono hb0.size)
            have B1 := HB.out.later hb1
            have z0 := B1.cell 0 rfl
            have z2 := B1.cell 2 rfl
            have z3 := B1.cell 3 rfl
            have z4 := B1.cell 4 rfl
            have hlt1 := B1.lt
            clear hK1 hb1 B1
            go_wp2_with fail
            refine (hK3 _).mono ?_
            rintro r w2 ⟨rfl, hb⟩
            have hB := hB.trans (hb.mono hB.size)
            have z3 := (hb.cell (p := ⟨w.heap.size, 3, none⟩) hlt1).trans z3
            clear hK3 hb
            go_wp2
            go_ret
            exact ⟨rfl, hB⟩
          · by_cases he : e = 0
            · have q : (e == 0) = true := by simpa using he
              have q2 : decide (e = 0) = true := by simpa using he
              rw [q2]
              clear he q2
              go_enter Tryz.func34, Tryz.ntmps34
              go_wp2_with fail
              refine (hK1 _).mono ?_
              rintro r w1 ⟨rfl, hb1⟩
              have hB := hb0.trans (hb1.mono hb0.size)
              have B1 := HB.out.later hb1
              have z0 := B1.cell 0 rfl
              have z2 := B1.cell 2 rfl
              have z3 := B1.cell 3 rfl
              have z4 := B1.cell 4 rfl
              have hlt1 := B1.lt
              clear hK1 hb1 B1
              go_wp2_with fail
              refine (hK3 _).mono ?_
              rintro r w2 ⟨rfl, hb⟩
              have hB := hB.trans (hb.mono hB.size)
              have z3 := (hb.cell (p := ⟨w.heap.size, 3, none⟩) hlt1).trans z3
              clear hK3 hb
              go_wp2
              go_ret
              exact ⟨rfl, hB⟩
            · have q : (e == 0) = false := by simpa using he
              have q2 : decide (e = 0) = false := by simpa using he
              rw [q2]
              clear he q2
              go_enter Tryz.func34, Tryz.ntmps34
              go_wp2_with fail
              refine (hK1 _).mono ?_
              rintro r w1 ⟨rfl, hb1⟩
              have hB := hb0.trans (hb1.mono hb0.size)
              have B1 := HB.out.later hb1
              have z0 := B1.cell 0 rfl
              have z2 := B1.cell 2 rfl
              have z3 := B1.cell 3 rfl
              have z4 := B1.cell 4 rfl
              have hlt1 := B1.lt
              clear hK1 hb1 B1
              go_wp2_with fail
              refine (hK3 _).mono ?_
              rintro r w2 ⟨rfl, hb⟩
              have hB := hB.trans (hb.mono hB.size)
              have z3 := (hb.cell (p := ⟨w.heap.size, 3, none⟩) hlt1).trans z3
              clear hK3 hb
              go_wp2
              go_ret
              exact ⟨rfl, hB⟩
      · have t3 : (k == 3) = false := by simpa using k3
        rw [if_neg k3]
        clear hK1 hK2 hK3 hW k1 k2 k3
        go_enter Tryz.func34, Tryz.ntmps34
        go_wp2
        go_ret
        exact ⟨rfl, hb0⟩
end Go.Proofs.YtfgpjplfplbcdaaGreatDoor

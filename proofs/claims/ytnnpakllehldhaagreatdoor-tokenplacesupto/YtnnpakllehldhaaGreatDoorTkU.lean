/- Layer 18: told. -/
import Derived.Test.YtnnpakllehldhaaGreatDoorTkC
import Derived.Test.YtnnpakllehldhaaGreatDoorTkT
namespace Go.Proofs.YtnnpakllehldhaaGreatDoor
open Go.ChangeShapes Go.WideShapes Go.ChangeAt Go.RowKit
open Lx Tk
set_option linter.unusedVariables false
theorem below_more18 {a w : World} (h : Below a.heap.size a w) (o : Obj) : Below a.heap.size a (w.alloc o) := h.alloc h.size o
namespace Tk
def smB (x : UInt8) : UInt8 := if 65 ≤ x.toNat ∧ x.toNat ≤ 90 then x + 32 else if 97 ≤ x.toNat ∧ x.toNat ≤ 122 then x else 0
theorem sm_up {y : UInt8} (h : isLt y = true) : smB (upB y) = smB y ∧ 65 ≤ (upB y).toNat ∧ (upB y).toNat ≤ 90 := by
  have := bytes18 (p := fun y => !isLt y || (smB (upB y) == smB y && decide (65 ≤ (upB y).toNat) && decide ((upB y).toNat ≤ 90))) (by kernel_rfl) y
  rw [h] at this
  simp at this
  exact ⟨this.1.1, this.1.2, this.2⟩
end Tk
set_option maxHeartbeats 1600000 in
set_option maxRecDepth 100000 in
theorem lblank18_any (x : UInt8) (w : World) :
    Calls Tryz.prog 17 #[.int .u8 x.toNat] w fun e w' => e = .returned (.bool (isBl x)) ∧ w' = w := by
  have conc : ∀ k : UInt8, (k = 32 ∨ k = 9 ∨ k = 10 ∨ k = 13) → Calls Tryz.prog 17 #[.int .u8 k.toNat] w fun e w' => e = .returned (.bool (isBl k)) ∧ w' = w := by
    intro k hk
    rcases hk with rfl | rfl | rfl | rfl
    all_goals
      go_enter Tryz.func17, Tryz.ntmps17
      go_wp2
      go_ret
      exact ⟨rfl, rfl⟩
  by_cases n1 : x = 32; · exact conc x (by simp [n1])
  by_cases n2 : x = 9; · exact conc x (by simp [n2])
  by_cases n3 : x = 10; · exact conc x (by simp [n3])
  by_cases n4 : x = 13; · exact conc x (by simp [n4])
  have e : isBl x = false := by unfold isBl; simp [n1, n2, n3, n4]
  rw [e]
  have z1 : ((x.toNat : Int) == 32) = false := u8_ne n1
  have z2 : ((x.toNat : Int) == 9) = false := u8_ne n2
  have z3 : ((x.toNat : Int) == 10) = false := u8_ne n3
  have z4 : ((x.toNat : Int) == 13) = false := u8_ne n4
  clear e n1 n2 n3 n4 conc
  go_enter Tryz.func17, Tryz.ntmps17
  go_wp2
  go_ret
  exact ⟨rfl, rfl⟩
set_option maxHeartbeats 1600000 in
set_option maxRecDepth 100000 in
theorem lblanks18_any (s : ByteArray) (a b : Nat) (hs : s.size ≤ 1000000000) (hab : a ≤ b) (hb : b ≤ s.size) (hall : ∀ i (h : i < s.size), a ≤ i → i < b → isBl (s[i]'h) = true) (w : World) :
    Calls Tryz.prog 18 #[.string s, .int .i64 (a : Int), .int .i64 (b : Int)] w fun e w' => e = .returned (.bool true) ∧ w' = w := by
  have HA : Hid (∀ i (h : i < s.size), a ≤ i → i < b → isBl (s[i]'h) = true) := hall
  clear hall
  go_enter Tryz.func18, Tryz.ntmps18
  go_wp2
  go_loop [7] (fun v => ∃ i : Nat, v = .int .i64 (i : Int) ∧ a ≤ i ∧ i ≤ b) (fun v => b - (RowKit.intOf v).toNat)
  case atStart => exact ⟨a, rfl, Nat.le_refl _, hab⟩
  case round =>
    obtain ⟨i, rfl, h1, h2⟩ := hrel
    by_cases hlt : i < b
    · have hii : (i : Int) < (b : Int) := by omega
      have his : i < s.size := by omega
      have hisI : (i : Int) < (s.size : Int) := by omega
      have c1 := lblank18_any (s[i]'his)
      rw [HA.out i his h1 hlt] at c1
      go_wp2_with (go_at_call 17; refine (c1 _).mono ?_; rintro e w' ⟨rfl, rfl⟩)
      refine ⟨⟨i + 1, by go_num, by omega, by omega⟩, by simp [RowKit.intOf]; omega⟩
    · have hii : ¬ (i : Int) < (b : Int) := by omega
      go_wp2
      go_ret
      exact ⟨rfl, rfl⟩
set_option maxHeartbeats 1600000 in
set_option maxRecDepth 100000 in
theorem small18_any (x : UInt8) (w : World) :
    Calls Tryz.prog 30 #[.int .u8 x.toNat] w fun e w' => e = .returned (.int .u8 ((smB x).toNat : Int)) ∧ w' = w := by
  have hx := UInt8.toNat_lt x
  have e : ((smB x).toNat : Int) = if (65 : Int) ≤ (x.toNat : Int) ∧ (x.toNat : Int) ≤ 90 then (x.toNat : Int) + 32 else if (97 : Int) ≤ (x.toNat : Int) ∧ (x.toNat : Int) ≤ 122 then (x.toNat : Int) else 0 := by
    unfold smB
    by_cases h : 65 ≤ x.toNat ∧ x.toNat ≤ 90
    · rw [if_pos h, if_pos (by omega), UInt8.toNat_add]
      show (((x.toNat + 32) % 256 : Nat) : Int) = _
      omega
    · rw [if_neg h, if_neg (show ¬ ((65 : Int) ≤ (x.toNat : Int) ∧ (x.toNat : Int) ≤ 90) from by omega)]
      by_cases h2 : 97 ≤ x.toNat ∧ x.toNat ≤ 122
      · rw [if_pos h2, if_pos (show ((97 : Int) ≤ (x.toNat : Int) ∧ (x.toNat : Int) ≤ 122) from by omega)]
      · rw [if_neg h2, if_neg (show ¬ ((97 : Int) ≤ (x.toNat : Int) ∧ (x.toNat : Int) ≤ 122) from by omega)]; rfl
  rw [e]
  clear e
  have hxi : (x.toNat : Int) < 256 := by omega
  have hxw : (x.toNat : Int) ≤ 90 → IntKind.u8.wrap ((x.toNat : Int) + 32) = (x.toNat : Int) + 32 := fun h => by rw [IntKind.wrap_u8]; omega
  by_cases h1 : (65 : Int) ≤ (x.toNat : Int) <;> by_cases h2 : (x.toNat : Int) ≤ 90 <;> by_cases h3 : (97 : Int) ≤ (x.toNat : Int) <;> by_cases h4 : (x.toNat : Int) ≤ 122
  all_goals first
  | (exfalso; omega)
  | (clear hxw
     go_enter Tryz.func30, Tryz.ntmps30
     go_wp2
     go_ret
     refine ⟨?_, rfl⟩
     show Ending.returned (Value.int _ _) = Ending.returned (Value.int _ _)
     first
     | rfl
     | (congr 2; simp [h1, h2, h3, h4]; done)
     | (congr 2; simp [h1, h2, h3, h4]; omega))
set_option maxHeartbeats 3200000 in
set_option maxRecDepth 100000 in
theorem told18_mark (s : ByteArray) (fr to_ : Nat) (kn : Int) (b : UInt8) (hs : s.size ≤ 1000000000) (h1 : fr ≤ to_) (h2 : to_ ≤ s.size) (hP : s.extract fr to_ = str [b]) (hk : (kn = 2 ∧ b = 40) ∨ (kn = 3 ∧ b = 41) ∨ (kn = 4 ∧ b = 44)) (w : World) :
    Calls Tryz.prog 19 #[.string s, .agg (tkA kn fr to_ [] nmZ0)] w fun e w' => e = .returned (.bool true) ∧ Below w.heap.size w w' := by
  have hi1 : (fr : Int) ≤ (to_ : Int) := by omega
  have hi2 : (to_ : Int) ≤ (s.size : Int) := by omega
  have hU : tkA kn fr to_ [] nmZ0 = #[.int .i64 kn, .int .i64 fr, .int .i64 to_, .string ⟨#[]⟩, .int .i64 0, .bool false, .string ⟨#[]⟩, .int .i64 0, .string ⟨#[]⟩] := rfl
  rw [hU]
  clear hU
  have hb0 : Below w.heap.size w (w.alloc (.cells #[.int .i64 kn, .int .i64 fr, .int .i64 to_, .string ⟨#[]⟩, .int .i64 0, .bool false, .string ⟨#[]⟩, .int .i64 0, .string ⟨#[]⟩] 32)) := (Below.refl _ w).alloc (Nat.le_refl _) _
  have hS : str [b] = ⟨#[b]⟩ := rfl
  rw [hS] at hP
  clear hS
  rcases hk with ⟨rfl, rfl⟩ | ⟨rfl, rfl⟩ | ⟨rfl, rfl⟩
  all_goals
    go_enter Tryz.func19, Tryz.ntmps19
    go_wp2
    go_ret
    exact ⟨rfl, hb0⟩
set_option maxHeartbeats 3200000 in
set_option maxRecDepth 100000 in
theorem told18_num (s : ByteArray) (fr to_ : Nat) (P : B) (nn : Nm) (hs : s.size ≤ 1000000000) (h1 : fr ≤ to_) (h2 : to_ ≤ s.size) (hP : s.extract fr to_ = str P) (hl : P.length ≤ 65536) (hk : (longestL P).kind ≠ 0) (hst : (longestL P).stop = P.length) (hnn : nn = numOf (longestL P)) (w : World) :
    Calls Tryz.prog 19 #[.string s, .agg (tkA 5 fr to_ [] nn)] w fun e w' => e = .returned (.bool true) ∧ Below w.heap.size w w' := by
  have hsc : scanP (str P).data.toList 0 = longestL P := by unfold scanP; rw [str_list, List.drop_zero, List.take_of_length_le hl]
  have hok : scOk (str P) 0 := ⟨by omega, by omega, by rw [show (0 : Int).toNat = 0 from rfl, hsc]; exact hk⟩
  have e1 : paN (str P) = nn := by unfold paN; rw [hsc, if_pos ⟨hok, by rw [hst, str_size]⟩, hnn]
  have e2 : paC (str P) = 0 := by unfold paC; rw [hsc, if_pos hok, if_pos (by rw [hst, str_size])]
  have cP : ∀ w, Calls Tryz.prog 31 #[.string (str P)] w fun e w' => e = .returned (.tuple #[.agg (nmA nn), .nilIface]) ∧ Below w.heap.size w w' := fun w => by
    refine (parse9_all (str P) (by rw [str_size]; unfold maxLen; omega) w).mono ?_
    rintro e w' ⟨er, rfl, he, hb⟩
    rw [e1]
    rcases he with ⟨_, rfl⟩ | ⟨h, _⟩
    · exact ⟨rfl, hb⟩
    · exact absurd e2 h
  have hi1 : (fr : Int) ≤ (to_ : Int) := by omega
  have hi2 : (to_ : Int) ≤ (s.size : Int) := by omega
  clear hsc hok e1 e2 hk hst hnn hl
  unfold nmA at cP
  have hU : tkA 5 fr to_ [] nn = #[.int .i64 5, .int .i64 fr, .int .i64 to_, .string ⟨#[]⟩, .int .i64 nn.kind, .bool nn.neg, .string (str nn.num), .int .i64 nn.exp, .string (str nn.den)] := rfl
  rw [hU]
  clear hU
  generalize str P = PP at *
  generalize str nn.num = N1 at *
  generalize str nn.den = N2 at *
  have hb0 : Below w.heap.size w (w.alloc (.cells #[.int .i64 5, .int .i64 fr, .int .i64 to_, .string ⟨#[]⟩, .int .i64 nn.kind, .bool nn.neg, .string N1, .int .i64 nn.exp, .string N2] 32)) := (Below.refl _ w).alloc (Nat.le_refl _) _
  have B0 := Bk.new w 32 #[.int .i64 5, .int .i64 fr, .int .i64 to_, .string ⟨#[]⟩, .int .i64 nn.kind, .bool nn.neg, .string N1, .int .i64 nn.exp, .string N2]
  have HB0 : Hid _ := B0
  clear B0
  go_enter Tryz.func19, Tryz.ntmps19
  go_wp2_with fail
  refine (cP _).mono ?_
  rintro e w1 ⟨rfl, hb1⟩
  have B1 : Bk w1 w.heap.size 32 #[.int .i64 5, .int .i64 fr, .int .i64 to_, .string ⟨#[]⟩, .int .i64 nn.kind, .bool nn.neg, .string N1, .int .i64 nn.exp, .string N2] := Bk.later HB0.out hb1
  have hlt := B1.lt
  have y3 : w1.cell? ⟨w.heap.size, 3, none⟩ = some (.string ⟨#[]⟩) := B1.cell 3 rfl
  have y4 : w1.cell? ⟨w.heap.size, 4, none⟩ = some (.int .i64 nn.kind) := B1.cell 4 rfl
  have y5 : w1.cell? ⟨w.heap.size, 5, none⟩ = some (.bool nn.neg) := B1.cell 5 rfl
  have y6 : w1.cell? ⟨w.heap.size, 6, none⟩ = some (.string N1) := B1.cell 6 rfl
  have y7 : w1.cell? ⟨w.heap.size, 7, none⟩ = some (.int .i64 nn.exp) := B1.cell 7 rfl
  have y8 : w1.cell? ⟨w.heap.size, 8, none⟩ = some (.string N2) := B1.cell 8 rfl
  have ne1 : ¬ w.heap.size = w1.heap.size := by omega
  have ne2 : ¬ w1.heap.size = w.heap.size := by omega
  have hbB := hb0.trans (hb1.mono hb0.size)
  have HBB : Hid _ := hbB
  clear B1 HB0 cP hb1 hb0 hbB
  go_wp2
  go_ret
  exact ⟨by first | rfl | simp, below_more18 HBB.out _⟩
end Go.Proofs.YtnnpakllehldhaaGreatDoor

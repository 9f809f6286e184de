/- Layer 9: strings.TrimLeft. -/
import Derived.Test.YtbbmoaipilmmdaaGreatDoorLexStr
namespace Go.Proofs.YtbbmoaipilmmdaaGreatDoor
open Go.ChangeShapes Go.WideShapes Go.ChangeAt Go.RowKit
open Lx
set_option linter.unusedVariables false
set_option maxHeartbeats 1600000 in
set_option maxRecDepth 100000 in
theorem trimLeftByte_any (s : ByteArray) (c : UInt8) (w : World) :
    Calls Tryz.prog 77 #[.string s, .int .u8 c.toNat] w fun e w' => e = .returned (.string (str (trimL [c] s.data.toList))) ∧ w' = w := by
  go_enter Tryz.func77, Tryz.ntmps77
  go_wp2
  go_loop [0] (fun v => ∃ k : Nat, k ≤ s.size ∧ v = .string (str (s.data.toList.drop k)) ∧ Hid (∀ (j : Nat) b, j < k → s.data.toList[j]? = some b → ([c] : B).contains b = true)) (fun v => Lib.strSize v)
  case atStart => exact ⟨0, Nat.zero_le _, by rw [List.drop_zero, str_of], fun j b hj => absurd hj (Nat.not_lt_zero _)⟩
  case round =>
    obtain ⟨k, hk, rfl, hc⟩ := hrel
    have hts : (str (s.data.toList.drop k)).size = s.size - k := by rw [str_size, List.length_drop, ← Lib.size_eq]
    by_cases h0 : k < s.size
    · have hp : 0 < (str (s.data.toList.drop k)).size := by omega
      have hx := str_head h0 hp
      have hx1 := ext_one h0
      have HK : Hid (s.data.toList[k]? = some (s[k]'h0)) := Lib.data_getElem? s k h0
      generalize hq : (s[k]'h0) = x at *
      have hi : (0 : Int) < ((s.size - k : Nat) : Int) := by omega
      generalize ht : str (s.data.toList.drop k) = t at hts hp hx hx1 ⊢
      have HT : Hid (str (s.data.toList.drop k) = t) := ht
      clear ht hq
      by_cases hin : x = c
      · have HI : Hid (([c] : B).contains x = true) := by rw [hin]; simp [Hid]
        have hb : ((x.toNat : Int) == (c.toNat : Int)) = true := by rw [hin]; simp
        clear hin
        go_wp2
        refine ⟨⟨k + 1, by omega, rfl, fun j b hj hb => ?_⟩, ?_⟩
        · by_cases e : j = k
          · subst e
            rw [HK.out] at hb; rw [← Option.some.inj hb]; exact HI
          · exact hc.out j b (by omega) hb
        · show Lib.strSize (.string _) < Lib.strSize (.string _)
          simp only [Lib.strSize]
          rw [str_size, List.length_drop, ← Lib.size_eq]
          omega
      · have HI : Hid (([c] : B).contains x = false) := by simpa [Hid] using hin
        have hb : ((x.toNat : Int) == (c.toNat : Int)) = false := beq_eq_false_iff_ne.2 fun e => hin (UInt8.toNat_inj.1 (by exact_mod_cast e))
        clear hin
        go_wp2
        go_ret
        refine ⟨?_, rfl⟩
        have HT' : str (s.data.toList.drop k) = t := HT
        show Ending.returned (Value.string t) = _
        rw [dropWhile_at s.data.toList [c] k (by rw [← Lib.size_eq]; exact hk) hc.out (fun b hb => by
          rw [HK.out] at hb; rw [← Option.some.inj hb]; exact HI), HT']
    · have hi : ¬ (0 : Int) < ((s.size - k : Nat) : Int) := by omega
      generalize ht : str (s.data.toList.drop k) = t at hts ⊢
      have HT : Hid (str (s.data.toList.drop k) = t) := ht
      clear ht
      go_wp2
      go_ret
      refine ⟨?_, rfl⟩
      have HT' : str (s.data.toList.drop k) = t := HT
      show Ending.returned (Value.string t) = _
      rw [dropWhile_at s.data.toList [c] k (by rw [← Lib.size_eq]; exact hk) hc.out (fun b hb => by
        have : s.data.toList.length ≤ k := by rw [← Lib.size_eq]; omega
        rw [List.getElem?_eq_none this] at hb; cases hb), HT']
namespace Lx
/-- one load, one store by hand -/
theorem op_load {P : Program} {o : Oper} {a : Act} {w w1 : World} {next : Act → World → Prop} {Q : Exit → Act → World → Prop} {t : TypeId} {x : Operand} (v : Value) (ho : o.op = .load t x)
    (h : (Instr.loadAt t (a.eval x)).run P w = .ok v w1) (hn : next (a.put o.dst v) w1) : Oper.wp P o a w next Q := by
  unfold Oper.wp execOp
  rw [ho]
  simp only [Sem.run_bind, Sem.run_pure, h, Result.andThen]
  exact hn
theorem op_store {P : Program} {o : Oper} {a : Act} {w w1 : World} {next : Act → World → Prop} {Q : Exit → Act → World → Prop} {t : TypeId} {x y : Operand} (ho : o.op = .store t x y)
    (h : (Instr.storeAt t (a.eval x) (a.eval y)).run P w = .ok () w1) (hn : next (a.put o.dst undef) w1) : Oper.wp P o a w next Q := by
  unfold Oper.wp execOp
  rw [ho]
  simp only [Sem.run_bind, Sem.run_pure, h, Result.andThen]
  exact hn
theorem aset_size : (Tryz.prog.info? 116).map (·.size) = some 256 := by kernel_rfl
theorem zeroSet : Tryz.zeroCells116 = Lib.setCells [] := by kernel_rfl
theorem aset_und : Tryz.prog.underlying 116 = some (.array 256 4) := by kernel_rfl
end Lx
set_option maxHeartbeats 4000000 in
set_option maxRecDepth 100000 in
theorem makeSet_any (z : ByteArray) (w : World) (hz : z.size < 1000) (hascii : ∀ (j : Nat) b, z.data.toList[j]? = some b → b.toNat < 128) :
    Calls Tryz.prog 79 #[.string z] w fun e w' => e = .returned (.tuple #[.agg (Lib.setCells z.data.toList), .bool true]) ∧ w' = w.alloc (.cells (Lib.setCells z.data.toList) 116) := by
  have HA : Hid (∀ (j : Nat) b, z.data.toList[j]? = some b → b.toNat < 128) := hascii
  clear hascii
  go_enter Tryz.func79, Tryz.ntmps79
  go_wp2
  rw [show Tryz.zeroCells116 = Lib.setCells [] from zeroSet]
  go_loopg [4] z.size (fun g s4 wx => ∃ i : Nat, i + g = z.size ∧ s4 = .int .i64 i ∧ wx = w.alloc (.cells (Lib.setCells (z.data.toList.take i)) 116))
  case atStart => exact ⟨0, by omega, rfl, rfl⟩
  case round =>
    obtain ⟨i, hig, rfl, rfl⟩ := hrel
    cases gk with
    | zero =>
      obtain rfl : i = z.size := by omega
      have hiz : ¬ ((z.size : Int) < (z.size : Int)) := by omega
      rw [show z.data.toList.take z.size = z.data.toList from List.take_of_length_le (by rw [← Lib.size_eq]; exact Nat.le_refl _)]
      have hld := run_loadVar_new (P := Tryz.prog) w 116 (Lib.setCells z.data.toList) 256 4 aset_und (by rw [Lib.setCells_size]; exact aset_size)
      have hsz := Lib.setCells_size z.data.toList
      have hla := run_loadAt_new (P := Tryz.prog) w 116 (Lib.setCells z.data.toList) 256 4 aset_und (by rw [hsz]; exact aset_size)
      have hsa := run_storeCells_new (P := Tryz.prog) w 116 (Lib.setCells z.data.toList) (Lib.setCells z.data.toList) (by rw [hsz]; exact aset_size) rfl (Lib.setCells_one _)
      generalize hW : w.alloc (.cells (Lib.setCells z.data.toList) 116) = W at hld hla hsa ⊢
      have HW : Hid (w.alloc (.cells (Lib.setCells z.data.toList) 116) = W) := hW
      have HL : Hid _ := hla
      have HS : Hid _ := hsa
      have HD : Hid _ := hld
      clear hW hla hsa hld
      generalize hC : Lib.setCells z.data.toList = C at *
      have HC : Hid (Lib.setCells z.data.toList = C) := hC
      clear hC
      go_wp2
      refine op_load (.agg C) rfl HL.out ?_
      go_wp2
      rw [HS.out]
      simp only [Result.andThen]
      rw [Oper.upon_skip]
      go_wp2
      (try simp only [Exit.inBlock, Exit.then])
      refine bodyPost_ret (v := .tuple #[.agg C, .bool true]) ?_ rfl ⟨by rw [HC.out], by rw [HC.out, HW.out]⟩
      rw [results_cell_tmp rfl]
      simp [asAddr, Result.andThen, HD.out]
    | succ g =>
      have hi : i < z.size := by omega
      have hiz : (i : Int) < (z.size : Int) := by omega
      obtain ⟨x, hx⟩ : ∃ x : UInt8, z[i]'hi = x := ⟨_, rfl⟩
      have hxl : z.data.toList[i]? = some x := by rw [← hx]; exact Lib.data_getElem? z i hi
      have hx128 : ¬ ((128 : Int) ≤ (x.toNat : Int)) := by have := HA.out i x hxl; omega
      have hx256 : (x.toNat : Int) < 256 := by have := HA.out i x hxl; omega
      have hcell := Lib.setCells_at (z.data.toList.take i) x
      have Hx : Hid (z.data.toList[i]? = some x) := hxl
      clear hxl
      go_wp2
      go_roundg g
      case measure => omega
      case rel => exact ⟨i + 1, by omega, by first | rfl | simp, by rw [List.take_add_one, Hx.out]; simp only [Option.toList]; rw [Lib.setCells_snoc]⟩
namespace Lx
theorem pair_of {z : ByteArray} {l : B} (h : z.data.toList = l) : z = str l := by rw [← h, str_of]
end Lx
set_option maxHeartbeats 4000000 in
set_option maxRecDepth 100000 in
/-- a set of two bytes and more -/
theorem trimLeft_many (s z : ByteArray) (w : World) (h2 : 2 ≤ z.size) (h0 : 0 < s.size) (hz : z.size < 1000) (hascii : ∀ (j : Nat) b, z.data.toList[j]? = some b → b.toNat < 128) :
    Calls Tryz.prog 38 #[.string s, .string z] w fun e w' => e = .returned (.string (str (trimL z.data.toList s.data.toList))) ∧ Below w.heap.size w w' := by
  have hM := makeSet_any z w hz hascii
  clear hascii
  have hemp : z.toList.isEmpty = false := by
    rw [Lib.toList_data]
    cases h : z.data.toList with
    | nil => have := Lib.size_eq z; rw [h, List.length_nil] at this; omega
    | cons _ _ => rfl
  have hemps : s.toList.isEmpty = false := by
    rw [Lib.toList_data]
    cases h : s.data.toList with
    | nil => have := Lib.size_eq s; rw [h, List.length_nil] at this; omega
    | cons _ _ => rfl
  have hn1 : ((z.size : Int) == 1) = false := beq_eq_false_iff_ne.2 (by omega)
  have hcellAt : ∀ x : UInt8, ((w.alloc (.cells (Lib.setCells z.data.toList) 116)).alloc (.cells (Lib.setCells z.data.toList) 116)).cell? ⟨w.heap.size + 1, x.toNat, none⟩ = some (.bool (z.data.toList.contains x)) := fun x => by
    rw [World.cell?_alloc_at _ _ _ _ (by simp), Lib.setCells_at]
  have hT := trimLeftSet_any s (w.heap.size + 1) z.data.toList _ hcellAt
  have hsz := Lib.setCells_size z.data.toList
  have hsc := run_storeCells_new (P := Tryz.prog) (w.alloc (.cells (Lib.setCells z.data.toList) 116)) 116 Tryz.zeroCells116 (Lib.setCells z.data.toList) (by rw [hsz]; exact aset_size) (by rw [hsz, zeroSet]; exact Lib.setCells_size _) (Lib.setCells_one _)
  simp only [World.size_alloc] at hsc
  have HC : Hid _ := hsc
  clear hsc hcellAt
  go_enter Tryz.func38, Tryz.ntmps38
  go_wp2_with (go_at_call 79; refine hM.mono ?_; rintro e w' ⟨rfl, hw⟩; rw [hw])
  rw [HC.out]
  simp only [Result.andThen]
  rw [Oper.upon_skip]
  go_wp2_with (go_at_call 80; refine hT.mono ?_; rintro e w' ⟨rfl, hw⟩; rw [hw])
  go_ret
  exact ⟨rfl, ((Below.refl _ w).alloc (Nat.le_refl _) _).alloc (by simp) _⟩
set_option maxRecDepth 100000 in
/-- a set of one byte -/
theorem trimLeft_one (s : ByteArray) (c : UInt8) (w : World) (hc : c.toNat < 128) (h0 : 0 < s.size) :
    Calls Tryz.prog 38 #[.string s, .string ⟨#[c]⟩] w fun e w' => e = .returned (.string (str (trimL [c] s.data.toList))) ∧ w' = w := by
  have hemps : s.toList.isEmpty = false := by
    rw [Lib.toList_data]
    cases h : s.data.toList with
    | nil => have := Lib.size_eq s; rw [h, List.length_nil] at this; omega
    | cons _ _ => rfl
  have hemp : (ByteArray.mk #[c]).toList.isEmpty = false := by rw [Lib.toList_data]; rfl
  have hi : (c.toNat : Int) < 128 := by omega
  have hx : ∀ h, (ByteArray.mk #[c])[0]'h = c := fun _ => rfl
  go_enter Tryz.func38, Tryz.ntmps38
  go_wp2_with (go_at_call 77; refine (trimLeftByte_any _ c _).mono ?_; rintro e w' ⟨rfl, rfl⟩)
  go_ret
  exact ⟨rfl, rfl⟩
set_option maxRecDepth 100000 in
theorem trimLeft_none (z : ByteArray) (w : World) :
    Calls Tryz.prog 38 #[.string ⟨#[]⟩, .string z] w fun e w' => e = .returned (.string ⟨#[]⟩) ∧ w' = w := by
  go_enter Tryz.func38, Tryz.ntmps38
  go_wp2
  go_ret
  exact ⟨rfl, rfl⟩
namespace Lx
theorem empty_of {s : ByteArray} (h : ¬ 0 < s.size) : s = ⟨#[]⟩ := by
  have : s.data.toList = [] := List.length_eq_zero_iff.mp (by rw [← Lib.size_eq]; omega)
  rw [← str_of s, this]; rfl
end Lx
theorem trimLeft_set (cs : B) (s : ByteArray) (w : World) (h2 : 2 ≤ cs.length) (hz : cs.length < 1000) (hascii : cs.all (fun b => decide (b.toNat < 128)) = true) :
    Calls Tryz.prog 38 #[.string s, .string ⟨cs.toArray⟩] w fun e w' => e = .returned (.string (str (trimL cs s.data.toList))) ∧ Below w.heap.size w w' := by
  by_cases h0 : 0 < s.size
  · have := trimLeft_many s (str cs) w (by rw [str_size]; exact h2) h0 (by rw [str_size]; exact hz) (fun j b hb => by
      rw [str_list] at hb
      simpa using List.all_eq_true.mp hascii b (List.mem_of_getElem? hb))
    rw [str_list] at this
    exact this
  · obtain rfl := empty_of h0
    refine (trimLeft_none _ _).mono ?_
    rintro e w' ⟨rfl, rfl⟩
    exact ⟨rfl, Below.refl _ _⟩
theorem trimLeft_zero (s : ByteArray) (w : World) :
    Calls Tryz.prog 38 #[.string s, .string ⟨#[48]⟩] w fun e w' => e = .returned (.string (str (trimL [48] s.data.toList))) ∧ w' = w := by
  by_cases h0 : 0 < s.size
  · exact trimLeft_one s 48 w (by decide) h0
  · obtain rfl := empty_of h0
    refine (trimLeft_none _ _).mono ?_
    rintro e w' ⟨rfl, rfl⟩
    exact ⟨rfl, rfl⟩
end Go.Proofs.YtbbmoaipilmmdaaGreatDoor

import Derived.Lib.SlBytesConst
import Derived.ArgAppend
import Derived.Below
import Derived.BigQuiet
import Derived.ChangeOld
import Derived.Deep.DeepCutAuto
import Derived.Deep.LoopGhost
import Derived.Deep.QuietTactic
import Derived.Deep.RegionHeld3
import Derived.Deep.RegionWith
import Derived.Deep.WholeRow
import Derived.KernelRfl
import Derived.Laws.BitsAllLaws
import Derived.Laws.CopyRow
import Derived.Laws.EntriesVeiled
import Derived.Laws.Externs
import Derived.Laws.IdiomCopy
import Derived.Laws.IdiomRangeMap
import Derived.Laws.IdiomStrings
import Derived.Laws.RangeAny
import Derived.Laws.RangeString
import Derived.Laws.ResultCell
import Derived.Laws.Runes
import Derived.Laws.Strings3
import Derived.Lib.AppendIntMem
import Derived.Lib.AsciiSet
import Derived.Lib.BufferRead
import Derived.Lib.Bytealg
import Derived.Lib.IndexBytes
import Derived.Lib.ItoaLen
import Derived.Lib.ItoaNum
import Derived.Lib.OthersKept
import Derived.Lib.Strings
import Derived.Lib.TrimByte
import Derived.Lib.Walk
import Derived.OpenShut
import Derived.OwnWalk
import Derived.ProofKit
import Derived.Scope
import Derived.Shelf.Strconv.Itoa3
import Derived.Shelf.Strings.OnBuilder
import Derived.Shelf.Strings.Repeat
import Derived.Shelf.Strings.Trim
import Derived.ShutString
import Derived.WalkKit
import Derived.WalkLawsBesides
import Derived.WalkMore
import Derived.WalkSpells
import Derived.Test.YtjnmgjcmagnkeabGreatDoorPk29
/- Layer 14: ftoa: the hexadecimal form. -/
namespace Go.Proofs.YtjnmgjcmagnkeabGreatDoor
open Go.ChangeShapes Go.WideShapes Go.ChangeAt Go.RowKit
open Na Ar Ry Ft Lx Go.Shelf
set_option linter.unusedVariables false
namespace Ft
/-- how many bits lie ahead -/
def ahB (m : Nat) : Nat := 64 - Lib.bitLen m
/-- what lies behind the first bit, as a word -/
def bhB (m : Nat) : Nat := m * 2 ^ ahB m % 18446744073709551616 * 2 % 18446744073709551616
structure AB (m : Nat) : Prop where
  a0 : 11 ≤ ahB m
  a1 : ahB m ≤ 63
  eq : m * 2 ^ ahB m * 2 = 18446744073709551616 + bhB m
  lt : bhB m < 18446744073709551616
  mu : bhB m % 4096 = 0
theorem ab_of {m : Nat} (h0 : 0 < m) (h1 : m < 9007199254740992) : AB m := by
  obtain ⟨l1, l2, l3⟩ := Lib.bitLenAux_bounds 64 m (by omega) (by omega)
  have hb : Lib.bitLen m = Lib.bitLenAux 64 m := rfl
  rw [← hb] at l1 l2 l3
  have l4 : Lib.bitLen m ≤ 53 := by
    rcases Nat.lt_or_ge 53 (Lib.bitLen m) with q | q
    · have : 2 ^ 53 ≤ 2 ^ (Lib.bitLen m - 1) := Nat.pow_le_pow_right (by omega) (by omega)
      have e : 2 ^ 53 = 9007199254740992 := by decide
      omega
    · exact q
  have ha : ahB m = 64 - Lib.bitLen m := rfl
  have ea : Lib.bitLen m = 64 - ahB m := by omega
  rw [ea] at l2 l3
  have a0 : 11 ≤ ahB m := by omega
  have a1 : ahB m ≤ 63 := by omega
  have p : 0 < 2 ^ ahB m := Nat.two_pow_pos _
  have e1 : 2 ^ (64 - ahB m - 1) * 2 ^ ahB m = 9223372036854775808 := by rw [← Nat.pow_add, show 64 - ahB m - 1 + ahB m = 63 by omega]
  have e2 : 2 ^ (64 - ahB m) * 2 ^ ahB m = 18446744073709551616 := by rw [← Nat.pow_add, show 64 - ahB m + ahB m = 64 by omega]
  have g1 : 9223372036854775808 ≤ m * 2 ^ ahB m := by rw [← e1]; exact Nat.mul_le_mul_right _ l2
  have g2 : m * 2 ^ ahB m < 18446744073709551616 := by rw [← e2]; exact Nat.mul_lt_mul_of_pos_right l3 p
  have g3 : m * 2 ^ ahB m * 2 = 18446744073709551616 + bhB m := by unfold bhB; rw [Nat.mod_eq_of_lt g2]; omega
  refine ⟨a0, a1, g3, Nat.mod_lt _ (by omega), ?_⟩
  have e3 : 2 ^ ahB m = 2 ^ (ahB m - 11) * 2048 := by rw [show (2048 : Nat) = 2 ^ 11 by decide, ← Nat.pow_add, show ahB m - 11 + 11 = ahB m by omega]
  have e4 : m * 2 ^ ahB m * 2 = m * 2 ^ (ahB m - 11) * 4096 := by rw [e3, ← Nat.mul_assoc, Nat.mul_assoc _ 2048 2]
  rw [e4] at g3
  omega
/-- the text of a size above 0 -/
theorem hex_tab : ∀ n : Fin 16, (ByteArray.mk #[48, 49, 50, 51, 52, 53, 54, 55, 56, 57, 97, 98, 99, 100, 101, 102])[n.val]'(by have := n.isLt; exact this) = hxD n.val := by decide
def hxS (p : Int) : B := hxT (bhB (spM p).toNat) (spX p + 63 - ahB (spM p).toNat)
end Ft
set_option maxHeartbeats 3200000 in
set_option maxRecDepth 100000 in
theorem hex14_any {b : Int} (hu : U b) (hf : ef b ≠ 2047) (h0 : mg b ≠ 0) (w : World) (hT : PowTb w) :
    Calls Tryz.prog 130 #[.int .u64 b] w fun r w' => r = .returned (.string (str (hxS (mg b)))) ∧ Below w.heap.size w w' := by
  have hS := fun w => f6Split_any hu w
  have hm := sp_mg hu
  have hz : spM b ≠ 0 := fun q => h0 ((num_zero hu hf).mp q)
  obtain ⟨p, hp1, hp2, hp3, hp4, -, -, -⟩ := num_parts hu hf
  have hx : hxS (mg b) = hxT (bhB (spM b).toNat) (spX b + 63 - ahB (spM b).toNat) := by unfold hxS; rw [hm.1, hm.2.1]
  rw [hx]
  obtain ⟨m, em⟩ : ∃ m : Nat, spM b = (m : Int) := ⟨(spM b).toNat, by omega⟩
  have et : (spM b).toNat = m := by omega
  rw [et]
  have hA := ab_of (m := m) (by omega) (by omega)
  have hL := fun w => lead14_any (m := spM b) ⟨by omega, by omega⟩ w
  rw [em] at hS hL
  have e1 : (64 : Int) - (Lib.bitLen (m : Int).toNat : Int) = (ahB m : Int) := by
    have := hA.a0
    have : ahB m = 64 - Lib.bitLen m := rfl
    rw [Int.toNat_natCast]; omega
  rw [e1] at hL
  have hX := fun w h => exponent14_any (e := spX b + 63 - ahB m) (m := 1) (by have := hA.a1; omega) (by omega) (by omega) w h
  have a0 := hA.a0
  have a1 := hA.a1
  have HE : Hid (m * 2 ^ ahB m % 18446744073709551616 * 2 % 18446744073709551616 = bhB m) := rfl
  have HB : Hid (bhB m < 18446744073709551616) := hA.lt
  clear hA e1 em et hx hm
  generalize ahB m = a at *
  generalize bhB m = x at *
  generalize spX b = X at *
  generalize spS b = sb at *
  generalize fiE b = fe at *
  obtain ⟨i_u8, hi_u8, hz0_u8, hz1_u8, hz2_u8⟩ := info_parts info9_u8
  have hkc := Lib.run_convert_bytes_const (P := Tryz.prog) w 96 5 #[.int .u8 48, .int .u8 120, .int .u8 49] 3 3 Tryz.underlying96 Tryz.underlying5
  have T0 : PowTb (w.alloc (.cells #[.int .u8 48, .int .u8 120, .int .u8 49] 5 (3, 4))) := Lib.tabIs_alloc hT _
  have B0 : Below w.heap.size w (w.alloc (.cells #[.int .u8 48, .int .u8 120, .int .u8 49] 5 (3, 4))) := (Below.refl _ w).alloc (Nat.le_refl _) _
  have C0 : ∀ j u, [Value.int .u8 48, Value.int .u8 120, Value.int .u8 49][j]? = some u → (w.alloc (.cells #[.int .u8 48, .int .u8 120, .int .u8 49] 5 (3, 4))).cell? ⟨w.heap.size, j, none⟩ = some u := fun j u hj => by
    rw [World.cell?_alloc_mark, ← hj]
    simp
  obtain ⟨w0, hw0⟩ : ∃ w0, w0 = w.alloc (.cells #[.int .u8 48, .int .u8 120, .int .u8 49] 5 (3, 4)) := ⟨_, rfl⟩
  have hs0 : w.heap.size < w0.heap.size := by rw [hw0]; simp
  rw [← hw0] at T0 B0 C0
  have hkc' : (convert 96 96 (.slice (some ⟨w.heap.size, 0, none⟩) 3 3)).run Tryz.prog (w.alloc (.cells #[.int .u8 48, .int .u8 120, .int .u8 49] 5)) = .ok (.slice (some ⟨w.heap.size, 0, none⟩) 3 3) w0 := by rw [hw0]; exact hkc
  clear hkc hw0
  obtain ⟨y, hy⟩ : ∃ y : Nat, y = m * 2 ^ a % 18446744073709551616 := ⟨_, rfl⟩
  have wr1 : IntKind.u64.wrap ((m : Int) * 2 ^ a) = (y : Int) := by rw [hy, IntKind.wrap_u64, Int.natCast_emod, Int.natCast_mul, Int.natCast_pow]; rfl
  have wr2 : IntKind.u64.wrap ((y : Int) * 2) = (x : Int) := by rw [← HE.out, ← hy, IntKind.wrap_u64]; omega
  clear hy HE
  have hXX : (exT (X + 63 - a) 1).length ≤ 100 := by
    unfold exT
    have := dd_len (n := (X + 63 - (a : Int)).natAbs) (by omega)
    rw [List.length_cons, List.length_append, List.length_replicate]; omega
  have HR : Hid (hxT x (X + 63 - a) = [48, 120, 49] ++ ((if x ≠ 0 then 46 :: hxL 16 x else []) ++ (112 :: exT (X + 63 - a) 1))) := rfl
  generalize hxT x (X + 63 - a) = RES at *
  generalize exT (X + 63 - a) 1 = ET at *
  have sET : (str ET).size = ET.length := str_size ET
  have wr3 : IntKind.i64.wrap (X + 63) = X + 63 := by rw [IntKind.wrap_i64]; omega
  have wr4 : IntKind.i64.wrap (X + 63 - (a : Int)) = X + 63 - (a : Int) := by rw [IntKind.wrap_i64]; omega
  go_enter Tryz.func130, Tryz.ntmps130
  go_wp2_with fail
  refine (hS _).mono ?_
  rintro e w1 ⟨rfl, hw1⟩
  rw [← hw1]
  clear hS hw1
  go_wp2_with fail
  refine (hL _).mono ?_
  rintro e w1 ⟨rfl, hw1⟩
  rw [hw1]
  clear hL hw1
  by_cases q0 : x = 0
  · rw [q0] at HR
    have HR2 : Hid (RES = [48, 120, 49] ++ (112 :: ET)) := by have := HR.out; show _ = _; simpa using this
    have hcl : ∀ w', Below w0.heap.size w0 w' → (convert 96 9 (.slice (some ⟨w.heap.size, 0, none⟩) 3 3)).run Tryz.prog w' = .ok (.string (str [48, 120, 49])) w' := fun w' hw' =>
      run_convert_bytes_back (P := Tryz.prog) w' 96 9 5 ⟨w.heap.size, 0, none⟩ 3 [48, 120, 49] Tryz.underlying96 Tryz.underlying5 Tryz.underlying9 (fun j hj => by
        have hj3 : j < 3 := hj
        rw [Lib.add_plain, Nat.zero_add, hw'.cell (p := ⟨w.heap.size, j, none⟩) hs0]
        refine C0 j _ ?_
        match j, hj3 with
        | 0, _ => rfl
        | 1, _ => rfl
        | 2, _ => rfl)
    obtain ⟨done, hdone⟩ : ∃ d : B, d = [48, 120, 49] := ⟨_, rfl⟩
    rw [← hdone] at hcl
    have hdl : done.length = 3 := by rw [hdone]; rfl
    have HD : Hid (done = [48, 120, 49]) := hdone
    clear hdone
    obtain ⟨T1, c1, t1, H1⟩ := catE (str done) (ByteArray.mk #[112])
    obtain ⟨T2, c2', t2, H2⟩ := catE T1 (str ET)
    have Q : Hid (T2 = str RES) := str_eq (by rw [H2.out, H1.out, str_list, str_list, HR2.out, HD.out]; simp)
    have z1 : (ByteArray.mk #[112]).size = 1 := rfl
    rw [z1] at t1
    have sdn : (str done).size = 3 := by rw [str_size]; exact hdl
    have k1 := hcl _ (Below.refl _ w0)
    have k2 := hcl w0.drew (below_drewN (Below.refl _ w0) 1)
    have TD : PowTb w0.drew := powTb_later T0 (below_drewN (Below.refl _ w0) 1)
    have wr9 : (x : Int) = 0 := by omega
    rw [wr9] at wr2
    clear H1 H2 HR2 HD HR C0 hdl wr9 HB q0
    go_wp2_with fail
    refine wp_loop_rounds 1 ?_
    rw [rounds_succ]
    have q1 : (9223372036854775807 < 3 + 1 + ET.length) = False := eq_false (by omega)
    have q2 : (3 + 1 + ET.length > 9223372036854775807) = False := eq_false (by omega)
    have q3 : (9223372036854775807 < 4 + ET.length) = False := eq_false (by omega)
    have q4 : (4 + ET.length > 9223372036854775807) = False := eq_false (by omega)
    go_wp2_with fail
    go_region_held3 (fun w' => (convert 96 9 (.slice (some ⟨w.heap.size, 0, none⟩) 3 3)).run Tryz.prog w' = .ok (.string (str done)) w') (first | exact k1 | exact k2 | exact k3 | exact hcl _ (below_drewN hBA _)) (first | (go_at_call 203; refine (hX _ (by first | exact T0 | exact TD)).mono ?_; rintro e wA ⟨rfl, hbA⟩; have hBA : Below w0.heap.size w0 wA := (by first | exact hbA | exact (below_drewN (Below.refl _ w0) _).trans (hbA.mono (Nat.le_refl _))); have k3 := hcl wA hBA))
    go_wp2
    go_ret
    exact ⟨by rw [Q.out]; rfl, B0.trans (hBA.mono B0.size)⟩
  · have d1 : ((x : Int) != 0) = true := by simp; omega
    go_wp2_with (at_builtin; refine wpList_append_grows _ rfl _ _ 96 rfl 5 i_u8 (.int .u8 0) 1 1 Tryz.underlying96 hi_u8 hz0_u8 hz1_u8 hz2_u8 rfl (by decide) (some ⟨w.heap.size, 0, none⟩) 3 3 [.int .u8 48, .int .u8 120, .int .u8 49] rfl (fun h => by cases h) rfl (fun b hb j u hj => by cases hb; rw [Lib.add_plain, Nat.zero_add]; exact ((Below.refl _ w0).alloc (Nat.le_refl _) _).cell (p := ⟨w.heap.size, j, none⟩) hs0 |>.trans (C0 j u hj)) ⟨w0.heap.size, 0, none⟩ 1 1 [.int .u8 46] rfl rfl one_new one_cell (by omega) (by unfold maxLen; omega) (by omega) ?_)
    intro v' w5 hown' hgrow
    have B5 : Below w.heap.size w w5 := (B0.alloc B0.size _).grown hgrow (by simp; omega) (fun k hk => by cases hk)
    have O5 : Own .u8 w5 w.heap.size 5 v' (intb [48, 120, 49, 46]) := Own.wider (k := .u8) (xs := [48, 120, 49, 46]) hown' (by omega)
    have HX : Hid (x < 18446744073709551616 ∧ x * 16 ^ 16 % 18446744073709551616 = 0) := ⟨HB.out, hx_full x⟩
    have HR2 : Hid (RES = ([48, 120, 49, 46] ++ hxL 16 x) ++ (112 :: ET)) := by have := HR.out; show _ = _; rw [if_pos q0] at this; simpa using this
    clear hown' hgrow C0 hkc' HB HR B0 T0
    go_wp2
    go_loopg [8, 9] 16 (fun k s8 s9 wr => ∃ (q : Nat) (done : B), s9 = .int .u64 (q : Int) ∧ done.length + k ≤ 20 ∧ Own .u8 wr w.heap.size 5 s8 (intb done) ∧ Hid ((q < 18446744073709551616 ∧ q * 16 ^ k % 18446744073709551616 = 0) ∧ done ++ hxL k q = [48, 120, 49, 46] ++ hxL 16 x) ∧ Below w.heap.size w wr)
    case atStart => exact ⟨x, [48, 120, 49, 46], rfl, by simp, O5, ⟨HX.out, rfl⟩, B5⟩
    case round =>
      obtain ⟨q, done, rfl, hk, hov, HQ, hbl⟩ := hrel
      clear O5 B5 HX
      by_cases qz : q = 0
      · subst qz
        have HD : Hid (done = [48, 120, 49, 46] ++ hxL 16 x) := by have := HQ.out.2; rw [hx_zero, List.append_nil] at this; exact this
        obtain ⟨a2, n2, c2, rfl, hcv⟩ := conv9b hov
        have hcl : ∀ w', Below wr.heap.size wr w' → (convert 96 9 (.slice a2 n2 c2)).run Tryz.prog w' = .ok (.string (str done)) w' := fun w' hw' => by
          obtain ⟨a3, n3, c3, e3, h3⟩ := conv9b (hov.later hw')
          cases e3
          exact h3
        obtain ⟨T1, c1, t1, H1⟩ := catE (str done) (ByteArray.mk #[112])
        obtain ⟨T2, c2', t2, H2⟩ := catE T1 (str ET)
        have Q : Hid (T2 = str RES) := str_eq (by rw [H2.out, H1.out, str_list, str_list, HR2.out, HD.out]; simp)
        have z1 : (ByteArray.mk #[112]).size = 1 := rfl
        rw [z1] at t1
        have sdn : (str done).size = done.length := str_size _
        have q1 : (9223372036854775807 < done.length + 1) = False := eq_false (by omega)
        have q2 : (done.length + 1 > 9223372036854775807) = False := eq_false (by omega)
        have q3 : (9223372036854775807 < done.length + 1 + ET.length) = False := eq_false (by omega)
        have q4 : (done.length + 1 + ET.length > 9223372036854775807) = False := eq_false (by omega)
        have k1 := hcl _ (Below.refl _ wr)
        have k2 := hcl wr.drew (below_drewN (Below.refl _ wr) 1)
        have TT := powTb_later hT hbl
        have TD : PowTb wr.drew := powTb_later TT (below_drewN (Below.refl _ wr) 1)
        clear H1 H2 HR2 HD hov hcv HQ
        go_wp2_with fail
        go_region_held3 (fun w' => (convert 96 9 (.slice a2 n2 c2)).run Tryz.prog w' = .ok (.string (str done)) w') (first | exact k1 | exact k2 | exact k3 | exact hcl _ (below_drewN hBA _)) (first | (go_at_call 203; refine (hX _ (by first | exact TT | exact TD)).mono ?_; rintro e wA ⟨rfl, hbA⟩; have hBA : Below wr.heap.size wr wA := (by first | exact hbA | exact (below_drewN (Below.refl _ wr) _).trans (hbA.mono (Nat.le_refl _))); have k3 := hcl wA hBA))
        go_wp2
        go_ret
        exact ⟨by rw [Q.out]; rfl, hbl.trans (hBA.mono hbl.size)⟩
      · have d2 : ((q : Int) != 0) = true := by simp; omega
        have hq := HQ.out.1
        cases gk with
        | zero =>
          have := hq.2
          rw [Nat.pow_zero, Nat.mul_one, Nat.mod_eq_of_lt hq.1] at this
          exact absurd this qz
        | succ k =>
          obtain ⟨n, hn⟩ : ∃ n, n = q / 1152921504606846976 := ⟨_, rfl⟩
          have hn16 : n < 16 := by omega
          have ei : (q : Int) / 1152921504606846976 = (n : Int) := by omega
          obtain ⟨q', hq'⟩ : ∃ q', q' = q * 16 % 18446744073709551616 := ⟨_, rfl⟩
          have wr5 : IntKind.u64.wrap ((q : Int) * 16) = (q' : Int) := by rw [IntKind.wrap_u64]; omega
          have hI : (n : Int) < 16 := by omega
          have hx16 : ∀ h, (ByteArray.mk #[48, 49, 50, 51, 52, 53, 54, 55, 56, 57, 97, 98, 99, 100, 101, 102])[n]'h = hxD n := fun _ => hex_tab ⟨n, hn16⟩
          have HQ2 : Hid ((q' < 18446744073709551616 ∧ q' * 16 ^ k % 18446744073709551616 = 0) ∧ (done ++ [hxD n]) ++ hxL k q' = [48, 120, 49, 46] ++ hxL 16 x) := by
            refine ⟨⟨by omega, ?_⟩, ?_⟩
            · rw [hq', Nat.mod_mul_mod, Nat.mul_assoc, show 16 * 16 ^ k = 16 ^ (k + 1) by rw [Nat.pow_succ]; exact Nat.mul_comm _ _]
              exact hq.2
            · have := HQ.out.2
              rw [hx_step qz, ← hn, ← hq'] at this
              rw [← this]
              simp
          have HJ : Hid (intb (done ++ [hxD n]) = intb done ++ [((hxD n).toNat : Int)]) := by show _ = _; unfold intb; rw [List.map_append]; rfl
          have hlen : (intb done).length = done.length := intb_len done
          have hsz : w.heap.size ≤ wr.heap.size := hbl.size
          have HLn : Hid (done.length + 1 + k ≤ 20) := (show done.length + 1 + k ≤ 20 by omega)
          clear hn hq' HQ hq qz
          generalize hxD n = D at *
          generalize intb done = us at *
          go_wp2_with (at_builtin; refine wpList_append_own _ rfl _ _ 96 rfl w.heap.size 5 i_u8 (.int .u8 0) 1 1 Tryz.underlying96 hi_u8 hz0_u8 hz1_u8 hz2_u8 rfl (by decide) _ _ _ rfl (hov.row.alloc _) ⟨wr.heap.size, 0, none⟩ 1 1 [.int .u8 D.toNat] rfl rfl one_new one_cell (by unfold maxLen; omega) (by omega) (by simp; omega) ?_)
          intro v' w5 hown' hgrow _
          have hb' := grow_below hsz hov.row hbl hgrow
          have ho' := own_next hown' hlen.symm
          rw [← HJ.out] at ho'
          clear hown' hgrow hov hbl HJ
          go_wp2
          go_roundg k
          case measure => omega
          case rel => exact ⟨q', done ++ [D], rfl, by rw [List.length_append]; have := HLn.out; simpa using this, ho', HQ2.out, hb'⟩
end Go.Proofs.YtjnmgjcmagnkeabGreatDoor

/- Layer 14: ftoa: Text, Hex. -/
namespace Go.Proofs.YtjnmgjcmagnkeabGreatDoor
open Go.ChangeShapes Go.WideShapes Go.ChangeAt Go.RowKit
open Na Ar Ry Ft Lx Go.Shelf
set_option linter.unusedVariables false
namespace Ft
/-- the texts of 0, as they lie -/
structure ZeroVar (w : World) : Prop where
  c1 : w.cell? ⟨0, 1, none⟩ = some (.string ⟨#[48]⟩)
  c2 : w.cell? ⟨0, 2, none⟩ = some (.string ⟨#[48, 120, 48, 112, 43, 48]⟩)
  c3 : w.cell? ⟨0, 3, none⟩ = some (.string ⟨#[48, 101, 43, 48, 48]⟩)
theorem cell_lt {w : World} {p : Addr} {v : Value} (h : w.cell? p = some v) : p.block < w.heap.size := by
  rcases Nat.lt_or_ge p.block w.heap.size with q | q
  · exact q
  · simp [World.cell?, Array.getElem?_eq_none q] at h
theorem ZeroVar.later {w w' : World} (h : ZeroVar w) (hb : Below w.heap.size w w') : ZeroVar w' :=
  ⟨(hb.cell (cell_lt h.c1)).trans h.c1, (hb.cell (cell_lt h.c2)).trans h.c2, (hb.cell (cell_lt h.c3)).trans h.c3⟩
def zeroT (mode : Int) : B := if mode = 1 then [48] else if mode = 2 then [48, 120, 48, 112, 43, 48] else [48, 101, 43, 48, 48]
/-- a size's text -/
def sizeT (p mode : Int) : B := if p = 0 then zeroT mode else if mode = 1 then shT (dgS p) (ptS p) else if mode = 2 then hxS p else sciT (dgS p) (ptS p)
def textT (b mode : Int) : B := sgT (decide (9223372036854775808 ≤ b)) ++ sizeT (mg b) mode
theorem ex_len {e : Int} (h0 : -100000 ≤ e) (h1 : e ≤ 100000) {m : Nat} (hm : m ≤ 10) : (exT e m).length ≤ 31 := by
  unfold exT
  have := dd_len (n := e.natAbs) (by omega)
  rw [List.length_cons, List.length_append, List.length_replicate]; omega
theorem sci_len {d : B} {k : Int} (h0 : -10000 ≤ k) (h1 : k ≤ 10000) : (sciT d k).length ≤ d.length + 40 := by
  have := ex_len (e := k - 1) (m := 2) (by omega) (by omega) (by omega)
  unfold sciT
  rw [List.length_append, List.length_append, List.length_cons, List.length_take]
  split
  · rw [List.length_cons, List.length_drop]; omega
  · simp; omega
theorem pl_len {d : B} {k : Int} (h0 : -10000 ≤ k) (h1 : k ≤ 10000) : (plT d k).length ≤ d.length + 10002 := by
  unfold plT
  split
  · rw [List.length_cons, List.length_cons, List.length_append, List.length_replicate]; omega
  · split
    · rw [List.length_append, List.length_cons, List.length_take, List.length_drop]; omega
    · rw [List.length_append, List.length_replicate]; omega
theorem hxT_len {x : Nat} (hx : x < 18446744073709551616) {e : Int} (h0 : -100000 ≤ e) (h1 : e ≤ 100000) : (hxT x e).length ≤ 60 := by
  have := ex_len (e := e) (m := 1) (by omega) (by omega) (by omega)
  have := hx_len (g := 16) hx (hx_full x)
  unfold hxT
  rw [List.length_append, List.length_append, List.length_cons]
  split
  · rw [List.length_cons]; simp; omega
  · simp; omega
/-- a finite size: its parts -/
theorem size_parts {p : Int} (h0 : 0 < p) (h1 : p ≤ mostP) : 0 < spM p ∧ spM p < 9007199254740992 ∧ -1074 ≤ spX p ∧ spX p ≤ 971 := by
  obtain ⟨s1, s2, s3⟩ := size_fin (Int.le_of_lt h0) h1
  obtain ⟨q, e1, e2, e3, e4, -, -, -⟩ := num_parts s1 s2
  have : spM p ≠ 0 := fun q => by have := (num_zero s1 s2).mp q; omega
  omega
theorem hxS_len {p : Int} (h0 : 0 < p) (h1 : p ≤ mostP) : (hxS p).length ≤ 60 := by
  obtain ⟨a1, a2, a3, a4⟩ := size_parts h0 h1
  have A := ab_of (m := (spM p).toNat) (by omega) (by omega)
  have b0 := A.a0
  have b1 := A.a1
  exact hxT_len A.lt (by omega) (by omega)
theorem size_len {p m : Int} (h0 : 0 ≤ p) (h1 : p ≤ mostP) (hm : m = 1 ∨ m = 2 ∨ m = 3) : (sizeT p m).length ≤ 20000 := by
  by_cases q : p = 0
  · have e : sizeT p m = zeroT m := if_pos q
    rw [e]; unfold zeroT; split; simp; split <;> simp
  · have d := ds_of (p := p) (by omega) h1
    have l1 := d.len
    have k0 := d.k0
    have k1 := d.k1
    have g1 := sci_len (d := dgS p) (k := ptS p) (by omega) (by omega)
    have g2 := pl_len (d := dgS p) (k := ptS p) (by omega) (by omega)
    have g3 := hxS_len (p := p) (by omega) h1
    unfold sizeT
    rw [if_neg q]
    rcases hm with rfl | rfl | rfl
    · rw [if_pos rfl]; unfold shT; split <;> omega
    · rw [if_neg (by omega), if_pos rfl]; omega
    · rw [if_neg (by omega), if_neg (by omega)]; omega
theorem text_len {b m : Int} (hu : U b) (hf : ef b ≠ 2047) (hm : m = 1 ∨ m = 2 ∨ m = 3) : (textT b m).length ≤ 20001 := by
  have a1 := mg_bd b
  have a2 := ef_bd b
  have a3 := fr_bd b
  have a4 := mg_parts b
  have := size_len (p := mg b) (m := m) (by omega) (by unfold mostP; omega) hm
  unfold textT sgT
  rw [List.length_append]
  split <;> simp <;> omega
theorem fnEqN (w : World) (f : Fn) (a b : Array Value) : (binOp .eql 99 (.func f a b) .nilFunc).run Tryz.prog w = .ok (.bool false) w := by
  simp only [binOp, Op.equal, Sem.run_bind, Sem.run_pure]
  kernel_rfl
end Ft
theorem way1 (w : World) : Calls Tryz.prog 67 #[.int .i64 1] w fun r w' => r = .returned (.func (.func 129) #[] #[]) ∧ w' = w := by
  go_enter Tryz.func67, Tryz.ntmps67
  go_wp2
  go_ret
  exact ⟨rfl, rfl⟩
theorem way2 (w : World) : Calls Tryz.prog 67 #[.int .i64 2] w fun r w' => r = .returned (.func (.func 130) #[] #[]) ∧ w' = w := by
  go_enter Tryz.func67, Tryz.ntmps67
  go_wp2
  go_ret
  exact ⟨rfl, rfl⟩
theorem way3 (w : World) : Calls Tryz.prog 67 #[.int .i64 3] w fun r w' => r = .returned (.func (.func 131) #[] #[]) ∧ w' = w := by
  go_enter Tryz.func67, Tryz.ntmps67
  go_wp2
  go_ret
  exact ⟨rfl, rfl⟩
set_option maxHeartbeats 1600000 in
set_option maxRecDepth 100000 in
/-- behind the way: whatever it says -/
theorem text14_way {b m : Int} (hu : U b) (hf : ef b ≠ 2047) (f : Nat) (hm0 : 1 ≤ m) (hm1 : m ≤ 3) (w : World) (hz : ZeroVar w) (hen : ∀ args w, (callFunc f args).run Tryz.prog w = .ok (.enter f args) w) (S : B) (hS' : S.length ≤ 100000)
    (hW : ∀ w, Calls Tryz.prog 67 #[.int .i64 m] w fun r w' => r = .returned (.func (.func f) #[] #[]) ∧ w' = w)
    (hF : mg b ≠ 0 → Calls Tryz.prog f #[.int .u64 b] w fun r w' => r = .returned (.string (str S)) ∧ Below w.heap.size w w') (h0 : mg b = 0 → S = zeroT m) :
    Calls Tryz.prog 18 #[.int .u64 b, .int .i64 m] w fun r w' => r = .returned (.tuple #[.string (str (sgT (decide (9223372036854775808 ≤ b)) ++ S)), .int .i64 0]) ∧ Below w.heap.size w w' := by
  have hS := fun w => f6Split_any hu w
  have e1 : fiE b = 0 := if_neg hf
  have e2 : spS b = decide (9223372036854775808 ≤ b) := if_neg hf
  have hz0 := num_zero hu hf
  rw [e1, e2] at hS
  clear e1 e2
  have f1 := fnEqN
  obtain ⟨C, hC, hcl⟩ : ∃ C : ByteArray, C = str (zeroT m) ∧ w.cell? ⟨0, m.toNat, none⟩ = some (.string C) := by
    have : m = 1 ∨ m = 2 ∨ m = 3 := by omega
    rcases this with rfl | rfl | rfl
    · exact ⟨_, rfl, hz.c1⟩
    · exact ⟨_, rfl, hz.c2⟩
    · exact ⟨_, rfl, hz.c3⟩
  obtain ⟨k, rfl⟩ : ∃ k : Nat, m = (k : Int) := ⟨m.toNat, by omega⟩
  rw [Int.toNat_natCast] at hcl
  have HC : Hid (C = str (zeroT (k : Int))) := hC
  have hk : k < 4 := by omega
  obtain ⟨T, cT, tT, HT⟩ := catE (ByteArray.mk #[45]) (str S)
  have z1 : (ByteArray.mk #[45]).size = 1 := rfl
  have sS : (str S).size = S.length := str_size S
  rw [z1] at tT
  clear hC hz
  by_cases q : mg b = 0
  · have eC : C = str S := by rw [h0 q]; exact HC.out
    have m0 : spM b = 0 := hz0.mpr q
    rw [m0] at hS
    rw [eC] at hcl
    clear eC HC h0 hF m0 hz0
    by_cases qs : 9223372036854775808 ≤ b
    · have HR : Hid (str (sgT (decide (9223372036854775808 ≤ b)) ++ S) = T) := by rw [decide_eq_true qs]; exact (str_eq (by rw [HT.out, str_list]; rfl)).symm
      rw [decide_eq_true qs] at hS
      clear HT
      go_enter Tryz.func18, Tryz.ntmps18
      go_wp2_with fail
      refine (hW _).mono ?_
      rintro e w1 ⟨rfl, hw⟩
      rw [hw]
      clear hW hw
      go_wp2_with fail
      refine (hS _).mono ?_
      rintro e w1 ⟨rfl, hw⟩
      rw [← hw]
      clear hS hw
      go_wp2
      go_ret2
      exact ⟨by rw [HR.out]; rfl, Below.refl _ _⟩
    · have HR : Hid (str (sgT (decide (9223372036854775808 ≤ b)) ++ S) = str S) := by rw [decide_eq_false qs]; rfl
      rw [decide_eq_false qs] at hS
      clear HT
      go_enter Tryz.func18, Tryz.ntmps18
      go_wp2_with fail
      refine (hW _).mono ?_
      rintro e w1 ⟨rfl, hw⟩
      rw [hw]
      clear hW hw
      go_wp2_with fail
      refine (hS _).mono ?_
      rintro e w1 ⟨rfl, hw⟩
      rw [← hw]
      clear hS hw
      go_wp2
      go_ret2
      exact ⟨by rw [HR.out]; rfl, Below.refl _ _⟩
  · have hF := hF q
    have m0 : spM b ≠ 0 := fun h => q (hz0.mp h)
    have d0 : (spM b != 0) = true := bne_yes m0
    clear HC h0 hz0 m0 q
    generalize spM b = M at *
    by_cases qs : 9223372036854775808 ≤ b
    · have HR : Hid (str (sgT (decide (9223372036854775808 ≤ b)) ++ S) = T) := by rw [decide_eq_true qs]; exact (str_eq (by rw [HT.out, str_list]; rfl)).symm
      rw [decide_eq_true qs] at hS
      clear HT
      go_enter Tryz.func18, Tryz.ntmps18
      go_wp2_with fail
      refine (hW _).mono ?_
      rintro e w1 ⟨rfl, hw⟩
      rw [hw]
      clear hW hw
      go_wp2_with fail
      refine (hS _).mono ?_
      rintro e w1 ⟨rfl, hw⟩
      rw [← hw]
      clear hS hw
      go_wp2_with fail
      refine hF.mono ?_
      rintro e w1 ⟨rfl, hb1⟩
      clear hF
      go_wp2
      go_ret2
      exact ⟨by rw [HR.out]; rfl, hb1⟩
    · have HR : Hid (str (sgT (decide (9223372036854775808 ≤ b)) ++ S) = str S) := by rw [decide_eq_false qs]; rfl
      rw [decide_eq_false qs] at hS
      clear HT
      go_enter Tryz.func18, Tryz.ntmps18
      go_wp2_with fail
      refine (hW _).mono ?_
      rintro e w1 ⟨rfl, hw⟩
      rw [hw]
      clear hW hw
      go_wp2_with fail
      refine (hS _).mono ?_
      rintro e w1 ⟨rfl, hw⟩
      rw [← hw]
      clear hS hw
      go_wp2_with fail
      refine hF.mono ?_
      rintro e w1 ⟨rfl, hb1⟩
      clear hF
      go_wp2
      go_ret2
      exact ⟨by rw [HR.out]; rfl, hb1⟩
theorem text14_fin {b m : Int} (hu : U b) (hf : ef b ≠ 2047) (hm : m = 1 ∨ m = 2 ∨ m = 3) {w : World} (hz : ZeroVar w) (hT : PowTb w) :
    Calls Tryz.prog 18 #[.int .u64 b, .int .i64 m] w fun r w' => r = .returned (.tuple #[.string (str (textT b m)), .int .i64 0]) ∧ Below w.heap.size w w' := by
  have hp : mg b ≠ 0 → 0 < mg b ∧ mg b ≤ mostP := fun h => by
    have := mg_bd b
    have := ef_bd b
    have := fr_bd b
    have := mg_parts b
    unfold mostP
    omega
  have hsz : ∀ m, (m = 1 ∨ m = 2 ∨ m = 3) → (sizeT (mg b) m).length ≤ 100000 := fun m hm => by
    have a1 := mg_bd b
    have a2 := ef_bd b
    have a3 := fr_bd b
    have a4 := mg_parts b
    have := size_len (p := mg b) (m := m) (by omega) (by unfold mostP; omega) hm
    omega
  rcases hm with rfl | rfl | rfl
  · refine text14_way hu hf 129 (by omega) (by omega) w hz (enters_of Tryz.func129 (by kernel_rfl) rfl) (sizeT (mg b) 1) ?_ way1 (fun q => ?_) (fun q => if_pos q)
    · exact hsz 1 (Or.inl rfl)
    · have e : sizeT (mg b) 1 = shT (dgS (mg b)) (ptS (mg b)) := by unfold sizeT; rw [if_neg q, if_pos rfl]
      rw [e]
      have h := hp q
      have s := sh_is h.1 h.2
      exact shortest14_any hu hf q (ds_of h.1 h.2) s.r0 s.r1 w hT
  · refine text14_way hu hf 130 (by omega) (by omega) w hz (enters_of Tryz.func130 (by kernel_rfl) rfl) (sizeT (mg b) 2) ?_ way2 (fun q => ?_) (fun q => if_pos q)
    · exact hsz 2 (Or.inr (Or.inl rfl))
    · have e : sizeT (mg b) 2 = hxS (mg b) := by unfold sizeT; rw [if_neg q, if_neg (by omega), if_pos rfl]
      rw [e]
      exact hex14_any hu hf q w hT
  · refine text14_way hu hf 131 (by omega) (by omega) w hz (enters_of Tryz.func131 (by kernel_rfl) rfl) (sizeT (mg b) 3) ?_ way3 (fun q => ?_) (fun q => if_pos q)
    · exact hsz 3 (Or.inr (Or.inr rfl))
    · have e : sizeT (mg b) 3 = sciT (dgS (mg b)) (ptS (mg b)) := by unfold sizeT; rw [if_neg q, if_neg (by omega), if_neg (by omega)]
      rw [e]
      have h := hp q
      have s := sh_is h.1 h.2
      exact science14_any hu hf q (ds_of h.1 h.2) s.r0 s.r1 w hT
end Go.Proofs.YtjnmgjcmagnkeabGreatDoor

/- Layer 14: one text, one pattern; what the statements ask first. -/
namespace Go.Proofs.YtjnmgjcmagnkeabGreatDoor
open Go.ChangeShapes Go.WideShapes Go.ChangeAt Go.RowKit
open Na Ar Ry Ft Lx Go.Shelf
set_option linter.unusedVariables false
namespace Ft
theorem off_52 {b : Int} (h : U b) : ef (bits .andNot .u64 b 4503599627370496) ≠ 2047 := by
  have hu := U_bits_andNot h (show U 4503599627370496 by unfold U; omega)
  rw [andNot_and h (by unfold U; omega)] at *
  unfold U at h
  rw [u64_and b _ h.1 h.2 (by omega) (by omega)] at *
  have e : (18446744073709551615 - 4503599627370496 : Int).toNat = 18442240474082181119 := by decide
  rw [e]
  have t : (b.toNat &&& 18442240474082181119).testBit 52 = false := by
    rw [Nat.testBit_and, show (18442240474082181119 : Nat).testBit 52 = false by decide, Bool.and_false]
  rw [Nat.testBit_eq_decide_div_mod_eq] at t
  have t2 : ¬ ((b.toNat &&& 18442240474082181119) / 2 ^ 52 % 2 = 1) := by simpa using t
  have e2 : (2 : Nat) ^ 52 = 4503599627370496 := by decide
  rw [e2] at t2
  unfold ef
  omega
def finW (b : Int) : Int := if ef b = 2047 then bits .andNot .u64 b 4503599627370496 else b
theorem finW_ok {b : Int} (h : U b) : U (finW b) ∧ ef (finW b) ≠ 2047 := by
  unfold finW
  split
  · exact ⟨U_bits_andNot h (by unfold U; omega), off_52 h⟩
  · exact ⟨h, by assumption⟩
/-- the digits and the exponent of ten, without zeros at the end -/
def rstr (l : B) : B := (l.reverse.dropWhile (fun c => c == 48)).reverse
theorem rstr_zeros {l : B} (n : Nat) (h : ∃ q c, l = q ++ [c] ∧ c ≠ 48) : rstr (l ++ List.replicate n 48) = l := by
  obtain ⟨q, c, rfl, hc⟩ := h
  unfold rstr
  rw [List.reverse_append, List.reverse_replicate, List.reverse_append]
  have key : ∀ m : Nat, (List.replicate m (48 : UInt8) ++ ([c].reverse ++ q.reverse)).dropWhile (fun c => c == 48) = [c].reverse ++ q.reverse := by
    intro m
    induction m with
    | zero => rw [List.replicate_zero, List.nil_append]; exact List.dropWhile_cons_of_neg (by simpa using hc)
    | succ m ih => rw [List.replicate_succ, List.cons_append, List.dropWhile_cons_of_pos (by decide)]; exact ih
  rw [key, List.reverse_append, List.reverse_reverse]
  rfl
theorem rstr_self {l : B} (h : ∃ q c, l = q ++ [c] ∧ c ≠ 48) : rstr l = l := by
  have := rstr_zeros 0 h
  simpa using this
/-- digits of a number that does not end in 0 -/
theorem dgS_last {p : Int} (h0 : 0 < p) (h1 : p ≤ mostP) : ∃ q c, dgS p = q ++ [c] ∧ c ≠ 48 := by
  have s := sh_is h0 h1
  have := s.r0
  have ne := s.ne
  obtain ⟨l, e⟩ := dd_last (shD p).toNat
  refine ⟨l, _, e, fun q => ?_⟩
  have := (digB (d := (shD p).toNat % 10) (by omega)).2
  rw [q] at this
  have e48 : (48 : UInt8).toNat = 48 := rfl
  omega
/-- what a size's text is read as -/
structure RdS (p m : Int) (ng : Bool) (N : Nm) : Prop where
  rd : RdT (sgT ng ++ sizeT p m) N
  sg : N.neg = ng
  dec : 0 < p → m ≠ 2 → N.kind = 1 ∧ N.den = [] ∧ rstr N.num = dgS p ∧ N.exp + (N.num.length - (dgS p).length : Nat) = shE p ∧ (N.num = dgS p ∨ N.num = dgS p ++ List.replicate (shE p).toNat 48 ∧ N.exp = 0 ∧ 0 ≤ shE p ∧ shE p ≤ 21)
  hex : 0 < p → m = 2 → N = ⟨2, ng, 49 :: hxL 16 (bhB (spM p).toNat), spX p + 63 - ahB (spM p).toNat - 4 * ((hxL 16 (bhB (spM p).toNat)).length : Int), []⟩
  zero : p = 0 → N = ⟨if m = 2 then 2 else 1, ng, [], 0, []⟩
theorem size_reads {p m : Int} (h0 : 0 ≤ p) (h1 : p ≤ mostP) (hm : m = 1 ∨ m = 2 ∨ m = 3) (ng : Bool) : ∃ N, RdS p m ng N := by
  by_cases q : p = 0
  · have e : sizeT p m = zeroT m := if_pos q
    rcases hm with rfl | rfl | rfl
    · exact ⟨_, by rw [e]; exact zero_reads ng, rfl, fun h => by omega, fun h => by omega, fun _ => rfl⟩
    · exact ⟨_, by rw [e]; exact zeroX_reads ng, rfl, fun h => by omega, fun h => by omega, fun _ => rfl⟩
    · exact ⟨_, by rw [e]; exact zeroE_reads ng, rfl, fun h => by omega, fun h => by omega, fun _ => rfl⟩
  · have hp : 0 < p := by omega
    have d := ds_of hp h1
    have l1 := d.len
    have k0 := d.k0
    have k1 := d.k1
    have hl := dgS_last hp h1
    have ek : ptS p - (dgS p).length = shE p := by unfold ptS; omega
    have sci : ∃ N, RdT (sgT ng ++ sciT (dgS p) (ptS p)) N ∧ N = ⟨1, ng, dgS p, shE p, []⟩ := ⟨_, sci_reads d.dg ng (by omega) (by omega) (by omega), by rw [ek]⟩
    have mk : ∀ N : Nm, N = ⟨1, ng, dgS p, shE p, []⟩ → N.kind = 1 ∧ N.den = [] ∧ rstr N.num = dgS p ∧ N.exp + (N.num.length - (dgS p).length : Nat) = shE p ∧ (N.num = dgS p ∨ N.num = dgS p ++ List.replicate (shE p).toNat 48 ∧ N.exp = 0 ∧ 0 ≤ shE p ∧ shE p ≤ 21) := by
      rintro N rfl
      exact ⟨rfl, rfl, rstr_self hl, by simp, Or.inl rfl⟩
    rcases hm with rfl | rfl | rfl
    · have e : sizeT p 1 = shT (dgS p) (ptS p) := by unfold sizeT; rw [if_neg q, if_pos rfl]
      by_cases r : ptS p < -5 ∨ 21 < ptS p
      · obtain ⟨N, hN, eN⟩ := sci
        have e2 : shT (dgS p) (ptS p) = sciT (dgS p) (ptS p) := if_pos r
        exact ⟨N, by rw [e, e2]; exact hN, by rw [eN], fun _ _ => mk N eN, fun _ h => by omega, fun h => absurd h q⟩
      · have e2 : shT (dgS p) (ptS p) = plT (dgS p) (ptS p) := if_neg r
        by_cases r2 : ptS p < (dgS p).length
        · have := pl_reads d.dg ng (k := ptS p) (by omega) r2 (by omega)
          rw [ek] at this
          exact ⟨_, by rw [e, e2]; exact this, rfl, fun _ _ => mk _ rfl, fun _ h => by omega, fun h => absurd h q⟩
        · have dp := d.pos
          have := whole_reads d.dg ng (k := ptS p) (by omega) (by omega)
          rw [ek] at this
          refine ⟨_, by rw [e, e2]; exact this, rfl, fun _ _ => ⟨rfl, rfl, rstr_zeros _ hl, ?_, Or.inr ⟨rfl, rfl, ?_, ?_⟩⟩, fun _ h => by omega, fun h => absurd h q⟩
          · simp only [List.length_append, List.length_replicate]; omega
          · omega
          · omega
    · have e : sizeT p 2 = hxS p := by unfold sizeT; rw [if_neg q, if_neg (by omega), if_pos rfl]
      obtain ⟨a1, a2, a3, a4⟩ := size_parts hp h1
      have A := ab_of (m := (spM p).toNat) (by omega) (by omega)
      have b0 := A.a0
      have b1 := A.a1
      exact ⟨_, by rw [e]; exact hex_reads (e := spX p + 63 - ahB (spM p).toNat) A.lt ng (by omega) (by omega), rfl, fun _ h => absurd rfl h, fun _ _ => rfl, fun h => absurd h q⟩
    · have e : sizeT p 3 = sciT (dgS p) (ptS p) := by unfold sizeT; rw [if_neg q, if_neg (by omega), if_neg (by omega)]
      obtain ⟨N, hN, eN⟩ := sci
      exact ⟨N, by rw [e]; exact hN, by rw [eN], fun _ _ => mk N eN, fun _ h => by omega, fun h => absurd h q⟩
theorem al_D : shD 4609434218613702656 = 15 := by kernel_rfl
theorem al_E : shE 4609434218613702656 = -1 := by kernel_rfl
theorem al_text : textT 13832806255468478464 1 = [45, 49, 46, 53] := by
  have e1 : mg 13832806255468478464 = 4609434218613702656 := by decide
  have e2 : dgS 4609434218613702656 = [49, 53] := by unfold dgS; rw [al_D]; exact Lib.decDigits_two (i := 15) (by omega) (by omega)
  unfold textT sizeT
  rw [e1, if_neg (by decide), if_pos rfl]
  unfold shT ptS
  rw [e2, al_E]
  decide
end Ft
theorem finite14_any {b : Int} (hu : U b) (w : World) : Calls Tryz.prog 9 #[.int .u64 b] w fun r w' => r = .returned (.int .u64 (finW b)) ∧ w' = w := by
  have h := field_and hu
  unfold finW
  by_cases q : ef b = 2047
  · rw [if_pos q]
    have d : (ef b == 2047) = true := beq_of q
    go_enter Tryz.func9, Tryz.ntmps9
    go_wp2
    go_ret
    exact ⟨rfl, rfl⟩
  · rw [if_neg q]
    have d : (ef b == 2047) = false := beq_no q
    go_enter Tryz.func9, Tryz.ntmps9
    go_wp2
    go_ret
    exact ⟨rfl, rfl⟩
theorem alive14_any {w : World} (hz : ZeroVar w) (hT : PowTb w) : Calls Tryz.prog 12 #[] w fun r w' => r = .returned (.bool true) ∧ Below w.heap.size w w' := by
  have hX := text14_fin (b := 13832806255468478464) (m := 1) (by unfold U; omega) (by decide) (Or.inl rfl) hz hT
  rw [al_text] at hX
  have e : str [45, 49, 46, 53] = ByteArray.mk #[45, 49, 46, 53] := rfl
  rw [e] at hX
  go_enter Tryz.func12, Tryz.ntmps12
  go_wp2_with fail
  refine hX.mono ?_
  rintro e w1 ⟨rfl, hb⟩
  clear hX
  go_wp2
  go_ret
  exact ⟨rfl, hb⟩
end Go.Proofs.YtjnmgjcmagnkeabGreatDoor


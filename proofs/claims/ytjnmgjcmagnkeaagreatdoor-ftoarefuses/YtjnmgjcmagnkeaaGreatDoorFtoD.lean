/- Layer 14: ftoa: the hexadecimal form. -/
import Derived.Test.YtjnmgjcmagnkeaaGreatDoorFtoC
import Derived.Lib.SlBytesConst
import Derived.ArgAppend
namespace Go.Proofs.YtjnmgjcmagnkeaaGreatDoor
open Go.ChangeShapes Go.WideShapes Go.ChangeAt Go.RowKit
open Na Ar Ry Ft Lx Go.Shelf
set_option linter.unusedVariables false
namespace Ft
/-- how many bits lie ahead -/
def ahB (m : Nat) : Nat := 64 - Lib.bitLen m
/-- what lies behind the first bit, as a word -/
def bhB (m : Nat) : Nat := m * 2 ^ ahB m % 18446744073709551616 * 2 % 18446744073709551616
structure AB (m : Nat) : Prop where
  a0 : 11 ≤ ahB m
  a1 : ahB m ≤ 63
  eq : m * 2 ^ ahB m * 2 = 18446744073709551616 + bhB m
  lt : bhB m < 18446744073709551616
  mu : bhB m % 4096 = 0
theorem ab_of {m : Nat} (h0 : 0 < m) (h1 : m < 9007199254740992) : AB m := by
  obtain ⟨l1, l2, l3⟩ := Lib.bitLenAux_bounds 64 m (by omega) (by omega)
  have hb : Lib.bitLen m = Lib.bitLenAux 64 m := rfl
  rw [← hb] at l1 l2 l3
  have l4 : Lib.bitLen m ≤ 53 := by
    rcases Nat.lt_or_ge 53 (Lib.bitLen m) with q | q
    · have : 2 ^ 53 ≤ 2 ^ (Lib.bitLen m - 1) := Nat.pow_le_pow_right (by omega) (by omega)
      have e : 2 ^ 53 = 9007199254740992 := by decide
      omega
    · exact q
  have ha : ahB m = 64 - Lib.bitLen m := rfl
  have ea : Lib.bitLen m = 64 - ahB m := by omega
  rw [ea] at l2 l3
  have a0 : 11 ≤ ahB m := by omega
  have a1 : ahB m ≤ 63 := by omega
  have p : 0 < 2 ^ ahB m := Nat.two_pow_pos _
  have e1 : 2 ^ (64 - ahB m - 1) * 2 ^ ahB m = 9223372036854775808 := by rw [← Nat.pow_add, show 64 - ahB m - 1 + ahB m = 63 by omega]
  have e2 : 2 ^ (64 - ahB m) * 2 ^ ahB m = 18446744073709551616 := by rw [← Nat.pow_add, show 64 - ahB m + ahB m = 64 by omega]
  have g1 : 9223372036854775808 ≤ m * 2 ^ ahB m := by rw [← e1]; exact Nat.mul_le_mul_right _ l2
  have g2 : m * 2 ^ ahB m < 18446744073709551616 := by rw [← e2]; exact Nat.mul_lt_mul_of_pos_right l3 p
  have g3 : m * 2 ^ ahB m * 2 = 18446744073709551616 + bhB m := by unfold bhB; rw [Nat.mod_eq_of_lt g2]; omega
  refine ⟨a0, a1, g3, Nat.mod_lt _ (by omega), ?_⟩
  have e3 : 2 ^ ahB m = 2 ^ (ahB m - 11) * 2048 := by rw [show (2048 : Nat) = 2 ^ 11 by decide, ← Nat.pow_add, show ahB m - 11 + 11 = ahB m by omega]
  have e4 : m * 2 ^ ahB m * 2 = m * 2 ^ (ahB m - 11) * 4096 := by rw [e3, ← Nat.mul_assoc, Nat.mul_assoc _ 2048 2]
  rw [e4] at g3
  omega
/-- the text of a size above 0 -/
theorem hex_tab : ∀ n : Fin 16, (ByteArray.mk #[48, 49, 50, 51, 52, 53, 54, 55, 56, 57, 97, 98, 99, 100, 101, 102])[n.val]'(by have := n.isLt; exact this) = hxD n.val := by decide
def hxS (p : Int) : B := hxT (bhB (spM p).toNat) (spX p + 63 - ahB (spM p).toNat)
end Ft
set_option maxHeartbeats 3200000 in
set_option maxRecDepth 100000 in
theorem hex14_any {b : Int} (hu : U b) (hf : ef b ≠ 2047) (h0 : mg b ≠ 0) (w : World) (hT : PowTb w) :
    Calls Tryz.prog 52 #[.int .u64 b] w fun r w' => r = .returned (.string (str (hxS (mg b)))) ∧ Below w.heap.size w w' := by
  have hS := fun w => f6Split_any hu w
  have hm := sp_mg hu
  have hz : spM b ≠ 0 := fun q => h0 ((num_zero hu hf).mp q)
  obtain ⟨p, hp1, hp2, hp3, hp4, -, -, -⟩ := num_parts hu hf
  have hx : hxS (mg b) = hxT (bhB (spM b).toNat) (spX b + 63 - ahB (spM b).toNat) := by unfold hxS; rw [hm.1, hm.2.1]
  rw [hx]
  obtain ⟨m, em⟩ : ∃ m : Nat, spM b = (m : Int) := ⟨(spM b).toNat, by omega⟩
  have et : (spM b).toNat = m := by omega
  rw [et]
  have hA := ab_of (m := m) (by omega) (by omega)
  have hL := fun w => lead14_any (m := spM b) ⟨by omega, by omega⟩ w
  rw [em] at hS hL
  have e1 : (64 : Int) - (Lib.bitLen (m : Int).toNat : Int) = (ahB m : Int) := by
    have := hA.a0
    have : ahB m = 64 - Lib.bitLen m := rfl
    rw [Int.toNat_natCast]; omega
  rw [e1] at hL
  have hX := fun w h => exponent14_any (e := spX b + 63 - ahB m) (m := 1) (by have := hA.a1; omega) (by omega) (by omega) w h
  have a0 := hA.a0
  have a1 := hA.a1
  have HE : Hid (m * 2 ^ ahB m % 18446744073709551616 * 2 % 18446744073709551616 = bhB m) := rfl
  have HB : Hid (bhB m < 18446744073709551616) := hA.lt
  clear hA e1 em et hx hm
  generalize ahB m = a at *
  generalize bhB m = x at *
  generalize spX b = X at *
  generalize spS b = sb at *
  generalize fiE b = fe at *
  obtain ⟨i_u8, hi_u8, hz0_u8, hz1_u8, hz2_u8⟩ := info_parts info9_u8
  have hkc := Lib.run_convert_bytes_const (P := Tryz.prog) w 45 5 #[.int .u8 48, .int .u8 120, .int .u8 49] 3 3 Tryz.underlying45 Tryz.underlying5
  have T0 : PowTb (w.alloc (.cells #[.int .u8 48, .int .u8 120, .int .u8 49] 5 (3, 4))) := Lib.tabIs_alloc hT _
  have B0 : Below w.heap.size w (w.alloc (.cells #[.int .u8 48, .int .u8 120, .int .u8 49] 5 (3, 4))) := (Below.refl _ w).alloc (Nat.le_refl _) _
  have C0 : ∀ j u, [Value.int .u8 48, Value.int .u8 120, Value.int .u8 49][j]? = some u → (w.alloc (.cells #[.int .u8 48, .int .u8 120, .int .u8 49] 5 (3, 4))).cell? ⟨w.heap.size, j, none⟩ = some u := fun j u hj => by
    rw [World.cell?_alloc_mark, ← hj]
    simp
  obtain ⟨w0, hw0⟩ : ∃ w0, w0 = w.alloc (.cells #[.int .u8 48, .int .u8 120, .int .u8 49] 5 (3, 4)) := ⟨_, rfl⟩
  have hs0 : w.heap.size < w0.heap.size := by rw [hw0]; simp
  rw [← hw0] at T0 B0 C0
  have hkc' : (convert 45 45 (.slice (some ⟨w.heap.size, 0, none⟩) 3 3)).run Tryz.prog (w.alloc (.cells #[.int .u8 48, .int .u8 120, .int .u8 49] 5)) = .ok (.slice (some ⟨w.heap.size, 0, none⟩) 3 3) w0 := by rw [hw0]; exact hkc
  clear hkc hw0
  obtain ⟨y, hy⟩ : ∃ y : Nat, y = m * 2 ^ a % 18446744073709551616 := ⟨_, rfl⟩
  have wr1 : IntKind.u64.wrap ((m : Int) * 2 ^ a) = (y : Int) := by rw [hy, IntKind.wrap_u64, Int.natCast_emod, Int.natCast_mul, Int.natCast_pow]; rfl
  have wr2 : IntKind.u64.wrap ((y : Int) * 2) = (x : Int) := by rw [← HE.out, ← hy, IntKind.wrap_u64]; omega
  clear hy HE
  have hXX : (exT (X + 63 - a) 1).length ≤ 100 := by
    unfold exT
    have := dd_len (n := (X + 63 - (a : Int)).natAbs) (by omega)
    rw [List.length_cons, List.length_append, List.length_replicate]; omega
  have HR : Hid (hxT x (X + 63 - a) = [48, 120, 49] ++ ((if x ≠ 0 then 46 :: hxL 16 x else []) ++ (112 :: exT (X + 63 - a) 1))) := rfl
  generalize hxT x (X + 63 - a) = RES at *
  generalize exT (X + 63 - a) 1 = ET at *
  have sET : (str ET).size = ET.length := str_size ET
  have wr3 : IntKind.i64.wrap (X + 63) = X + 63 := by rw [IntKind.wrap_i64]; omega
  have wr4 : IntKind.i64.wrap (X + 63 - (a : Int)) = X + 63 - (a : Int) := by rw [IntKind.wrap_i64]; omega
  go_enter Tryz.func52, Tryz.ntmps52
  go_wp2_with fail
  refine (hS _).mono ?_
  rintro e w1 ⟨rfl, hw1⟩
  rw [← hw1]
  clear hS hw1
  go_wp2_with fail
  refine (hL _).mono ?_
  rintro e w1 ⟨rfl, hw1⟩
  rw [hw1]
  clear hL hw1
  by_cases q0 : x = 0
  · rw [q0] at HR
    have HR2 : Hid (RES = [48, 120, 49] ++ (112 :: ET)) := by have := HR.out; show _ = _; simpa using this
    have hcl : ∀ w', Below w0.heap.size w0 w' → (convert 45 9 (.slice (some ⟨w.heap.size, 0, none⟩) 3 3)).run Tryz.prog w' = .ok (.string (str [48, 120, 49])) w' := fun w' hw' =>
      run_convert_bytes_back (P := Tryz.prog) w' 45 9 5 ⟨w.heap.size, 0, none⟩ 3 [48, 120, 49] Tryz.underlying45 Tryz.underlying5 Tryz.underlying9 (fun j hj => by
        have hj3 : j < 3 := hj
        rw [Lib.add_plain, Nat.zero_add, hw'.cell (p := ⟨w.heap.size, j, none⟩) hs0]
        refine C0 j _ ?_
        match j, hj3 with
        | 0, _ => rfl
        | 1, _ => rfl
        | 2, _ => rfl)
    obtain ⟨done, hdone⟩ : ∃ d : B, d = [48, 120, 49] := ⟨_, rfl⟩
    rw [← hdone] at hcl
    have hdl : done.length = 3 := by rw [hdone]; rfl
    have HD : Hid (done = [48, 120, 49]) := hdone
    clear hdone
    obtain ⟨T1, c1, t1, H1⟩ := catE (str done) (ByteArray.mk #[112])
    obtain ⟨T2, c2', t2, H2⟩ := catE T1 (str ET)
    have Q : Hid (T2 = str RES) := str_eq (by rw [H2.out, H1.out, str_list, str_list, HR2.out, HD.out]; simp)
    have z1 : (ByteArray.mk #[112]).size = 1 := rfl
    rw [z1] at t1
    have sdn : (str done).size = 3 := by rw [str_size]; exact hdl
    have k1 := hcl _ (Below.refl _ w0)
    have k2 := hcl w0.drew (below_drewN (Below.refl _ w0) 1)
    have TD : PowTb w0.drew := powTb_later T0 (below_drewN (Below.refl _ w0) 1)
    have wr9 : (x : Int) = 0 := by omega
    rw [wr9] at wr2
    clear H1 H2 HR2 HD HR C0 hdl wr9 HB q0
    go_wp2_with fail
    refine wp_loop_rounds 1 ?_
    rw [rounds_succ]
    have q1 : (9223372036854775807 < 3 + 1 + ET.length) = False := eq_false (by omega)
    have q2 : (3 + 1 + ET.length > 9223372036854775807) = False := eq_false (by omega)
    have q3 : (9223372036854775807 < 4 + ET.length) = False := eq_false (by omega)
    have q4 : (4 + ET.length > 9223372036854775807) = False := eq_false (by omega)
    go_wp2_with fail
    go_region_held3 (fun w' => (convert 45 9 (.slice (some ⟨w.heap.size, 0, none⟩) 3 3)).run Tryz.prog w' = .ok (.string (str done)) w') (first | exact k1 | exact k2 | exact k3 | exact hcl _ (below_drewN hBA _)) (first | (go_at_call 89; refine (hX _ (by first | exact T0 | exact TD)).mono ?_; rintro e wA ⟨rfl, hbA⟩; have hBA : Below w0.heap.size w0 wA := (by first | exact hbA | exact (below_drewN (Below.refl _ w0) _).trans (hbA.mono (Nat.le_refl _))); have k3 := hcl wA hBA))
    go_wp2
    go_ret
    exact ⟨by rw [Q.out]; rfl, B0.trans (hBA.mono B0.size)⟩
  · have d1 : ((x : Int) != 0) = true := by simp; omega
    go_wp2_with (at_builtin; refine wpList_append_grows _ rfl _ _ 45 rfl 5 i_u8 (.int .u8 0) 1 1 Tryz.underlying45 hi_u8 hz0_u8 hz1_u8 hz2_u8 rfl (by decide) (some ⟨w.heap.size, 0, none⟩) 3 3 [.int .u8 48, .int .u8 120, .int .u8 49] rfl (fun h => by cases h) rfl (fun b hb j u hj => by cases hb; rw [Lib.add_plain, Nat.zero_add]; exact ((Below.refl _ w0).alloc (Nat.le_refl _) _).cell (p := ⟨w.heap.size, j, none⟩) hs0 |>.trans (C0 j u hj)) ⟨w0.heap.size, 0, none⟩ 1 1 [.int .u8 46] rfl rfl one_new one_cell (by omega) (by unfold maxLen; omega) (by omega) ?_)
    intro v' w5 hown' hgrow
    have B5 : Below w.heap.size w w5 := (B0.alloc B0.size _).grown hgrow (by simp; omega) (fun k hk => by cases hk)
    have O5 : Own .u8 w5 w.heap.size 5 v' (intb [48, 120, 49, 46]) := Own.wider (k := .u8) (xs := [48, 120, 49, 46]) hown' (by omega)
    have HX : Hid (x < 18446744073709551616 ∧ x * 16 ^ 16 % 18446744073709551616 = 0) := ⟨HB.out, hx_full x⟩
    have HR2 : Hid (RES = ([48, 120, 49, 46] ++ hxL 16 x) ++ (112 :: ET)) := by have := HR.out; show _ = _; rw [if_pos q0] at this; simpa using this
    clear hown' hgrow C0 hkc' HB HR B0 T0
    go_wp2
    go_loopg [8, 9] 16 (fun k s8 s9 wr => ∃ (q : Nat) (done : B), s9 = .int .u64 (q : Int) ∧ done.length + k ≤ 20 ∧ Own .u8 wr w.heap.size 5 s8 (intb done) ∧ Hid ((q < 18446744073709551616 ∧ q * 16 ^ k % 18446744073709551616 = 0) ∧ done ++ hxL k q = [48, 120, 49, 46] ++ hxL 16 x) ∧ Below w.heap.size w wr)
    case atStart => exact ⟨x, [48, 120, 49, 46], rfl, by simp, O5, ⟨HX.out, rfl⟩, B5⟩
    case round =>
      obtain ⟨q, done, rfl, hk, hov, HQ, hbl⟩ := hrel
      clear O5 B5 HX
      by_cases qz : q = 0
      · subst qz
        have HD : Hid (done = [48, 120, 49, 46] ++ hxL 16 x) := by have := HQ.out.2; rw [hx_zero, List.append_nil] at this; exact this
        obtain ⟨a2, n2, c2, rfl, hcv⟩ := conv9b hov
        have hcl : ∀ w', Below wr.heap.size wr w' → (convert 45 9 (.slice a2 n2 c2)).run Tryz.prog w' = .ok (.string (str done)) w' := fun w' hw' => by
          obtain ⟨a3, n3, c3, e3, h3⟩ := conv9b (hov.later hw')
          cases e3
          exact h3
        obtain ⟨T1, c1, t1, H1⟩ := catE (str done) (ByteArray.mk #[112])
        obtain ⟨T2, c2', t2, H2⟩ := catE T1 (str ET)
        have Q : Hid (T2 = str RES) := str_eq (by rw [H2.out, H1.out, str_list, str_list, HR2.out, HD.out]; simp)
        have z1 : (ByteArray.mk #[112]).size = 1 := rfl
        rw [z1] at t1
        have sdn : (str done).size = done.length := str_size _
        have q1 : (9223372036854775807 < done.length + 1) = False := eq_false (by omega)
        have q2 : (done.length + 1 > 9223372036854775807) = False := eq_false (by omega)
        have q3 : (9223372036854775807 < done.length + 1 + ET.length) = False := eq_false (by omega)
        have q4 : (done.length + 1 + ET.length > 9223372036854775807) = False := eq_false (by omega)
        have k1 := hcl _ (Below.refl _ wr)
        have k2 := hcl wr.drew (below_drewN (Below.refl _ wr) 1)
        have TT := powTb_later hT hbl
        have TD : PowTb wr.drew := powTb_later TT (below_drewN (Below.refl _ wr) 1)
        clear H1 H2 HR2 HD hov hcv HQ
        go_wp2_with fail
        go_region_held3 (fun w' => (convert 45 9 (.slice a2 n2 c2)).run Tryz.prog w' = .ok (.string (str done)) w') (first | exact k1 | exact k2 | exact k3 | exact hcl _ (below_drewN hBA _)) (first | (go_at_call 89; refine (hX _ (by first | exact TT | exact TD)).mono ?_; rintro e wA ⟨rfl, hbA⟩; have hBA : Below wr.heap.size wr wA := (by first | exact hbA | exact (below_drewN (Below.refl _ wr) _).trans (hbA.mono (Nat.le_refl _))); have k3 := hcl wA hBA))
        go_wp2
        go_ret
        exact ⟨by rw [Q.out]; rfl, hbl.trans (hBA.mono hbl.size)⟩
      · have d2 : ((q : Int) != 0) = true := by simp; omega
        have hq := HQ.out.1
        cases gk with
        | zero =>
          have := hq.2
          rw [Nat.pow_zero, Nat.mul_one, Nat.mod_eq_of_lt hq.1] at this
          exact absurd this qz
        | succ k =>
          obtain ⟨n, hn⟩ : ∃ n, n = q / 1152921504606846976 := ⟨_, rfl⟩
          have hn16 : n < 16 := by omega
          have ei : (q : Int) / 1152921504606846976 = (n : Int) := by omega
          obtain ⟨q', hq'⟩ : ∃ q', q' = q * 16 % 18446744073709551616 := ⟨_, rfl⟩
          have wr5 : IntKind.u64.wrap ((q : Int) * 16) = (q' : Int) := by rw [IntKind.wrap_u64]; omega
          have hI : (n : Int) < 16 := by omega
          have hx16 : ∀ h, (ByteArray.mk #[48, 49, 50, 51, 52, 53, 54, 55, 56, 57, 97, 98, 99, 100, 101, 102])[n]'h = hxD n := fun _ => hex_tab ⟨n, hn16⟩
          have HQ2 : Hid ((q' < 18446744073709551616 ∧ q' * 16 ^ k % 18446744073709551616 = 0) ∧ (done ++ [hxD n]) ++ hxL k q' = [48, 120, 49, 46] ++ hxL 16 x) := by
            refine ⟨⟨by omega, ?_⟩, ?_⟩
            · rw [hq', Nat.mod_mul_mod, Nat.mul_assoc, show 16 * 16 ^ k = 16 ^ (k + 1) by rw [Nat.pow_succ]; exact Nat.mul_comm _ _]
              exact hq.2
            · have := HQ.out.2
              rw [hx_step qz, ← hn, ← hq'] at this
              rw [← this]
              simp
          have HJ : Hid (intb (done ++ [hxD n]) = intb done ++ [((hxD n).toNat : Int)]) := by show _ = _; unfold intb; rw [List.map_append]; rfl
          have hlen : (intb done).length = done.length := intb_len done
          have hsz : w.heap.size ≤ wr.heap.size := hbl.size
          have HLn : Hid (done.length + 1 + k ≤ 20) := (show done.length + 1 + k ≤ 20 by omega)
          clear hn hq' HQ hq qz
          generalize hxD n = D at *
          generalize intb done = us at *
          go_wp2_with (at_builtin; refine wpList_append_own _ rfl _ _ 45 rfl w.heap.size 5 i_u8 (.int .u8 0) 1 1 Tryz.underlying45 hi_u8 hz0_u8 hz1_u8 hz2_u8 rfl (by decide) _ _ _ rfl (hov.row.alloc _) ⟨wr.heap.size, 0, none⟩ 1 1 [.int .u8 D.toNat] rfl rfl one_new one_cell (by unfold maxLen; omega) (by omega) (by simp; omega) ?_)
          intro v' w5 hown' hgrow _
          have hb' := grow_below hsz hov.row hbl hgrow
          have ho' := own_next hown' hlen.symm
          rw [← HJ.out] at ho'
          clear hown' hgrow hov hbl HJ
          go_wp2
          go_roundg k
          case measure => omega
          case rel => exact ⟨q', done ++ [D], rfl, by rw [List.length_append]; have := HLn.out; simpa using this, ho', HQ2.out, hb'⟩
end Go.Proofs.YtjnmgjcmagnkeaaGreatDoor

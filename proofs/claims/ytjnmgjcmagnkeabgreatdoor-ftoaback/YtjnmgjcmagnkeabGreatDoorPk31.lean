import Derived.ArgAppend
import Derived.Below
import Derived.BigQuiet
import Derived.ChangeOld
import Derived.Deep.CutRange
import Derived.Deep.DeepCutAuto
import Derived.Deep.LoopGhost
import Derived.Deep.QuietTactic
import Derived.Deep.RegionHeld3
import Derived.Deep.RegionWith
import Derived.Deep.WholeRow
import Derived.KernelRfl
import Derived.Laws.BitsAllLaws
import Derived.Laws.CopyRow
import Derived.Laws.EntriesVeiled
import Derived.Laws.Externs
import Derived.Laws.IdiomCopy
import Derived.Laws.IdiomRangeMap
import Derived.Laws.IdiomStrings
import Derived.Laws.RangeAny
import Derived.Laws.RangeString
import Derived.Laws.ResultCell
import Derived.Laws.Runes
import Derived.Laws.Strings3
import Derived.Lib.AppendIntMem
import Derived.Lib.AsciiSet
import Derived.Lib.AtoiErrMem
import Derived.Lib.BufferRead
import Derived.Lib.Bytealg
import Derived.Lib.ConvBytes
import Derived.Lib.IndexBytes
import Derived.Lib.ItoaLen
import Derived.Lib.ItoaNum
import Derived.Lib.OthersKept
import Derived.Lib.SlBytesConst
import Derived.Lib.Strings
import Derived.Lib.TrimByte
import Derived.Lib.Walk
import Derived.OpenShut
import Derived.OwnWalk
import Derived.ProofKit
import Derived.Scope
import Derived.Shelf.Strconv.Clone
import Derived.Shelf.Strconv.Itoa3
import Derived.Shelf.Strings.OnBuilder
import Derived.Shelf.Strings.Repeat
import Derived.Shelf.Strings.Trim
import Derived.ShutString
import Derived.WalkKit
import Derived.WalkLawsBesides
import Derived.WalkMore
import Derived.WalkSpells
import Derived.Test.YtjnmgjcmagnkeabGreatDoorPk26
import Derived.Test.YtjnmgjcmagnkeabGreatDoorPk28
import Derived.Test.YtjnmgjcmagnkeabGreatDoorPk30
/- Layer 14: what is printed is read back as the pattern. -/
namespace Go.Proofs.YtjnmgjcmagnkeabGreatDoor
open Go.ChangeShapes Go.WideShapes Go.ChangeAt Go.RowKit
open Na Ar Ry Ft Lx Go.Shelf
set_option linter.unusedVariables false
namespace Ft
theorem round_exact14 {A B d : Int} (hB : 0 < B) (h0 : 0 ≤ d) (h1 : d ≤ mostP) (h : A = numW d * B) : RoundIs A B false false 0 d 0 := by
  refine ⟨d, ⟨h0, h1, by omega, ?_⟩, Or.inl ⟨Or.inl ?_, by simp [sgB], rfl⟩⟩
  · by_cases q : d = mostP
    · exact Or.inl q
    · right
      rw [h, num_succ h0 (by omega)]
      exact Int.mul_lt_mul_of_pos_right (nxt_gt _) hB
  · unfold agn
    rw [h, if_neg (by omega), if_pos rfl, if_neg (by simp)]
theorem val_dig {d : Nat} (h : d < 10) : valN ((UInt8.ofNat (48 + d)).toNat : Int) = d := by
  rw [(digB h).2]
  unfold valN
  rw [if_pos (by omega)]
  omega
theorem nv_dd (u : Nat) : nv 10 (Lib.decDigits u) = (u : Int) := by
  induction u using Nat.strongRecOn with
  | _ u ih =>
    by_cases h : u < 10
    · rw [dd_one h, nv_one, val_dig h]
    · rw [dd_more h, nv_app, ih (u / 10) (by omega), nv_one, val_dig (Nat.mod_lt u (by omega))]
      simp only [List.length_cons, List.length_nil]
      omega
theorem nv_zeros (n : Nat) : nv 10 (List.replicate n 48) = 0 := by
  induction n with
  | zero => rfl
  | succ n ih =>
    rw [List.replicate_succ', nv_app, ih, nv_one]
    decide
theorem val_hx {n : Nat} (h : n < 16) : valN ((hxD n).toNat : Int) = n := by
  have key : ∀ n : Fin 16, valN ((hxD n.val).toNat : Int) = (n.val : Int) := by decide
  exact key ⟨n, h⟩
theorem nv_hv {l : B} (h : ∀ c ∈ l, ∃ n, n < 16 ∧ c = hxD n) : nv 16 l = (hv l : Int) := by
  induction l with
  | nil => rfl
  | cons c r ih =>
    have e := nv_app 16 [c] r
    rw [List.singleton_append] at e
    obtain ⟨n, hn, rfl⟩ := h c (List.mem_cons_self ..)
    rw [e, ih (fun d hd => h d (List.mem_cons_of_mem _ hd)), nv_one, val_hx hn, hv, (hx_dig hn).2.2.1]
    push_cast
    rfl
set_option maxRecDepth 100000 in
theorem digs_of : ∀ b : Fin 256, isD (UInt8.ofNat b.val) = true → digs9.contains (UInt8.ofNat b.val) = true := by decide
theorem ref_hex {l : B} {e : Int} (h : keptB smal9 l = true) (he : withB e = true) : refE 2 l e [] = 0 := by
  have hr : rightB 2 l e [] = true := by
    unfold rightB
    rw [if_neg (by omega), if_pos rfl, h, he]
    rfl
  unfold refE
  rw [if_pos hr, if_neg (by omega)]
theorem ref_dec {l : B} {e : Int} (h : keptB digs9 l = true) (he : withB e = true) : refE 1 l e [] = 0 := by
  have hr : rightB 1 l e [] = true := by
    unfold rightB
    rw [if_pos rfl, h, he]
    rfl
  unfold refE
  rw [if_pos hr, if_neg (by omega)]
theorem half_of {Q P : Nat} (h : Q * 18446744073709551616 = P * 2) : Q * 9223372036854775808 = P := by
  have e : Q * 9223372036854775808 * 2 = P * 2 := by rw [Nat.mul_assoc]; exact h
  exact Nat.eq_of_mul_eq_mul_right (by decide) e
theorem kept_digits {l : B} (h : l.all isD = true) (h0 : fst [48] l = false) (hl : l.length ≤ 65536) : keptB digs9 l = true := by
  have key := digs_of
  unfold keptB
  rw [h0, decide_eq_true hl]
  simp only [Bool.not_false, Bool.true_and, List.all_eq_true]
  intro c hc
  have := key ⟨c.toNat, c.toNat_lt⟩
  simp only [UInt8.ofNat_toNat] at this
  exact this (List.all_eq_true.mp h c hc)
theorem kept_hexs {x : Nat} (hx : x < 18446744073709551616) : keptB smal9 (49 :: hxL 16 x) = true := by
  have key : ∀ n : Fin 16, smal9.contains (hxD n.val) = true := by decide
  have hl := hx_len (g := 16) hx (hx_full x)
  unfold keptB
  have e0 : fst [48] (49 :: hxL 16 x) = false := rfl
  rw [e0, decide_eq_true (by rw [List.length_cons]; omega)]
  simp only [Bool.not_false, Bool.true_and, List.all_eq_true]
  intro c hc
  rcases List.mem_cons.mp hc with rfl | hc
  · decide
  · obtain ⟨n, hn, rfl⟩ := hx_all hx c hc
    exact key ⟨n, hn⟩
theorem hex_num {p : Int} (h0 : 0 < p) (h1 : p ≤ mostP) :
    RoundIs (scA (nv 16 (49 :: hxL 16 (bhB (spM p).toNat))) (spX p + 63 - ahB (spM p).toNat - 4 * ((hxL 16 (bhB (spM p).toNat)).length : Int))) (scB 1 (spX p + 63 - ahB (spM p).toNat - 4 * ((hxL 16 (bhB (spM p).toNat)).length : Int))) false false 0 p 0 := by
  obtain ⟨p1, p2, p3, p4⟩ := size_parts h0 h1
  obtain ⟨m, em⟩ : ∃ m : Nat, spM p = (m : Int) := ⟨(spM p).toNat, by omega⟩
  have et : (spM p).toNat = m := by omega
  rw [et]
  have A := ab_of (m := m) (by omega) (by omega)
  have hvv := hx_val A.lt (hx_full (bhB m))
  have hnv : nv 16 (49 :: hxL 16 (bhB m)) = 16 ^ (hxL 16 (bhB m)).length + (hv (hxL 16 (bhB m)) : Int) := by
    have e := nv_app 16 [49] (hxL 16 (bhB m))
    rw [List.singleton_append] at e
    rw [e, nv_hv (hx_all A.lt), nv_one]
    have : valN ((49 : UInt8).toNat : Int) = 1 := by decide
    rw [this, Int.one_mul]
  have hA := A.eq
  have a1 := A.a1
  have hl := hx_len (g := 16) A.lt (hx_full (bhB m))
  generalize (hxL 16 (bhB m)).length = n at *
  generalize hv (hxL 16 (bhB m)) = V at *
  generalize nv 16 (49 :: hxL 16 (bhB m)) = NN at *
  generalize bhB m = x at *
  generalize ahB m = a at *
  -- NN * 2^63 = m * 2^(a + 4 n)
  have key : NN * 9223372036854775808 = (m : Int) * 2 ^ (a + 4 * n) := by
    have e16 : (16 : Nat) ^ n = 2 ^ (4 * n) := by rw [Nat.pow_mul]
    have k1 : (16 ^ n + V) * 18446744073709551616 = m * 2 ^ a * 16 ^ n * 2 := by
      rw [Nat.mul_right_comm _ _ 2, hA, Nat.add_mul, Nat.add_mul, hvv, Nat.mul_comm (16 ^ n)]
    have k2 : (16 ^ n + V) * 9223372036854775808 = m * 2 ^ (a + 4 * n) := by
      rw [Nat.pow_add, ← e16, ← Nat.mul_assoc]
      exact half_of k1
    rw [hnv]
    have k3 := congrArg (fun k : Nat => (k : Int)) k2
    simp only [Int.natCast_mul, Int.natCast_add, Int.natCast_pow] at k3
    exact k3
  obtain ⟨X, eX⟩ : ∃ X, X = spX p := ⟨_, rfl⟩
  have hw : numW p = (m : Int) * 2 ^ (X + 1074).toNat := by unfold numW; rw [em, eX]
  rw [← eX] at p3 p4 ⊢
  refine round_exact14 (scB_pos' (by omega)) (Int.le_of_lt h0) h1 ?_
  rw [hw]
  unfold scA scB e2
  apply Int.eq_of_mul_eq_mul_right (a := 9223372036854775808) (by omega)
  have e63 : (9223372036854775808 : Int) = 2 ^ 63 := by decide
  generalize hE : X + 63 - (a : Int) - 4 * (n : Int) = E at *
  rw [Int.mul_right_comm, key, Int.one_mul, e63, Int.mul_assoc, Int.mul_assoc, Int.mul_assoc, ← Int.pow_add, ← Int.pow_add, ← Int.pow_add]
  congr 2
  omega
theorem bits_back {b m : Int} (hu : U b) (hf : ef b ≠ 2047) (hm : m = 1 ∨ m = 2 ∨ m = 3) {N : Nm} (R : RdS (mg b) m (decide (9223372036854775808 ≤ b)) N) :
    N.num.length ≤ 100 ∧ N.den = [] ∧ (N.kind = 2 ↔ m = 2) ∧ (N.kind = 1 ∨ N.kind = 2) ∧ BitsIs N.kind N.neg N.num N.exp N.den b 0 := by
  have a1 := mg_bd b
  have a2 := ef_bd b
  have a3 := fr_bd b
  have a4 := mg_parts b
  have hp1 : mg b ≤ mostP := by unfold mostP; omega
  have hsg : b = mg b + sgB (decide (9223372036854775808 ≤ b)) := by
    unfold U at hu
    unfold sgB mg
    by_cases q : 9223372036854775808 ≤ b
    · rw [decide_eq_true q, if_pos rfl]; omega
    · rw [decide_eq_false q, if_neg (by simp)]; omega
  have sg := R.sg
  by_cases z : mg b = 0
  · have e := R.zero z
    rw [e]
    refine ⟨by simp, rfl, ?_, ?_, Or.inr (Or.inl ⟨?_, rfl, by rw [z, Int.zero_add] at hsg; exact hsg, rfl⟩)⟩
    · by_cases m2 : m = 2 <;> simp [m2]
    · by_cases m2 : m = 2 <;> simp [m2]
    · rcases hm with rfl | rfl | rfl
      · exact (by decide : refE 1 [] 0 [] = 0)
      · exact (by decide : refE 2 [] 0 [] = 0)
      · exact (by decide : refE 1 [] 0 [] = 0)
  · have hp0 : 0 < mg b := by omega
    by_cases m2 : m = 2
    · have e := R.hex hp0 m2
      rw [e]
      obtain ⟨p1, p2, p3, p4⟩ := size_parts hp0 hp1
      have A := ab_of (m := (spM (mg b)).toNat) (by omega) (by omega)
      have b0 := A.a0
      have b1 := A.a1
      have hl := hx_len (g := 16) A.lt (hx_full (bhB (spM (mg b)).toNat))
      refine ⟨by rw [List.length_cons]; omega, rfl, by simp [m2], Or.inr rfl, Or.inr (Or.inr ⟨?_, by simp, mg b, 0, ?_, Or.inr ⟨rfl, rfl, hsg⟩⟩)⟩
      · refine ref_hex (kept_hexs A.lt) ?_
        show withB (spX (mg b) + 63 - ahB (spM (mg b)).toNat - 4 * ((hxL 16 (bhB (spM (mg b)).toNat)).length : Int)) = true
        unfold withB
        rw [decide_eq_true (by omega), decide_eq_true (by omega)]
        rfl
      · exact hex_num hp0 hp1
    · obtain ⟨k1, k2, k3, k4, k5⟩ := R.dec hp0 m2
      have d := ds_of hp0 hp1
      have s := sh_is hp0 hp1
      have l1 := d.len
      have e0 := d.e0
      have e1 := d.e1
      have r0 := s.r0
      have nv0 : nv 10 (dgS (mg b)) = shD (mg b) := by unfold dgS; rw [nv_dd]; omega
      obtain ⟨kd, ng, nu, ex, de⟩ := N
      simp only at k1 k2 k3 k4 k5 sg ⊢
      subst k1 k2 sg
      have hnn : nu.length ≤ 100 ∧ nu.all isD = true ∧ fst [48] nu = false ∧ nu ≠ [] ∧ withB ex = true ∧ ExIs (nv 10 nu) ex (mg b) 0 := by
        rcases k5 with rfl | ⟨rfl, rfl, q1, q2⟩
        · refine ⟨by omega, d.dg.all, d.dg.lead, d.dg.ne, ?_, ?_⟩
          · unfold withB
            rw [decide_eq_true (by omega), decide_eq_true (by omega)]; rfl
          · have : ex = Ry.shE (mg b) := by rw [← k4]; simp
            rw [nv0, this]
            exact s.rd
        · refine ⟨by rw [List.length_append, List.length_replicate]; omega, by rw [List.all_append, rep_digits, d.dg.all]; rfl, ?_, fun q => d.dg.ne (List.append_eq_nil_iff.mp q).1, by decide, ?_⟩
          · have := d.dg.lead
            have n := d.dg.ne
            cases hq : dgS (mg b) with
            | nil => exact absurd hq n
            | cons c r => rw [hq] at this; exact this
          · rw [nv_app, nv0, nv_zeros, Int.add_zero, List.length_replicate]
            have := (ex_shift (m := shD (mg b)) (e := 0) (b := mg b) (E := 0) (Ry.shE (mg b)).toNat).mpr (by
              have e : (0 : Int) + ((Ry.shE (mg b)).toNat : Int) = Ry.shE (mg b) := by omega
              rw [e]
              exact s.rd)
            show ExIs (shD (mg b) * pTen (Ry.shE (mg b)).toNat) 0 (mg b) 0
            exact this
      obtain ⟨g1, g2, g3, g4, g5, g6⟩ := hnn
      refine ⟨g1, rfl, by simp [m2], Or.inl rfl, Or.inr (Or.inr ⟨?_, g4, mg b, 0, ?_, Or.inr ⟨rfl, rfl, hsg⟩⟩)⟩
      · exact ref_dec (kept_digits g2 g3 (by omega)) g5
      · unfold ValIs
        rw [if_pos rfl]
        exact g6
end Ft
/-- the text of a finite pattern, read by atof and by lex -/
theorem back14 {b m : Int} (hu : U b) (hf : ef b ≠ 2047) (hm : m = 1 ∨ m = 2 ∨ m = 3) : ∃ kd ex : Int, ∃ nu : B,
    (kd = 2 ↔ m = 2) ∧ (kd = 1 ∨ kd = 2) ∧
    (∀ w, GrVar w → TenVar w → Calls Tryz.prog 23 #[.string (str (textT b m))] w fun r w' => r = .returned (.tuple #[.int .u64 b, .nilIface]) ∧ Below w.heap.size w w') ∧
    (∀ w, Calls Tryz.prog 24 #[.string (str (textT b m)), .int .i64 0] w fun r w' => r = .returned (.tuple #[.agg #[.int .i64 kd, .bool (decide (9223372036854775808 ≤ b)), .string (str nu), .int .i64 ex, .string (str [])], .int .i64 ((textT b m).length : Int), .nilIface]) ∧ Below w.heap.size w w') := by
  have a1 := mg_bd b
  have a2 := ef_bd b
  have a3 := fr_bd b
  have a4 := mg_parts b
  obtain ⟨N, R⟩ := size_reads (p := mg b) (m := m) (by omega) (by unfold mostP; omega) hm (decide (9223372036854775808 ≤ b))
  obtain ⟨l1, l2, k1, k2, hB⟩ := bits_back hu hf hm R
  have rd : Reads (textT b m) N := R.rd
  have sg := R.sg
  have tl := text_len (m := m) hu hf hm
  obtain ⟨kd, ng, nu, ex, de⟩ := N
  simp only at l1 l2 k1 k2 hB sg
  subst l2 sg
  refine ⟨kd, ex, nu, k1, k2, fun w hG hT => ?_, fun w => ?_⟩
  · refine parse11_ok (k := kd) (ng := decide (9223372036854775808 ≤ b)) (e := ex) (nu := str nu) (de := str []) (fun w => ?_) (by rw [str_size]; omega) (by rw [str_size]; simp) (fun b' E h => ?_) hG hT
    · have := parse_reads rd (by omega) w
      exact this
    · rw [str_list, str_list] at h
      exact bits_uniq h hB
  · have := scan_good (A := []) (R := []) rd Stops.nil (by simp; omega) w
    simp only [List.nil_append, List.append_nil, List.length_nil, Int.natCast_zero, Int.zero_add] at this
    exact this
end Go.Proofs.YtjnmgjcmagnkeabGreatDoor

/- FtoaBack. -/
namespace Go.Proofs.YtjnmgjcmagnkeabGreatDoor
open Go.ChangeShapes Go.WideShapes Go.ChangeAt Go.RowKit
open Na Ar Ry Ft Lx Go.Shelf
set_option linter.unusedVariables false
set_option maxHeartbeats 3200000 in
set_option maxRecDepth 100000 in
theorem back_walk14 {b0 : Int} (hb0 : U b0) {w : World} (hz : ZeroVar w) (hT : PowTb w) (hN : TenVar w) (hG : GrVar w) :
    Calls Tryz.prog 4 #[.int .u64 b0] w fun r w' => r = .returned (.bool true) ∧ Below w.heap.size w w' := by
  have hF1 := fun w => finite14_any hb0 w
  obtain ⟨ub, fb⟩ := finW_ok hb0
  generalize finW b0 = b at *
  have hA := alive14_any hz hT
  have HF : Hid (U b ∧ ef b ≠ 2047) := ⟨ub, fb⟩
  have HZ : Hid (ZeroVar w ∧ PowTb w ∧ TenVar w ∧ GrVar w) := ⟨hz, hT, hN, hG⟩
  clear ub fb hz hT hN hG
  go_enter Tryz.func4, Tryz.ntmps4
  go_wp2_with fail
  refine (hF1 _).mono ?_
  rintro e w1 ⟨rfl, hw⟩
  rw [hw]
  clear hF1 hw
  go_wp2_with fail
  refine hA.mono ?_
  rintro e w1 ⟨rfl, hb1⟩
  clear hA
  go_wp2
  go_loopw [3] (fun v wr => ∃ m : Int, v = .int .i64 m ∧ 1 ≤ m ∧ m ≤ 4 ∧ Below w.heap.size w wr) (fun v _ => (4 - RowKit.intOf v).toNat)
  case atStart => exact ⟨1, rfl, by omega, by omega, hb1⟩
  case round =>
    obtain ⟨m, rfl, m0, m1, hbl⟩ := hrel
    clear hb1
    by_cases q : m ≤ 3
    · have hm : m = 1 ∨ m = 2 ∨ m = 3 := by omega
      obtain ⟨ub, fb⟩ := HF.out
      obtain ⟨hz, hT, hN, hG⟩ := HZ.out
      have tb := text14_fin (m := m) ub fb hm (hz.later hbl) (powTb_later hT hbl)
      obtain ⟨kd, ex, nu, k1, k2, hP, hS⟩ := back14 ub fb hm
      have lB := text_len (m := m) ub fb hm
      generalize textT b m = X at *
      have sX : (str X).size = X.length := str_size X
      have HK : Hid ((kd = 2 ↔ m = 2) ∧ (kd = 1 ∨ kd = 2)) := ⟨k1, k2⟩
      clear hm ub fb k1 k2 hz hT
      go_wp2_with fail
      refine tb.mono ?_
      rintro e w2 ⟨rfl, hb2⟩
      have B2 := hbl.trans (hb2.mono hbl.size)
      have hP := hP w2 (hG.later B2) (hN.later B2)
      clear tb hbl hb2 hG hN
      go_wp2_with fail
      refine hP.mono ?_
      rintro e w3 ⟨rfl, hb3⟩
      have B3 := B2.trans (hb3.mono B2.size)
      clear hP B2 hb3
      go_wp2_with fail
      refine (hS _).mono ?_
      rintro e w4 ⟨rfl, hb4⟩
      have B4 := B3.trans (hb4.mono B3.size)
      have B5 : Below w.heap.size w (w4.alloc (.cells #[.int .i64 kd, .bool (decide (9223372036854775808 ≤ b)), .string (str nu), .int .i64 ex, .string (str [])] 43)) := B4.alloc B4.size _
      clear hS B3 hb4 B4
      by_cases m2 : m = 2
      · have ek : kd = 2 := HK.out.1.mpr m2
        subst m2
        subst ek
        clear HK
        by_cases qb : 9223372036854775808 ≤ b
        · have qd : decide (9223372036854775808 ≤ b) = true := decide_eq_true qb
          rw [qd] at B5
          go_wp2
          go_roundw
          case rel => exact ⟨2 + 1, rfl, by omega, by omega, B5⟩
          case measure => simp [RowKit.intOf]
        · have qd : decide (9223372036854775808 ≤ b) = false := decide_eq_false qb
          have qb' : b < 9223372036854775808 := by omega
          rw [qd] at B5
          go_wp2
          go_roundw
          case rel => exact ⟨2 + 1, rfl, by omega, by omega, B5⟩
          case measure => simp [RowKit.intOf]
      · have ek : kd = 1 := by
          rcases HK.out.2 with h | h
          · exact h
          · exact absurd (HK.out.1.mp h) m2
        have d2 : (m == 2) = false := beq_no m2
        subst ek
        clear HK
        by_cases qb : 9223372036854775808 ≤ b
        · have qd : decide (9223372036854775808 ≤ b) = true := decide_eq_true qb
          rw [qd] at B5
          go_wp2
          go_roundw
          case rel => exact ⟨m + 1, rfl, by omega, by omega, B5⟩
          case measure => simp [RowKit.intOf]; omega
        · have qd : decide (9223372036854775808 ≤ b) = false := decide_eq_false qb
          have qb' : b < 9223372036854775808 := by omega
          rw [qd] at B5
          go_wp2
          go_roundw
          case rel => exact ⟨m + 1, rfl, by omega, by omega, B5⟩
          case measure => simp [RowKit.intOf]; omega
    · have HB : Hid (Below w.heap.size w wr) := hbl
      clear hbl
      go_wp2
      go_ret
      exact ⟨rfl, HB.out⟩
end Go.Proofs.YtjnmgjcmagnkeabGreatDoor


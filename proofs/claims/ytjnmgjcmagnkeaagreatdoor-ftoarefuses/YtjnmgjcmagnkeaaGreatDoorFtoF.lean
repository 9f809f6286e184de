/- Layer 14: one text, one pattern; what the statements ask first. -/
import Derived.Test.YtjnmgjcmagnkeaaGreatDoorFtoE
namespace Go.Proofs.YtjnmgjcmagnkeaaGreatDoor
open Go.ChangeShapes Go.WideShapes Go.ChangeAt Go.RowKit
open Na Ar Ry Ft Lx Go.Shelf
set_option linter.unusedVariables false
namespace Ft
theorem off_52 {b : Int} (h : U b) : ef (bits .andNot .u64 b 4503599627370496) ≠ 2047 := by
  have hu := U_bits_andNot h (show U 4503599627370496 by unfold U; omega)
  rw [andNot_and h (by unfold U; omega)] at *
  unfold U at h
  rw [u64_and b _ h.1 h.2 (by omega) (by omega)] at *
  have e : (18446744073709551615 - 4503599627370496 : Int).toNat = 18442240474082181119 := by decide
  rw [e]
  have t : (b.toNat &&& 18442240474082181119).testBit 52 = false := by
    rw [Nat.testBit_and, show (18442240474082181119 : Nat).testBit 52 = false by decide, Bool.and_false]
  rw [Nat.testBit_eq_decide_div_mod_eq] at t
  have t2 : ¬ ((b.toNat &&& 18442240474082181119) / 2 ^ 52 % 2 = 1) := by simpa using t
  have e2 : (2 : Nat) ^ 52 = 4503599627370496 := by decide
  rw [e2] at t2
  unfold ef
  omega
def finW (b : Int) : Int := if ef b = 2047 then bits .andNot .u64 b 4503599627370496 else b
theorem finW_ok {b : Int} (h : U b) : U (finW b) ∧ ef (finW b) ≠ 2047 := by
  unfold finW
  split
  · exact ⟨U_bits_andNot h (by unfold U; omega), off_52 h⟩
  · exact ⟨h, by assumption⟩
/-- the digits and the exponent of ten, without zeros at the end -/
def rstr (l : B) : B := (l.reverse.dropWhile (fun c => c == 48)).reverse
theorem rstr_zeros {l : B} (n : Nat) (h : ∃ q c, l = q ++ [c] ∧ c ≠ 48) : rstr (l ++ List.replicate n 48) = l := by
  obtain ⟨q, c, rfl, hc⟩ := h
  unfold rstr
  rw [List.reverse_append, List.reverse_replicate, List.reverse_append]
  have key : ∀ m : Nat, (List.replicate m (48 : UInt8) ++ ([c].reverse ++ q.reverse)).dropWhile (fun c => c == 48) = [c].reverse ++ q.reverse := by
    intro m
    induction m with
    | zero => rw [List.replicate_zero, List.nil_append]; exact List.dropWhile_cons_of_neg (by simpa using hc)
    | succ m ih => rw [List.replicate_succ, List.cons_append, List.dropWhile_cons_of_pos (by decide)]; exact ih
  rw [key, List.reverse_append, List.reverse_reverse]
  rfl
theorem rstr_self {l : B} (h : ∃ q c, l = q ++ [c] ∧ c ≠ 48) : rstr l = l := by
  have := rstr_zeros 0 h
  simpa using this
/-- digits of a number that does not end in 0 -/
theorem dgS_last {p : Int} (h0 : 0 < p) (h1 : p ≤ mostP) : ∃ q c, dgS p = q ++ [c] ∧ c ≠ 48 := by
  have s := sh_is h0 h1
  have := s.r0
  have ne := s.ne
  obtain ⟨l, e⟩ := dd_last (shD p).toNat
  refine ⟨l, _, e, fun q => ?_⟩
  have := (digB (d := (shD p).toNat % 10) (by omega)).2
  rw [q] at this
  have e48 : (48 : UInt8).toNat = 48 := rfl
  omega
/-- what a size's text is read as -/
structure RdS (p m : Int) (ng : Bool) (N : Nm) : Prop where
  rd : RdT (sgT ng ++ sizeT p m) N
  sg : N.neg = ng
  dec : 0 < p → m ≠ 2 → N.kind = 1 ∧ N.den = [] ∧ rstr N.num = dgS p ∧ N.exp + (N.num.length - (dgS p).length : Nat) = shE p ∧ (N.num = dgS p ∨ N.num = dgS p ++ List.replicate (shE p).toNat 48 ∧ N.exp = 0 ∧ 0 ≤ shE p ∧ shE p ≤ 21)
  hex : 0 < p → m = 2 → N = ⟨2, ng, 49 :: hxL 16 (bhB (spM p).toNat), spX p + 63 - ahB (spM p).toNat - 4 * ((hxL 16 (bhB (spM p).toNat)).length : Int), []⟩
  zero : p = 0 → N = ⟨if m = 2 then 2 else 1, ng, [], 0, []⟩
theorem size_reads {p m : Int} (h0 : 0 ≤ p) (h1 : p ≤ mostP) (hm : m = 1 ∨ m = 2 ∨ m = 3) (ng : Bool) : ∃ N, RdS p m ng N := by
  by_cases q : p = 0
  · have e : sizeT p m = zeroT m := if_pos q
    rcases hm with rfl | rfl | rfl
    · exact ⟨_, by rw [e]; exact zero_reads ng, rfl, fun h => by omega, fun h => by omega, fun _ => rfl⟩
    · exact ⟨_, by rw [e]; exact zeroX_reads ng, rfl, fun h => by omega, fun h => by omega, fun _ => rfl⟩
    · exact ⟨_, by rw [e]; exact zeroE_reads ng, rfl, fun h => by omega, fun h => by omega, fun _ => rfl⟩
  · have hp : 0 < p := by omega
    have d := ds_of hp h1
    have l1 := d.len
    have k0 := d.k0
    have k1 := d.k1
    have hl := dgS_last hp h1
    have ek : ptS p - (dgS p).length = shE p := by unfold ptS; omega
    have sci : ∃ N, RdT (sgT ng ++ sciT (dgS p) (ptS p)) N ∧ N = ⟨1, ng, dgS p, shE p, []⟩ := ⟨_, sci_reads d.dg ng (by omega) (by omega) (by omega), by rw [ek]⟩
    have mk : ∀ N : Nm, N = ⟨1, ng, dgS p, shE p, []⟩ → N.kind = 1 ∧ N.den = [] ∧ rstr N.num = dgS p ∧ N.exp + (N.num.length - (dgS p).length : Nat) = shE p ∧ (N.num = dgS p ∨ N.num = dgS p ++ List.replicate (shE p).toNat 48 ∧ N.exp = 0 ∧ 0 ≤ shE p ∧ shE p ≤ 21) := by
      rintro N rfl
      exact ⟨rfl, rfl, rstr_self hl, by simp, Or.inl rfl⟩
    rcases hm with rfl | rfl | rfl
    · have e : sizeT p 1 = shT (dgS p) (ptS p) := by unfold sizeT; rw [if_neg q, if_pos rfl]
      by_cases r : ptS p < -5 ∨ 21 < ptS p
      · obtain ⟨N, hN, eN⟩ := sci
        have e2 : shT (dgS p) (ptS p) = sciT (dgS p) (ptS p) := if_pos r
        exact ⟨N, by rw [e, e2]; exact hN, by rw [eN], fun _ _ => mk N eN, fun _ h => by omega, fun h => absurd h q⟩
      · have e2 : shT (dgS p) (ptS p) = plT (dgS p) (ptS p) := if_neg r
        by_cases r2 : ptS p < (dgS p).length
        · have := pl_reads d.dg ng (k := ptS p) (by omega) r2 (by omega)
          rw [ek] at this
          exact ⟨_, by rw [e, e2]; exact this, rfl, fun _ _ => mk _ rfl, fun _ h => by omega, fun h => absurd h q⟩
        · have dp := d.pos
          have := whole_reads d.dg ng (k := ptS p) (by omega) (by omega)
          rw [ek] at this
          refine ⟨_, by rw [e, e2]; exact this, rfl, fun _ _ => ⟨rfl, rfl, rstr_zeros _ hl, ?_, Or.inr ⟨rfl, rfl, ?_, ?_⟩⟩, fun _ h => by omega, fun h => absurd h q⟩
          · simp only [List.length_append, List.length_replicate]; omega
          · omega
          · omega
    · have e : sizeT p 2 = hxS p := by unfold sizeT; rw [if_neg q, if_neg (by omega), if_pos rfl]
      obtain ⟨a1, a2, a3, a4⟩ := size_parts hp h1
      have A := ab_of (m := (spM p).toNat) (by omega) (by omega)
      have b0 := A.a0
      have b1 := A.a1
      exact ⟨_, by rw [e]; exact hex_reads (e := spX p + 63 - ahB (spM p).toNat) A.lt ng (by omega) (by omega), rfl, fun _ h => absurd rfl h, fun _ _ => rfl, fun h => absurd h q⟩
    · have e : sizeT p 3 = sciT (dgS p) (ptS p) := by unfold sizeT; rw [if_neg q, if_neg (by omega), if_neg (by omega)]
      obtain ⟨N, hN, eN⟩ := sci
      exact ⟨N, by rw [e]; exact hN, by rw [eN], fun _ _ => mk N eN, fun _ h => by omega, fun h => absurd h q⟩
theorem rd_uniq {S : B} {N N' : Nm} (h : RdT S N) (h' : RdT S N') : N = N' := by
  have a := (h [] Stops.nil).2.2
  have b := (h' [] Stops.nil).2.2
  rw [← a, b]
theorem dd_val (u : Nat) : (Lib.decDigits u).foldl (fun n c => 10 * n + (c.toNat - 48)) 0 = u := by
  induction u using Nat.strongRecOn with
  | _ u ih =>
    by_cases h : u < 10
    · rw [dd_one h, List.foldl_cons, List.foldl_nil, (digB h).2]; omega
    · rw [dd_more h, List.foldl_append, ih (u / 10) (by omega), List.foldl_cons, List.foldl_nil, (digB (Nat.mod_lt u (by omega))).2]; omega
theorem dd_inj {u v : Nat} (h : Lib.decDigits u = Lib.decDigits v) : u = v := by rw [← dd_val u, h, dd_val]
theorem hv_inj {x y : Nat} (hx : x < 18446744073709551616) (hy : y < 18446744073709551616) (h : hxL 16 x = hxL 16 y) : x = y := by
  have a := hx_val hx (hx_full x)
  have b := hx_val hy (hx_full y)
  rw [h] at a
  rw [a] at b
  exact Nat.eq_of_mul_eq_mul_right (Nat.pow_pos (by omega)) b
theorem num_same_of {p q : Int} (h0 : 0 < p) (h1 : p ≤ mostP) (g0 : 0 < q) (g1 : q ≤ mostP) (h : numW p = numW q) : p = q := by
  rcases Int.lt_trichotomy p q with r | r | r
  · have := num_lt' (Int.le_of_lt h0) r g1; omega
  · exact r
  · have := num_lt' (Int.le_of_lt g0) r h1; omega
theorem hex_same {m m' : Nat} {X X' : Int} (h0 : 0 < m) (h1 : m < 9007199254740992) (g0 : 0 < m') (g1 : m' < 9007199254740992) (x0 : -1074 ≤ X) (y0 : -1074 ≤ X')
    (hb : bhB m = bhB m') (he : X - ahB m = X' - ahB m') : (m : Int) * 2 ^ (X + 1074).toNat = (m' : Int) * 2 ^ (X' + 1074).toNat := by
  have A := (ab_of h0 h1).eq
  have A' := (ab_of g0 g1).eq
  rw [hb] at A
  have e : m * 2 ^ ahB m = m' * 2 ^ ahB m' := by omega
  generalize ahB m = a at *
  generalize ahB m' = a' at *
  have key : ∀ (m m' a a' : Nat) (X X' : Int), a ≤ a' → -1074 ≤ X → X - a = X' - a' → m * 2 ^ a = m' * 2 ^ a' → (m : Int) * 2 ^ (X + 1074).toNat = (m' : Int) * 2 ^ (X' + 1074).toNat := by
    intro m m' a a' X X' hle hX hxa e
    obtain ⟨k, rfl⟩ : ∃ k, a' = a + k := ⟨a' - a, by omega⟩
    rw [Nat.pow_add, Nat.mul_comm (2 ^ a), ← Nat.mul_assoc] at e
    have em : m = m' * 2 ^ k := Nat.eq_of_mul_eq_mul_right (Nat.two_pow_pos a) e
    have ex : (X' + 1074).toNat = (X + 1074).toNat + k := by omega
    rw [ex, em, Int.pow_add, Int.natCast_mul, Int.natCast_pow, Int.mul_assoc, Int.mul_comm (2 ^ (X + 1074).toNat)]
    rfl
  rcases Nat.le_total a a' with r | r
  · exact key m m' a a' X X' r x0 he e
  · exact (key m' m a' a X' X r y0 (by omega) e.symm).symm
theorem size_inj {p q m : Int} (h0 : 0 ≤ p) (h1 : p ≤ mostP) (g0 : 0 ≤ q) (g1 : q ≤ mostP) (hm : m = 1 ∨ m = 2 ∨ m = 3) {s t : Bool} (h : sgT s ++ sizeT p m = sgT t ++ sizeT q m) : s = t ∧ p = q := by
  obtain ⟨N, R⟩ := size_reads h0 h1 hm s
  obtain ⟨N', R'⟩ := size_reads g0 g1 hm t
  have rd := R.rd
  rw [h] at rd
  have e := rd_uniq rd R'.rd
  subst e
  refine ⟨by rw [← R.sg, R'.sg], ?_⟩
  by_cases zp : p = 0
  · by_cases zq : q = 0
    · omega
    · exfalso
      have eN := R.zero zp
      by_cases m2 : m = 2
      · have := R'.hex (by omega) m2
        rw [eN] at this
        injection this with _ _ c
        cases c
      · have := (R'.dec (by omega) m2).2.2.1
        rw [eN] at this
        have hl := (ds_of (p := q) (by omega) g1).dg.ne
        exact hl this.symm
  · by_cases zq : q = 0
    · exfalso
      have eN := R'.zero zq
      by_cases m2 : m = 2
      · have := R.hex (by omega) m2
        rw [eN] at this
        injection this with _ _ c
        cases c
      · have := (R.dec (by omega) m2).2.2.1
        rw [eN] at this
        have hl := (ds_of (p := p) (by omega) h1).dg.ne
        exact hl this.symm
    · by_cases m2 : m = 2
      · have a := R.hex (by omega) m2
        have b := R'.hex (by omega) m2
        rw [a] at b
        injection b with _ _ c d _
        injection c with _ c
        obtain ⟨p1, p2, p3, p4⟩ := size_parts (p := p) (by omega) h1
        obtain ⟨q1, q2, q3, q4⟩ := size_parts (p := q) (by omega) g1
        have hb := hv_inj (ab_of (m := (spM p).toNat) (by omega) (by omega)).lt (ab_of (m := (spM q).toNat) (by omega) (by omega)).lt c
        rw [c] at d
        have hn := hex_same (m := (spM p).toNat) (m' := (spM q).toNat) (X := spX p) (X' := spX q) (by omega) (by omega) (by omega) (by omega) p3 q3 hb (by omega)
        refine num_same_of (by omega) h1 (by omega) g1 ?_
        unfold numW
        have e1 : ((spM p).toNat : Int) = spM p := by omega
        have e2 : ((spM q).toNat : Int) = spM q := by omega
        rw [e1, e2] at hn
        exact hn
      · obtain ⟨-, -, a1, a2, -⟩ := R.dec (by omega) m2
        obtain ⟨-, -, b1, b2, -⟩ := R'.dec (by omega) m2
        have ed : dgS p = dgS q := by rw [← a1, b1]
        rw [ed] at a2
        have ee : shE p = shE q := by rw [← a2, b2]
        have sp := sh_is (p := p) (by omega) h1
        have sq := sh_is (p := q) (by omega) g1
        have r0 := sp.r0
        have r0' := sq.r0
        have en := dd_inj ed
        have e3 : shD p = shD q := by omega
        have x1 := sp.rd
        have x2 := sq.rd
        rw [e3, ee] at x1
        exact (roundIs_uniq (scB_pos' (exD_pos _)) x1 x2).1
theorem text_inj {b c m : Int} (hb : U b) (hc : U c) (fb : ef b ≠ 2047) (fc : ef c ≠ 2047) (hm : m = 1 ∨ m = 2 ∨ m = 3) : textT b m = textT c m ↔ b = c := by
  constructor
  · intro h
    have a1 := mg_bd b
    have a2 := ef_bd b
    have a3 := fr_bd b
    have a4 := mg_parts b
    have b1 := mg_bd c
    have b2 := ef_bd c
    have b3 := fr_bd c
    have b4 := mg_parts c
    obtain ⟨e1, e2⟩ := size_inj (p := mg b) (q := mg c) (m := m) (by omega) (by unfold mostP; omega) (by omega) (by unfold mostP; omega) hm h
    have e3 : (9223372036854775808 ≤ b) ↔ (9223372036854775808 ≤ c) := by
      have := congrArg (fun x => x = true) e1
      simpa using this
    unfold U at hb hc
    unfold mg at e2
    omega
  · rintro rfl; rfl
theorem text_neg {b m : Int} (hb : U b) : (9223372036854775808 ≤ b → textT b m = 45 :: textT (negW b) m) ∧ (¬ 9223372036854775808 ≤ b → textT (negW b) m = 45 :: textT b m) := by
  have e := mg_negW hb
  unfold U at hb
  constructor
  · intro h
    have h2 : ¬ 9223372036854775808 ≤ negW b := by unfold negW; split <;> omega
    unfold textT
    rw [e, decide_eq_true h, decide_eq_false h2]
    rfl
  · intro h
    have h2 : 9223372036854775808 ≤ negW b := by unfold negW; split <;> omega
    unfold textT
    rw [e, decide_eq_true h2, decide_eq_false h]
    rfl
theorem al_D : shD 4609434218613702656 = 15 := by kernel_rfl
theorem al_E : shE 4609434218613702656 = -1 := by kernel_rfl
theorem al_text : textT 13832806255468478464 1 = [45, 49, 46, 53] := by
  have e1 : mg 13832806255468478464 = 4609434218613702656 := by decide
  have e2 : dgS 4609434218613702656 = [49, 53] := by unfold dgS; rw [al_D]; exact Lib.decDigits_two (i := 15) (by omega) (by omega)
  unfold textT sizeT
  rw [e1, if_neg (by decide), if_pos rfl]
  unfold shT ptS
  rw [e2, al_E]
  decide
end Ft
theorem finite14_any {b : Int} (hu : U b) (w : World) : Calls Tryz.prog 8 #[.int .u64 b] w fun r w' => r = .returned (.int .u64 (finW b)) ∧ w' = w := by
  have h := field_and hu
  unfold finW
  by_cases q : ef b = 2047
  · rw [if_pos q]
    have d : (ef b == 2047) = true := beq_of q
    go_enter Tryz.func8, Tryz.ntmps8
    go_wp2
    go_ret
    exact ⟨rfl, rfl⟩
  · rw [if_neg q]
    have d : (ef b == 2047) = false := beq_no q
    go_enter Tryz.func8, Tryz.ntmps8
    go_wp2
    go_ret
    exact ⟨rfl, rfl⟩
theorem alive14_any {w : World} (hz : ZeroVar w) (hT : PowTb w) : Calls Tryz.prog 9 #[] w fun r w' => r = .returned (.bool true) ∧ Below w.heap.size w w' := by
  have hX := text14_fin (b := 13832806255468478464) (m := 1) (by unfold U; omega) (by decide) (Or.inl rfl) hz hT
  rw [al_text] at hX
  have e : str [45, 49, 46, 53] = ByteArray.mk #[45, 49, 46, 53] := rfl
  rw [e] at hX
  go_enter Tryz.func9, Tryz.ntmps9
  go_wp2_with fail
  refine hX.mono ?_
  rintro e w1 ⟨rfl, hb⟩
  clear hX
  go_wp2
  go_ret
  exact ⟨rfl, hb⟩
end Go.Proofs.YtjnmgjcmagnkeaaGreatDoor

/- radix.behind, radix.number. -/
import Derived.Test.YtmenhfnakcdnnabDoorRadixTimes
namespace Go.Proofs.YtmenhfnakcdnnabDoor
open Go.ChangeShapes Go.WideShapes Go.ChangeAt Go.RowKit
open Na Ar
open Go.Lib
set_option linter.unusedVariables false
theorem times_own {base : Nat} {v : Value} {ds : List Int} {x c0 : Int} {w : World} (hown : Own .u64 w base 35 v ds) (hd : Ws ds) (hx : U x) (hc : U c0) (hl : ds.length ≤ 12000000) :
    Calls Tryd.prog 86 #[v, .int .u64 x, .int .u64 c0] w fun e w' => ∃ d us, e = .returned (.int .u64 d) ∧ Own .u64 w' base 35 v us ∧ TmI ds x c0 ds.length d us ∧ Below base w w' := by
  rcases hown.2 with ⟨hv, _⟩ | ⟨g, cap, cur, hv, hb, _⟩
  · have hl0 : ds = [] := by
      rw [hv] at hown
      obtain ⟨a, c, e, _⟩ := hown.readsC
      simp only [Value.slice.injEq] at e
      exact List.eq_nil_of_length_eq_zero e.2.1.symm
    subst hv
    subst hl0
    refine (times_nil w).mono ?_
    rintro e w' ⟨rfl, rfl⟩
    exact ⟨c0, [], rfl, own_nil _ _ _ _, tmI_start (Dg.nil _) hc, Below.refl _ _⟩
  · subst hv
    refine (times_in hown rfl hd hx hc hl).mono ?_
    rintro e w' ⟨d, us, rfl, ho, ht, hi⟩
    refine ⟨d, us, rfl, ho, ht, ?_⟩
    have hlt := hown.lt
    have hbs : Below g w w' := hi.below (Nat.le_of_lt hlt)
    exact hbs.mono hb
set_option maxHeartbeats 1600000 in
set_option maxRecDepth 100000 in
theorem behind_any {base : Nat} {v : Value} {T x c0 : Int} {w : World} (hown : Own .u64 w base 35 v (words T)) (hT : 0 ≤ T) (hx : U x) (hx1 : 1 ≤ x) (hc : U c0) (hl : (words T).length ≤ 12000000) (hbase : base ≤ w.heap.size) :
    Calls Tryd.prog 75 #[v, .int .u64 x, .int .u64 c0] w fun e w' => ∃ v', e = .returned v' ∧ Own .u64 w' base 35 v' (words (T * x + c0)) ∧ Below base w w' := by
  obtain ⟨i_u64, hi_u64, hz0_u64, hz1_u64, hz2_u64⟩ := info_parts info_u64
  have ht := times_own hown (Dg_words T) hx hc hl
  go_enter Tryd.func75, Tryd.ntmps75
  go_wp2_with fail
  refine ht.mono ?_
  rintro e w1 ⟨d, us, rfl, hou, htm, hb1⟩
  have hbl := behind_list hT hx1 hc.1 htm
  have hul := htm.2.1
  have hsz : base ≤ w1.heap.size := Nat.le_trans hbase hb1.size
  clear ht hown htm
  by_cases h0 : d = 0
  · have t0 : (d == 0) = true := beq_of h0
    have e := hbl.1 h0
    rw [e] at hou
    clear hbl h0
    go_wp2
    go_ret
    exact ⟨_, rfl, hou, hb1⟩
  · have t0 : (d == 0) = false := beq_no h0
    have HE : Hid (us ++ [d] = words (T * x + c0)) := hbl.2 h0
    clear hbl h0
    go_wp2_with (at_builtin; refine wpList_append_own _ rfl _ _ 22 rfl base 35 i_u64 (.int .u64 0) 1 8 Tryd.underlying22 hi_u64 hz0_u64 hz1_u64 hz2_u64 rfl (by decide) _ _ _ rfl (hou.row.alloc _) ⟨w1.heap.size, 0, none⟩ 1 1 [.int .u64 d] rfl rfl one_new one_cell (by unfold maxLen; omega) (by omega) (by simp; omega) ?_)
    intro v' w2 hown' hgrow _
    have hb' := grow_below hsz hou.row hb1 hgrow
    have ho' := own_next hown' (by omega)
    rw [HE.out] at ho'
    clear hown' hgrow hou
    go_wp2
    go_ret
    exact ⟨_, rfl, ho', hb'⟩
namespace Na
/-- the number that the first i bytes say -/
def numB (s : ByteArray) (b : Int) : Nat → Int
  | 0 => 0
  | i + 1 => numB s b i * b + dgt s i
theorem ipow_monoB {b : Int} (h : 1 ≤ b) {m n : Nat} (hmn : m ≤ n) : b ^ m ≤ b ^ n := by
  obtain ⟨k, rfl⟩ : ∃ k, n = m + k := ⟨n - m, by omega⟩
  rw [Int.pow_add]
  have p : 0 ≤ b ^ m := Int.pow_nonneg (by omega)
  have q : 1 ≤ b ^ k := by have : 0 < b ^ k := Int.pow_pos (by omega); omega
  have := Int.mul_le_mul_of_nonneg_left q p
  omega
theorem dgt_bd (s : ByteArray) (i : Nat) : 0 ≤ dgt s i ∧ dgt s i ≤ 36 := valN_bd _
theorem numB_nonneg {s : ByteArray} {b : Int} (hb : 0 ≤ b) (i : Nat) : 0 ≤ numB s b i := by
  induction i with
  | zero => exact Int.le_refl _
  | succ i ih =>
    have := dgt_bd s i
    have m := Int.mul_nonneg ih hb
    show 0 ≤ numB s b i * b + dgt s i
    omega
theorem numB_lt {s : ByteArray} {b : Int} (hb : 2 ≤ b) {n : Nat} (h : ∀ i, i < n → dgt s i < b) : numB s b n < b ^ n := by
  induction n with
  | zero => simp [numB]
  | succ n ih =>
    have a := ih (fun i hi => h i (by omega))
    have c := h n (by omega)
    show numB s b n * b + dgt s n < b ^ (n + 1)
    rw [Int.pow_succ]
    have m := Int.mul_le_mul_of_nonneg_right (show numB s b n + 1 ≤ b ^ n by omega) (show 0 ≤ b by omega)
    rw [Int.add_mul] at m
    omega
theorem numB_len {s : ByteArray} {b : Int} (hb : 2 ≤ b) (hb9 : b ≤ 36) {n : Nat} (h : ∀ i, i < n → dgt s i < b) : (words (numB s b n)).length ≤ n := by
  have l : Lt (numB s b n) n := by
    refine ⟨numB_nonneg (by omega) n, Int.lt_of_lt_of_le (numB_lt hb h) ?_⟩
    have : ∀ k : Nat, b ^ k ≤ (18446744073709551616 : Int) ^ k := by
      intro k
      induction k with
      | zero => simp
      | succ k ih =>
        rw [Int.pow_succ, Int.pow_succ]
        exact Int.mul_le_mul ih (by omega) (by omega) (Int.pow_nonneg (by omega))
    exact this n
  exact l.len
/-- what is read, in its parts: c digits stand by themselves -/
def NuI (s : ByteArray) (b : Int) (pos c : Nat) (T P : Int) : Prop := 0 ≤ T ∧ 0 ≤ P ∧ P < b ^ c ∧ T * b ^ c + P = numB s b pos
theorem nuI_next {s : ByteArray} {b : Int} {pos c : Nat} {T P : Int} (h : NuI s b pos c T P) (hb : 2 ≤ b) (hd : dgt s pos < b) : NuI s b (pos + 1) (c + 1) T (P * b + dgt s pos) := by
  obtain ⟨h1, h2, h3, h4⟩ := h
  have d := dgt_bd s pos
  have m := Int.mul_nonneg h2 (show 0 ≤ b by omega)
  refine ⟨h1, by omega, ?_, ?_⟩
  · rw [Int.pow_succ]
    have m := Int.mul_le_mul_of_nonneg_right (show P + 1 ≤ b ^ c by omega) (show 0 ≤ b by omega)
    rw [Int.add_mul] at m
    omega
  · show _ = numB s b pos * b + dgt s pos
    rw [← h4, Int.pow_succ]; grind
theorem nuI_flush {s : ByteArray} {b : Int} {pos c : Nat} {T P : Int} (h : NuI s b pos c T P) : NuI s b pos 0 (T * b ^ c + P) 0 := by
  obtain ⟨h1, h2, h3, h4⟩ := h
  have p : 0 ≤ T * b ^ c := Int.mul_nonneg h1 (by omega)
  exact ⟨by omega, by omega, by simp, by simp; exact h4⟩
theorem nuI_le {s : ByteArray} {b : Int} {pos c : Nat} {T P : Int} (h : NuI s b pos c T P) (hb : 2 ≤ b) : T ≤ numB s b pos := by
  obtain ⟨h1, h2, h3, h4⟩ := h
  have p : 0 < b ^ c := Int.pow_pos (by omega)
  have := Int.mul_le_mul_of_nonneg_left (show 1 ≤ b ^ c by omega) h1
  omega
end Na
theorem Own.iterAt {w : World} {g k : Nat} {e : TypeId} {v : Value} {xs : List Int} (h : Own .u64 w (g + 1) e v xs) (s : ByteArray) (pos : Nat) : Own .u64 (w.iterAt g s pos) (g + 1) e v xs := by
  obtain ⟨h1, h2⟩ := h
  refine ⟨h1, ?_⟩
  rcases h2 with h2 | ⟨g2, c, cur, hv, hb2, hc, r⟩
  · exact Or.inl h2
  · refine Or.inr ⟨g2, c, cur, hv, hb2, ?_, r⟩
    rw [iterAt_other w g g2 s pos (by omega)]; exact hc
theorem iterPos_of {w : World} {g : Nat} {s : ByteArray} {p : Nat} (h : w.heap[g]? = some (.stringIter s p)) : w.iterPos g = p := by
  unfold World.iterPos
  rw [h]
theorem dgt_ascii {s : ByteArray} {i : Nat} {b : Int} (hi : i < s.size) (hb : b ≤ 36) (h : dgt s i < b) : (s[i]'hi).toNat < 128 := by
  by_cases g : (s[i]'hi).toNat < 128
  · exact g
  · exfalso
    unfold dgt at h
    rw [get_byte hi, valN_high (by omega)] at h
    omega
set_option maxHeartbeats 3200000 in
set_option maxRecDepth 100000 in
theorem number_any (s : ByteArray) (b : Int) (hb : 2 ≤ b) (hb9 : b ≤ 36) (hs : s.size ≤ 11000000) (hd : ∀ i, i < s.size → dgt s i < b) (w : World) :
    Calls Tryd.prog 48 #[.string s, .int .i64 b] w fun e w' => ∃ v, e = .returned v ∧ Own .u64 w' w.heap.size 35 v (words (numB s b s.size)) ∧ Below w.heap.size w w' := by
  have hwb : IntKind.u64.wrap b = b := by rw [wrapU]; omega
  go_enter Tryd.func48, Tryd.ntmps48
  go_wp2_with fail
  refine (step_any b hb hb9 w).mono ?_
  rintro e w' ⟨K, rfl, hst, rfl⟩
  obtain ⟨k1, k2, k3, k4⟩ := hst
  have k0 : 1 ≤ b ^ K := by have : 0 < b ^ K := Int.pow_pos (by omega); omega
  obtain ⟨M, hM⟩ : ∃ M, M = b ^ K := ⟨_, rfl⟩
  have HM : Hid (M = b ^ K) := hM
  rw [← hM] at k0 k3 ⊢
  obtain ⟨g, hg⟩ : ∃ g, g = w.heap.size := ⟨_, rfl⟩
  have hit : (w.iter s 0).heap[g]? = some (.stringIter s 0) := by rw [hg]; exact World.iter_heap w s 0
  have hB0 : Below g w (w.iter s 0) := by rw [hg]; exact (Below.refl _ _).alloc (Nat.le_refl _) _
  have hsz0 : g + 1 ≤ (w.iter s 0).heap.size := by rw [hg]; show _ ≤ (w.heap.push _).size; simp
  have hn0 : NuI s b 0 0 0 0 := ⟨by omega, by omega, by simp, by simp [numB]⟩
  have hz : words 0 = [] := dig_zero _
  clear hM
  go_wp2
  rw [← hg]
  generalize w.iter s 0 = w0 at *
  have HG : Hid (g = w.heap.size) := hg
  clear hg
  go_loopw [5, 8, 9, 11] (fun v p z _ wr => ∃ (pos c : Nat) (T P : Int), p = .int .u64 P ∧ z = .int .u64 (b ^ c) ∧ pos ≤ s.size ∧ c ≤ K ∧ wr.heap[g]? = some (.stringIter s pos) ∧ Own .u64 wr (g + 1) 35 v (words T) ∧ NuI s b pos c T P ∧ g + 1 ≤ wr.heap.size ∧ Below g w wr) (fun _ _ _ _ wr => s.size - wr.iterPos g)
  case atStart => exact ⟨0, 0, 0, 0, rfl, by simp, Nat.zero_le _, Nat.zero_le _, hit, by rw [hz]; exact own_nil _ _ _ _, hn0, hsz0, hB0⟩
  case round =>
    obtain ⟨pos, c, T, P, rfl, rfl, hp, hcK, hit', hov, hinv, hsz, hnx⟩ := hrel
    clear hit hB0 hsz0 hn0
    have hT0 := hinv.1
    have hP0 := hinv.2.1
    have hPc := hinv.2.2.1
    have hbc : 0 < b ^ c := Int.pow_pos (by omega)
    have hcM : b ^ c ≤ M := by rw [HM.out]; exact ipow_monoB (by omega) hcK
    have hlen : (words T).length ≤ 12000000 := by
      have a := words_mono hT0 (nuI_le hinv hb)
      have c := numB_len (s := s) hb hb9 (n := pos) (fun i hi => hd i (by omega))
      omega
    have uz : U (b ^ c) := by unfold U; omega
    have uP : U P := by unfold U; omega
    by_cases hlt : pos < s.size
    · have hda := hd pos hlt
      have hd0 := dgt_bd s pos
      have ha := dgt_ascii hlt hb9 hda
      have hn := fun ty => run_next_ascii_at (P := Tryd.prog) wr g s pos ty hit' hlt ha
      have hit1 := iterAt_heap wr g s pos (pos + 1) hit'
      have hov1 := Own.iterAt (k := 0) hov s (pos + 1)
      have hsz1 : g + 1 ≤ (wr.iterAt g s (pos + 1)).heap.size := by rw [iterAt_size]; exact hsz
      have hB1 := below_iterAt hnx (Nat.le_refl g) s (pos + 1)
      have hdg : dgt s pos = valN ((s[pos]'hlt).toNat : Int) := by unfold dgt; rw [get_byte hlt]
      have hv := fun w => value_any ((s[pos]'hlt).toNat : Int) (by omega) (by omega) w
      rw [← hdg] at hv
      have hip := iterPos_of hit'
      clear hdg hit' hov hsz hnx
      generalize ((s[pos]'hlt).toNat : Int) = r at *
      obtain ⟨w1, hw1⟩ : ∃ w1, w1 = wr.iterAt g s (pos + 1) := ⟨_, rfl⟩
      rw [← hw1] at hn hit1 hov1 hsz1 hB1
      clear hw1
      by_cases hc : c = K
      · have hq : (b ^ c == M) = true := by rw [hc, ← HM.out]; simp
        have hbh := behind_any hov1 hT0 uz (by omega) uP hlen hsz1
        have hfl := nuI_next (nuI_flush hinv) hb hda
        have e1 : b ^ (0 + 1) = b := by rw [Nat.zero_add, Int.pow_one]
        have e2 : (0 : Int) * b + dgt s pos = dgt s pos := by simp
        rw [e2] at hfl
        have HF : Hid (NuI s b (pos + 1) (0 + 1) (T * b ^ c + P) (dgt s pos)) := hfl
        have hdU : dgt s pos ≤ 36 := hd0.2
        have hdN : 0 ≤ dgt s pos := hd0.1
        clear hinv hfl hd0 hda e2 hc hcM
        generalize dgt s pos = D at *
        generalize b ^ c = Z at *
        go_wp2_with fail
        refine hbh.mono ?_
        rintro e w2 ⟨v2, rfl, hv2, hb2⟩
        have hit2 : w2.heap[g]? = some (.stringIter s (pos + 1)) := by rw [hb2.block g (by omega)]; exact hit1
        have hsz2 := Nat.le_trans hsz1 hb2.size
        have hB2 := hB1.trans (hb2.mono (by omega))
        have hip2 := iterPos_of hit2
        clear hbh hov1 hit1
        go_wp2_with fail
        refine (hv _).mono ?_
        rintro e w' ⟨rfl, rfl⟩
        clear hv hn
        go_wp2
        go_roundw
        case rel => exact ⟨pos + 1, 0 + 1, _, D, rfl, by rw [e1], by omega, by omega, hit2, hv2, HF.out, hsz2, hB2⟩
        case measure => rw [hip, hip2]; omega
      · have hcK2 : c + 1 ≤ K := by omega
        have hq : (b ^ c == M) = false := by
          have : b ^ c < M := by
            rw [HM.out]
            have a := ipow_monoB (b := b) (by omega) hcK2
            rw [Int.pow_succ] at a
            have := Int.mul_le_mul_of_nonneg_left hb (show 0 ≤ b ^ c by omega)
            omega
          simp; omega
        have hnx2 := nuI_next hinv hb hda
        have hsM : b ^ (c + 1) ≤ M := by rw [HM.out]; exact ipow_monoB (by omega) hcK2
        have hlt3 := hnx2.2.2.1
        have hnn3 := hnx2.2.1
        have hPb : 0 ≤ P * b := Int.mul_nonneg hP0 (by omega)
        have hzb : 0 ≤ b ^ c * b := Int.mul_nonneg (by omega) (by omega)
        have hzM : b ^ c * b ≤ M := by rw [← Int.pow_succ]; exact hsM
        have HZ : Hid (b ^ (c + 1) = b ^ c * b) := Int.pow_succ ..
        have HF : Hid (NuI s b (pos + 1) (c + 1) T (P * b + dgt s pos)) := hnx2
        have hPd : P * b + dgt s pos < 18446744073709551616 := by omega
        have hdU : dgt s pos ≤ 36 := hd0.2
        have hdN : 0 ≤ dgt s pos := hd0.1
        have hip1 := iterPos_of hit1
        clear hinv hnx2 hd0 hda hsM hlt3 hnn3 hc
        generalize dgt s pos = D at *
        generalize b ^ c = Z at *
        have hw1 : IntKind.u64.wrap (P * b) = P * b := by rw [wrapU]; exact Int.emod_eq_of_lt hPb (by omega)
        have hw2 : IntKind.u64.wrap (P * b + D) = P * b + D := by rw [wrapU]; exact Int.emod_eq_of_lt (by omega) hPd
        have hw3 : IntKind.u64.wrap (Z * b) = Z * b := by rw [wrapU]; exact Int.emod_eq_of_lt hzb (by omega)
        go_wp2_with fail
        refine (hv _).mono ?_
        rintro e w' ⟨rfl, rfl⟩
        clear hv hn
        go_wp2
        go_roundw
        case rel => exact ⟨pos + 1, c + 1, T, _, rfl, by rw [HZ.out], by omega, hcK2, hit1, hov1, HF.out, hsz1, hB1⟩
        case measure => rw [hip, hip1]; omega
    · have hn := fun ty => run_next_end_at (P := Tryd.prog) wr g s pos ty hit' hlt
      have he : pos = s.size := by omega
      have hbh := behind_any hov hT0 uz (by omega) uP hlen hsz
      have e4 := hinv.2.2.2
      rw [e4, he] at hbh
      have hgw : w.heap.size ≤ g + 1 := by rw [← HG.out]; omega
      have hB1 : Below w.heap.size w wr := by rw [← HG.out]; exact hnx
      have hgs : w.heap.size ≤ g + 1 := hgw
      clear hinv e4 he hit' hov
      generalize b ^ c = Z at *
      go_wp2_with fail
      refine hbh.mono ?_
      rintro e w2 ⟨v2, rfl, hv2, hb2⟩
      have hv3 := hv2.wider hgs
      have hB2 := hB1.trans (hb2.mono hgs)
      clear hbh hv2
      go_wp2
      go_ret
      exact ⟨_, rfl, hv3, hB2⟩
end Go.Proofs.YtmenhfnakcdnnabDoor

/- radix.Text. -/
import Derived.Test.YtmenhfnakcdnnabDoorRadixLad
import Derived.Laws.IdiomStrings
namespace Go.Proofs.YtmenhfnakcdnnabDoor
open Go.ChangeShapes Go.WideShapes Go.ChangeAt Go.RowKit
open Na Ar
set_option linter.unusedVariables false
namespace Na
theorem dch_bd {d : Int} (h0 : 0 ≤ d) (h1 : d < 36) : 48 ≤ dch d ∧ dch d ≤ 122 := by unfold dch; split <;> omega
theorem laidD_bd {b : Int} (hb : 2 ≤ b) (hb9 : b ≤ 36) (m : Nat) (X : Int) : ∀ x ∈ laidD b m X, 48 ≤ x ∧ x ≤ 122 := by
  induction m generalizing X with
  | zero => intro x hx; simp [laidD] at hx
  | succ m ih =>
    intro x hx
    have e : laidD b (m + 1) X = laidD b m (X / b) ++ [dch (X % b)] := rfl
    rw [e] at hx
    rcases List.mem_append.mp hx with h | h
    · exact ih _ x h
    · simp at h
      subst h
      have a := Int.emod_nonneg X (show b ≠ 0 by omega)
      have c := Int.emod_lt_of_pos X (show 0 < b by omega)
      exact dch_bd a (by omega)
/-- bytes of numbers -/
def bytesOf (zs : List Int) : List UInt8 := zs.map fun z => UInt8.ofNat z.toNat
theorem bytes_back {zs : List Int} (h : ∀ x ∈ zs, 48 ≤ x ∧ x ≤ 122) : (bytesOf zs).map (fun u => Value.int .u8 (u.toNat : Int)) = zs.map (Value.int .u8) := by
  unfold bytesOf
  rw [List.map_map]
  refine List.map_congr_left fun x hx => ?_
  have := h x hx
  simp only [Function.comp]
  congr 1
  rw [UInt8.toNat_ofNat']
  omega
/-- the text of a number: its digits, highest first, the zeros ahead left out -/
def TextIs (X b : Int) (t : ByteArray) : Prop := ∃ (m : Nat) (u : ByteArray), 1 ≤ m ∧ X < b ^ m ∧ u.data.toList = bytesOf (laidD b m X) ∧ TrimIs u t
theorem rung_digits {b : Int} (hb : 2 ≤ b) {k : Nat} (h : b ^ k < topB) : k < 262144 := by
  by_cases g : k < 262144
  · exact g
  · have a : (2 : Int) ^ 262144 ≤ 2 ^ k := p2mono (by omega)
    have c : (2 : Int) ^ k ≤ b ^ k := ipow_base (by omega) hb k
    have e : topB = 2 ^ 262144 := rfl
    omega
end Na
theorem conv_bytes {w : World} {base g N cap : Nat} {zs : List Int} (h : Own .u8 w base 5 (.slice (some ⟨g, 0, none⟩) N cap) zs) (hN : N = zs.length) (hz : ∀ x ∈ zs, 48 ≤ x ∧ x ≤ 122) :
    (convert 67 9 (.slice (some ⟨g, 0, none⟩) N cap)).run Tryd.prog w = .ok (.string ⟨(bytesOf zs).toArray⟩) w := by
  have hl : (bytesOf zs).length = N := by unfold bytesOf; rw [List.length_map]; exact hN.symm
  have r := run_convert_bytes_back (P := Tryd.prog) w 67 9 5 ⟨g, 0, none⟩ cap (bytesOf zs) Tryd.underlying67 Tryd.underlying5 Tryd.underlying9 (fun j hj => by
    have hjn : j < N := by rw [← hl]; exact hj
    have c := h.cellAt hN (j := j) hjn
    have ea : (⟨g, 0, none⟩ : Addr).add j = ⟨g, j, none⟩ := by
      unfold Addr.add
      by_cases hi0 : j = 0
      · subst hi0; simp
      · simp [hi0]
    rw [ea, c]
    have hjz : j < zs.length := by omega
    have m := hz (zs.getD j 0) (by rw [List.getD_eq_getElem?_getD, List.getElem?_eq_getElem hjz]; exact List.getElem_mem hjz)
    have e : zs[j] = zs.getD j 0 := by rw [List.getD_eq_getElem?_getD, List.getElem?_eq_getElem hjz]; rfl
    have e2 : (bytesOf zs)[j] = UInt8.ofNat (zs.getD j 0).toNat := by rw [← e]; simp [bytesOf]
    rw [e2, UInt8.toNat_ofNat']
    congr 2
    omega)
  rw [hl] at r
  exact r
set_option maxHeartbeats 3200000 in
set_option maxRecDepth 100000 in
theorem text_any {a : Option Addr} {n c1 : Nat} {xs : List Int} {b : Int} {w : World} (hx : RowC w a n c1 xs) (hw : Ws xs) (hn : n ≤ 4000000) (hb : 2 ≤ b) (hb9 : b ≤ 36) (hl : (words (num xs)).length ≤ 4096) (hX : 0 < num xs) :
    Calls Tryd.prog 18 #[.slice a n c1, .int .i64 b] w fun e w' => ∃ t : ByteArray, e = .returned (.tuple #[.string t, .int .i64 0]) ∧ TextIs (num xs) b t ∧ Below w.heap.size w w' := by
  obtain ⟨i_u8, hi_u8, hz0_u8, hz1_u8, hz2_u8⟩ := info_parts info_u8
  have hk : knownB b = true := by unfold knownB; simp; omega
  have kc := known_any b w
  rw [hk] at kc
  have tc := trim_any hx hw hn
  have nz := words_nil (Int.le_of_lt hX)
  go_enter Tryd.func18, Tryd.ntmps18
  go_wp2_with fail
  refine kc.mono ?_
  rintro e w' ⟨rfl, rfl⟩
  go_wp2_with fail
  refine tc.mono ?_
  rintro e w' ⟨rfl, htr, _, _, rfl⟩
  have hoffx : ∀ g, w.heap.size ≤ g → Off a g := fun g hg => htr.1.off (by omega) hg
  clear kc tc hk hx hw
  generalize hXX : num xs = X at *
  have HXX : Hid (num xs = X) := hXX
  clear hXX
  generalize hLL : (words X).length = L at *
  clear hLL
  have l0 : ((L : Int) == 0) = false := by simp; omega
  go_wp2_with fail
  refine (step_any b hb hb9 w).mono ?_
  rintro e w' ⟨K, rfl, hst, rfl⟩
  obtain ⟨k1, k2, k3, k4⟩ := hst
  have hS2 : 2 ≤ b ^ K := by
    have := ipow_monoB (b := b) (by omega) k1
    rw [Int.pow_one] at this
    omega
  have hld := ladder_any htr hX hl hS2 k3
  obtain ⟨S, hS⟩ : ∃ S, S = b ^ K := ⟨_, rfl⟩
  have HS : Hid (S = b ^ K) := hS
  rw [← hS] at hld ⊢
  clear k4 hS
  go_wp2_with fail
  refine hld.mono ?_
  rintro e w1 ⟨v, r, rfl, hrg, hr18, hXr, hall, hb1⟩
  obtain ⟨ra, rc, rfl, hrc, hrm, hrows⟩ := rungs_rows hrg
  have hpw : ∀ i, S ^ (2 ^ i) = b ^ (K * 2 ^ i) := fun i => by rw [HS.out, ← Int.pow_mul]
  rw [hpw] at hXr
  have hMb : K * 2 ^ r ≤ 1000000 := by
    cases r with
    | zero => omega
    | succ q =>
      have := hall q (by omega)
      rw [hpw] at this
      have := rung_digits hb this
      rw [Nat.pow_succ, ← Nat.mul_assoc]
      omega
  have hM1 : 1 ≤ K * 2 ^ r := Nat.mul_pos (by omega) (Nat.pow_pos (by omega))
  have hxs : ∀ i, i < r → ((List.range r).map fun i => words (S ^ (2 ^ i))).getD i [] = words (b ^ (K * 2 ^ i)) ∧ (words (b ^ (K * 2 ^ i))).length ≤ 5000 := fun i hi => by
    have e : ((List.range r).map fun i => words (S ^ (2 ^ i))).getD i [] = words (S ^ (2 ^ i)) := by simp [List.getD_eq_getElem?_getD, hi]
    rw [e, ← hpw]
    refine ⟨rfl, ?_⟩
    have t := hall i hi
    have p : 0 ≤ S ^ (2 ^ i) := by rw [HS.out]; exact Int.pow_nonneg (Int.pow_nonneg (by omega))
    have := bits_words (P := S ^ (2 ^ i)) (β := 262144) p t (Nat.le_refl _)
    omega
  have hx1 := htr.later hb1
  have hox := hoffx w1.heap.size hb1.size
  obtain ⟨M, hM⟩ : ∃ M, M = K * 2 ^ r := ⟨_, rfl⟩
  have HM : Hid (M = K * 2 ^ r) := hM
  have hcM : (K : Int) * 2 ^ r = (M : Int) := by rw [hM, Int.natCast_mul, p2cast]
  have hcl : Hid (True) := trivial
  have hM2 : (M : Int) ≤ 1000000 := by omega
  have hM3 : 1 ≤ M := by omega
  clear hld hrg hall hpw htr hoffx hM hMb hM1
  go_wp2_with (at_make; refine wpList_make_full _ rfl _ _ 67 rfl w1.heap.size 5 i_u8 (.int .u8 0) 1 Tryd.underlying67 hi_u8 hz0_u8 hz1_u8 .i64 .i64 _ _ M rfl rfl (by omega) (by omega) (by rw [hz2_u8]; omega) (by unfold maxLen; omega) (Nat.le_refl _) ?_)
  intro w2 hmade hgr
  have hown := own_zeros hmade
  have hb2 : Below w1.heap.size w1 w2 := (Below.refl _ _).grown hgr (Nat.le_refl _) (fun k hk => by cases hk)
  obtain ⟨g, hg⟩ : ∃ g, g = w1.heap.size := ⟨_, rfl⟩
  rw [← hg] at hown hox ⊢
  have hgw : w1.heap.size ≤ g := by omega
  have hx2 := hx1.later hb2
  have hlay := lay_any (base := g) (cap := M) (N := M) (R := r) (w0 := w1) hb hb9 k1 k3 hgw (by omega) (by omega) hrows hxs r (rc := rc) (o := 0) (dcap := M) (ds := List.replicate M 0) (X := X) (xa := a) (xn := L) (xc := c1) (w := w2) (Nat.le_refl _) hrc hown (by simp) (by rw [HM.out]; omega) (by rw [HM.out]; omega) (by unfold maxLen; omega) (Int.le_of_lt hX) hXr hx2 (by omega) hox hb2
  rw [← HM.out] at hlay
  have hov : over (List.replicate M 0) (laidD b M X) 0 = laidD b M X := by
    unfold over
    have l := laidD_length b M X
    rw [List.take_zero, List.nil_append, List.drop_of_length_le (by simp [l]), List.append_nil]
  rw [hov] at hlay
  have hB1 : w.heap.size ≤ g := by rw [hg]; exact hb1.size
  have hB2 : Below w.heap.size w w2 := hb1.trans (hb2.mono hb1.size)
  clear hmade hgr hg hov hx1 hown hrows hxs hx2 hb2
  go_wp2_with fail
  refine hlay.mono ?_
  rintro e w3 ⟨rfl, ho3, hi3⟩
  have hcv := conv_bytes ho3 (laidD_length b M X).symm (laidD_bd hb hb9 M X)
  have hB3 : Below w.heap.size w w3 := below_inn hB2 hi3 hB1 (Nat.le_refl _)
  obtain ⟨u, hu⟩ : ∃ u : ByteArray, u = ⟨(bytesOf (laidD b M X)).toArray⟩ := ⟨_, rfl⟩
  have HU : Hid (u.data.toList = bytesOf (laidD b M X)) := by show _ = _; rw [hu]
  rw [← hu] at hcv
  have HXb : Hid (X < b ^ M) := by show _ < _; rw [HM.out]; exact hXr
  clear hlay hu hXr ho3 hi3
  go_wp2_with fail
  refine (trimLeft_any u w3).mono ?_
  rintro e w' ⟨t, rfl, ht, rfl⟩
  have HT : Hid (TextIs (num xs) b t) := by show TextIs _ _ _; rw [HXX.out]; exact ⟨M, u, hM3, HXb.out, HU.out, ht⟩
  clear hcv ht
  go_wp2
  go_ret2
  exact ⟨t, rfl, HT.out, hB3⟩
set_option maxHeartbeats 1600000 in
set_option maxRecDepth 100000 in
theorem textZero_any {a : Option Addr} {n c1 : Nat} {xs : List Int} {b : Int} {w : World} (hx : RowC w a n c1 xs) (hw : Ws xs) (hn : n ≤ 4000000) (hb : 2 ≤ b) (hb9 : b ≤ 36) (hX : num xs = 0) :
    Calls Tryd.prog 18 #[.slice a n c1, .int .i64 b] w fun e w' => e = .returned (.tuple #[.string ⟨#[48]⟩, .int .i64 0]) ∧ Below w.heap.size w w' := by
  have hk : knownB b = true := by unfold knownB; simp; omega
  have kc := known_any b w
  rw [hk] at kc
  have tc := trim_any hx hw hn
  have z : words 0 = [] := dig_zero _
  rw [hX, z] at tc
  go_enter Tryd.func18, Tryd.ntmps18
  go_wp2_with fail
  refine kc.mono ?_
  rintro e w' ⟨rfl, rfl⟩
  go_wp2_with fail
  refine tc.mono ?_
  rintro e w' ⟨rfl, _, _, _, rfl⟩
  go_wp2
  go_ret2
  exact ⟨rfl, Below.refl _ _⟩
end Go.Proofs.YtmenhfnakcdnnabDoor

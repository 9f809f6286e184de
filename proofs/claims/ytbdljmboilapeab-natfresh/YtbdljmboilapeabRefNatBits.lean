/- plumbref02: Bits, Bit, Zeros. -/
import Derived.Test.YtbdljmboilapeabRefShl
namespace Go.Proofs.Ytbdljmboilapeab
open Go.ChangeShapes Go.WideShapes Go.ChangeAt Go.RowKit
open Na
set_option linter.unusedVariables false

namespace Na
/-- how many bits -/
def bitsN (N : Int) : Int := if N ≤ 0 then 0 else (Nat.log2 N.toNat : Int) + 1
theorem p2pos (k : Nat) : 0 < (2 : Int) ^ k := Int.pow_pos (by omega)
theorem p2cast (k : Nat) : ((2 ^ k : Nat) : Int) = (2 : Int) ^ k := by simp
theorem bitsN_eq {N : Int} {k : Nat} (h1 : 2 ^ k ≤ N) (h2 : N < 2 ^ (k + 1)) : bitsN N = k + 1 := by
  have p := p2pos k
  unfold bitsN
  rw [if_neg (by omega)]
  have e : N.toNat.log2 = k := by
    rw [Nat.log2_eq_iff (by omega)]
    have a1 := p2cast k
    have a2 := p2cast (k + 1)
    omega
  rw [e]
theorem p16 (q : Nat) : (65536 : Int) ^ q = 2 ^ (16 * q) := by rw [Int.pow_mul]; rfl
/-- the highest digit tells the bits -/
theorem bits_top {zs : List Int} {x : Int} {k : Nat} (hz : Dg 65536 zs) (h1 : 2 ^ k ≤ x) (h2 : x < 2 ^ (k + 1)) : bitsN (val 65536 (zs ++ [x])) = 16 * zs.length + k + 1 := by
  have e : val 65536 (zs ++ [x]) = val 65536 zs + 2 ^ (16 * zs.length) * x := by rw [val_append, p16]; simp [val]
  rw [e]
  have v0 := val_nonneg (B := 65536) (by omega) hz
  have v1 := val_lt (B := 65536) (by omega) hz
  rw [p16] at v1
  have p := p2pos (16 * zs.length)
  have a : (2 : Int) ^ (16 * zs.length) * 2 ^ k ≤ 2 ^ (16 * zs.length) * x := Int.mul_le_mul_of_nonneg_left h1 (by omega)
  have b : (2 : Int) ^ (16 * zs.length) * (x + 1) ≤ 2 ^ (16 * zs.length) * 2 ^ (k + 1) := Int.mul_le_mul_of_nonneg_left (by omega) (by omega)
  rw [← Int.pow_add] at a b
  rw [Int.mul_add, Int.mul_one] at b
  have := bitsN_eq (N := val 65536 zs + 2 ^ (16 * zs.length) * x) (k := 16 * zs.length + k) (by omega) (by rw [Nat.add_assoc]; omega)
  rw [this]; omega
def BitI (x : Int) (k : Nat) (v : Int) : Prop := v = x / 2 ^ k ∧ (k = 0 ∨ 2 ^ (k - 1) ≤ x)
theorem bit_start (x : Int) : BitI x 0 x := ⟨by simp, Or.inl rfl⟩
theorem bit_step {x v : Int} {k : Nat} (h : BitI x k v) (hv : 0 < v) : BitI x (k + 1) (v / 2) := by
  obtain ⟨h1, h2⟩ := h
  have p := p2pos k
  refine ⟨?_, Or.inr ?_⟩
  · rw [h1, Int.pow_succ, Int.ediv_ediv_of_nonneg (by omega)]
  · simp only [Nat.add_sub_cancel]
    have a := Int.mul_ediv_self_le (x := x) (k := 2 ^ k) (by omega)
    rw [← h1] at a
    have b : (2 : Int) ^ k * 1 ≤ 2 ^ k * v := Int.mul_le_mul_of_nonneg_left (by omega) (by omega)
    omega
theorem bit_small {x v : Int} {k : Nat} (h : BitI x k v) (hx : x ≤ 65535) : k ≤ 16 := by
  rcases h.2 with h2 | h2
  · omega
  · by_cases g : 17 ≤ k
    · have c := p2cast (k - 1)
      have l : 2 ^ 16 ≤ 2 ^ (k - 1) := Nat.pow_le_pow_right (by omega) (by omega)
      have l' := Int.ofNat_le.mpr l
      rw [c] at l'
      have : ((2 ^ 16 : Nat) : Int) = 65536 := rfl
      omega
    · omega
theorem bit_end {x v : Int} {k : Nat} (h : BitI x k v) (hx : 0 < x) (hv : ¬ 0 < v) : ∃ j : Nat, k = j + 1 ∧ 2 ^ j ≤ x ∧ x < 2 ^ (j + 1) := by
  obtain ⟨h1, h2⟩ := h
  have p := p2pos k
  have b := Int.lt_mul_ediv_self_add (x := x) (k := 2 ^ k) p
  have v0 : 0 ≤ v := by rw [h1]; exact Int.ediv_nonneg (by omega) (by omega)
  have vz : v = 0 := by omega
  rw [← h1, vz] at b
  rcases h2 with h2 | h2
  · subst h2; simp at b; omega
  · have hk : k ≠ 0 := by
      intro e; subst e; simp at b; omega
    refine ⟨k - 1, by omega, h2, ?_⟩
    have : k - 1 + 1 = k := by omega
    rw [this]; omega
/-- bit i -/
def bitN (N i : Int) : Int := if i < 0 then 0 else N / 2 ^ i.toNat % 2
theorem bit_out {N : Int} {L t : Nat} (h0 : 0 ≤ N) (h : N < 65536 ^ L) (ht : L ≤ t / 16) : N / 2 ^ t = 0 := by
  rw [p16] at h
  have l : 2 ^ (16 * L) ≤ 2 ^ t := Nat.pow_le_pow_right (by omega) (by omega)
  have l' := Int.ofNat_le.mpr l
  rw [p2cast, p2cast] at l'
  exact Int.ediv_eq_zero_of_lt h0 (by omega)
theorem bit_in {ps : List Int} {t : Nat} (hp : Dg 65536 ps) (h : t / 16 < ps.length) : val 65536 ps / 2 ^ t % 2 = ps.getD (t / 16) 0 / 2 ^ (t % 16) % 2 := by
  rw [val_at h]
  have e : (2 : Int) ^ t = 65536 ^ (t / 16) * 2 ^ (t % 16) := by
    rw [p16, ← Int.pow_add]
    congr 1; omega
  have v0 := val_nonneg (B := 65536) (by omega) (hp.take (t / 16))
  have v1 := val_lt (B := 65536) (by omega) (hp.take (t / 16))
  rw [List.length_take, Nat.min_eq_left (by omega)] at v1
  have p : 0 < (65536 : Int) ^ (t / 16) := Int.pow_pos (by omega)
  rw [e, ← Int.ediv_ediv_of_nonneg (by omega), Int.add_mul_ediv_left _ _ (by omega), Int.ediv_eq_zero_of_lt v0 v1, Int.zero_add]
  have r : (65536 : Int) = 2 ^ (t % 16) * (2 ^ (15 - t % 16) * 2) := by
    rw [← Int.pow_succ, ← Int.pow_add]
    have : t % 16 + (15 - t % 16 + 1) = 16 := by omega
    rw [Nat.succ_eq_add_one, this]; rfl
  have q := p2pos (t % 16)
  have e2 : ps.getD (t / 16) 0 + 65536 * val 65536 (ps.drop (t / 16 + 1)) = ps.getD (t / 16) 0 + 2 ^ (t % 16) * ((2 ^ (15 - t % 16) * 2) * val 65536 (ps.drop (t / 16 + 1))) := by
    rw [← Int.mul_assoc, ← r]
  rw [e2, Int.add_mul_ediv_left _ _ (by omega)]
  have e3 : (2 : Int) ^ (15 - t % 16) * 2 * val 65536 (ps.drop (t / 16 + 1)) = 2 * (2 ^ (15 - t % 16) * val 65536 (ps.drop (t / 16 + 1))) := by grind
  rw [e3]
  omega
end Na

theorem refBits_any {a : Option Addr} {m c1 : Nat} {xs : List Int} {w : World} (hr1 : RowAt .u64 w a m xs) (hx : Ws xs) (hm : m ≤ 100000) :
    Calls Try.prog 16 #[.slice a m c1] w fun e w' => e = .returned (.int .i64 (bitsN (num xs))) ∧ Below w.heap.size w w' := by
  have e1 := hr1.1
  have l1 := digs_len hx
  have p1 := num_nonneg hx
  have b1 : (digs (num xs)).length ≤ 400000 := by omega
  have v1 := val_digs p1
  have dx := Dg_digs (num xs)
  have z1 := digs_nil p1
  have hlast := fun h => dig_last (B := 65536) (by omega) (num xs).toNat h
  clear l1 e1
  go_enter Try.func16, Try.ntmps16
  go_wp2_with fail
  refine (digits_get hr1 hx (by omega)).mono ?_
  rintro e w1 ⟨a1, d1, rfl, _, _, rx, hbb⟩
  clear hr1
  by_cases hz : (digs (num xs)).length = 0
  · have HE : Hid (0 = bitsN (num xs)) := by show _ = _; rw [z1.mp hz]; rfl
    have t1 : (((digs (num xs)).length : Int) == 0) = true := by simp [hz]
    generalize (digs (num xs)).length = L at *
    clear z1 rx hz hlast v1 dx
    go_wp2
    go_ret
    exact ⟨ret_i HE.out, hbb⟩
  · obtain ⟨zs, x, hzx, hx0⟩ := hlast (fun h => hz (z1.mpr (by omega)))
    have hzx' : digs (num xs) = zs ++ [x] := hzx
    rw [hzx'] at v1 dx b1 rx ⊢
    have gz : Dg 65536 zs := fun y hy => dx y (List.mem_append_left _ hy)
    have gx := dx x (List.mem_append_right _ (by simp))
    have hL : (zs ++ [x]).length = zs.length + 1 := by simp
    rw [hL] at rx b1 ⊢
    have hv := fun k h1 h2 => bits_top (zs := zs) (x := x) (k := k) gz h1 h2
    rw [v1] at hv
    obtain ⟨b, off, rfl, hb, hc⟩ := rx.at (by omega)
    have hcx : w1.cell? ⟨b, off + zs.length, none⟩ = some (.int .i64 x) := by
      have := hc zs.length (by omega)
      simpa [List.getD_eq_getElem?_getD] using this
    have hbs := bit_start x
    obtain ⟨q, hq⟩ : ∃ q, q = zs.length := ⟨_, rfl⟩
    rw [← hq] at hv hcx b1 ⊢
    have hx1 : 0 < x := by omega
    have hx2 : x ≤ 65535 := by omega
    clear hc rx hz z1 hlast v1 dx hzx hzx' gz gx hL hq hx0
    go_wp2
    go_loop [4, 5] (fun n v => ∃ (k : Nat) (V : Int), n = .int .i64 (16 * (q : Int) + k) ∧ v = .int .i64 V ∧ BitI x k V ∧ 0 ≤ V ∧ V ≤ 65535) (fun _ v => (intOf v).toNat)
    case atStart => exact ⟨0, x, by go_num, rfl, hbs, by omega, by omega⟩
    case round =>
      obtain ⟨k, V, rfl, rfl, hi, hV0, hV1⟩ := hrel
      have hk := bit_small hi hx2
      by_cases hp : 0 < V
      · have hn := bit_step hi hp
        clear hi hv hbs
        go_wp2
        go_round
        case rel => exact ⟨k + 1, _, by go_num, rfl, hn, by omega, by omega⟩
        case measure => simp [intOf]; omega
      · obtain ⟨j, hj, g1, g2⟩ := bit_end hi hx1 hp
        have HE : Hid (16 * (q : Int) + k = bitsN (num xs)) := by
          show _ = _
          rw [hv j g1 g2, hj]; omega
        clear hi hv hbs hj g1 g2
        go_wp2
        go_ret
        exact ⟨ret_i HE.out, hbb⟩

theorem refBit_any {a : Option Addr} {m c1 : Nat} {xs : List Int} {w : World} (hr1 : RowAt .u64 w a m xs) (hx : Ws xs) (hm : m ≤ 100000) (n : Int) (hn9 : n ≤ 9223372036854775807) :
    Calls Try.prog 18 #[.slice a m c1, .int .i64 n] w fun e w' => e = .returned (.int .i64 (bitN (num xs) n)) ∧ Below w.heap.size w w' := by
  have e1 := hr1.1
  have l1 := digs_len hx
  have p1 := num_nonneg hx
  have b1 : (digs (num xs)).length ≤ 400000 := by omega
  have v1 := val_digs p1
  have dx := Dg_digs (num xs)
  have vl := val_lt (B := 65536) (by omega) dx
  rw [v1] at vl
  clear l1 e1
  by_cases hneg : n < 0
  · have HE : Hid (0 = bitN (num xs) n) := by show _ = _; unfold bitN; rw [if_pos hneg]
    go_enter Try.func18, Try.ntmps18
    go_wp2_with fail
    refine (digits_get hr1 hx (by omega)).mono ?_
    rintro e w1 ⟨a1, d1, rfl, _, _, rx, hbb⟩
    clear hr1 rx vl v1
    go_wp2
    go_ret
    exact ⟨ret_i HE.out, hbb⟩
  · obtain ⟨t, rfl⟩ : ∃ t : Nat, n = (t : Int) := ⟨n.toNat, by omega⟩
    have HB : Hid (bitN (num xs) (t : Int) = num xs / 2 ^ t % 2) := by show _ = _; unfold bitN; rw [if_neg hneg]; simp
    have bo := fun h => bit_out (L := (digs (num xs)).length) (t := t) p1 vl h
    have bi := fun h => bit_in (ps := digs (num xs)) (t := t) dx h
    rw [v1] at bi
    clear hneg vl v1
    go_enter Try.func18, Try.ntmps18
    go_wp2_with fail
    refine (digits_get hr1 hx (by omega)).mono ?_
    rintro e w1 ⟨a1, d1, rfl, _, _, rx, hbb⟩
    clear hr1
    generalize digs (num xs) = ps at *
    obtain ⟨L, hL⟩ : ∃ L, L = ps.length := ⟨_, rfl⟩
    rw [← hL] at b1 bo bi rx ⊢
    have HL : Hid (L = ps.length) := hL
    clear hL
    by_cases hlt : t / 16 < L
    · obtain ⟨b, off, rfl, hb, hc⟩ := rx.at (by omega)
      have hcx := hc (t / 16) hlt
      have gx := dx.getAny (t / 16)
      have hbi := bi hlt
      generalize ps.getD (t / 16) 0 = x at *
      have HI : Hid (num xs / 2 ^ t % 2 = x / 2 ^ (t % 16) % 2) := hbi
      have hs : x = x / 2 ^ 0 := by simp
      obtain ⟨gx0, gx1⟩ := gx
      have HS : Hid (x = x / 2 ^ 0) := hs
      clear hc rx bo bi hbi hs dx
      go_wp2
      go_loop [6, 7] (fun v k => ∃ (j : Nat) (V : Int), k = .int .i64 j ∧ v = .int .i64 V ∧ Hid (V = x / 2 ^ j) ∧ j ≤ t % 16 ∧ 0 ≤ V ∧ V ≤ 65535) (fun _ k => t % 16 - (intOf k).toNat)
      case atStart => exact ⟨0, x, rfl, rfl, HS, by omega, gx0, gx1⟩
      case round =>
        obtain ⟨j, V, rfl, rfl, hV, hj, hV0, hV1⟩ := hrel
        by_cases hjl : j < t % 16
        · have HV : Hid (V / 2 = x / 2 ^ (j + 1)) := by
            show _ = _
            rw [hV.out, Int.pow_succ, Int.ediv_ediv_of_nonneg (Int.le_of_lt (p2pos j))]
          clear hV
          go_wp2
          go_round
          case rel => exact ⟨j + 1, _, by go_num, rfl, HV, by omega, by omega, by omega⟩
          case measure => simp [intOf]; omega
        · have HE : Hid (V % 2 = bitN (num xs) (t : Int)) := by
            show _ = _
            have : j = t % 16 := by omega
            rw [HB.out, HI.out, hV.out, this]
          clear hV
          go_wp2
          go_ret
          exact ⟨ret_i HE.out, hbb⟩
    · have HE : Hid (0 = bitN (num xs) (t : Int)) := by show _ = _; rw [HB.out, bo (by omega)]; rfl
      clear rx bo bi dx
      go_wp2
      go_ret
      exact ⟨ret_i HE.out, hbb⟩
end Go.Proofs.Ytbdljmboilapeab

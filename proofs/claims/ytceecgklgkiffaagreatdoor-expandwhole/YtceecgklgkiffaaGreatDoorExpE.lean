/- Layer 13: decimalOf, sizeOf, top, Digits. -/
import Derived.Test.YtceecgklgkiffaaGreatDoorExpD
import Derived.Test.YtceecgklgkiffaaGreatDoorExpDec
import Derived.Test.YtceecgklgkiffaaGreatDoorNearH
import Derived.Test.YtceecgklgkiffaaGreatDoorNearMm
import Derived.Test.YtceecgklgkiffaaGreatDoorBaseG
import Derived.Test.YtceecgklgkiffaaGreatDoorBaseE
import Derived.Test.YtceecgklgkiffaaGreatDoorLawBits
import Derived.Lib.ConvBytes
import Derived.Lib.AtoiErrMem
import Derived.Deep.RegionHeld3
namespace Go.Proofs.YtceecgklgkiffaaGreatDoor
open Go.ChangeShapes Go.WideShapes Go.ChangeAt Go.RowKit
open Na Ar Ep
set_option linter.unusedVariables false
/-- a struct of two cells -/
def Sd (w : World) (g : Nat) (t : TypeId) (x y : Value) : Prop := w.heap[g]? = some (.cells #[x, y] t (0, 0))
section
variable {w w' : World} {g : Nat} {t : TypeId} {x y : Value}
theorem Sd.lt (h : Sd w g t x y) : g < w.heap.size := by
  by_cases hlt : g < w.heap.size
  · exact hlt
  · unfold Sd at h; simp [Array.getElem?_eq_none (Nat.le_of_not_lt hlt)] at h
theorem Sd.later (h : Sd w g t x y) (hb : Below w.heap.size w w') : Sd w' g t x y := by
  unfold Sd
  rw [hb.block g h.lt]
  exact h
theorem Sd.cells (h : Sd w g t x y) : w.cell? ⟨g, 0, none⟩ = some x ∧ w.cell? ⟨g, 1, none⟩ = some y := by
  unfold Sd at h
  simp [World.cell?, h]
theorem Sd.frozen (h : Sd w g t x y) : w.frozen? ⟨g, 0, none⟩ = false ∧ w.frozen? ⟨g, 1, none⟩ = false := by
  unfold Sd at h
  simp [World.frozen?, h]
theorem sd_new (w : World) (x y : Value) (t : TypeId) : Sd (w.alloc (.cells #[x, y] t)) w.heap.size t x y := heap_alloc_new _ _
theorem Sd.set (h : Sd w g t x y) (x' y' : Value) : Sd ((w.setCell ⟨g, 0, none⟩ x').setCell ⟨g, 1, none⟩ y') g t x' y' :=
  set_block (set_block h)
theorem in2 (w : World) (g : Nat) (x' y' : Value) : In g (g + 1) w ((w.setCell ⟨g, 0, none⟩ x').setCell ⟨g, 1, none⟩ y') := ((In.refl g (g + 1) w).set1 0 _).set1 1 _
end
namespace Ep
theorem text10 {X : Int} {t : ByteArray} {N L : Nat} (h : TextIs X 10 t) (hX : X = (N : Int)) (h1 : 1 ≤ L) (h2 : 10 ^ (L - 1) ≤ N) (h3 : N < 10 ^ L) : t.data.toList = dg L N := by
  obtain ⟨d, rfl⟩ : ∃ d, L = d + 1 := ⟨L - 1, by omega⟩
  have e := text_bytes h (by omega) (by omega) (d := d) (by rw [hX]; exact_mod_cast h2) (by rw [hX]; exact_mod_cast h3)
  rw [e, hX]
  have key : ∀ (m X : Nat), bytesOf (laidD 10 m (X : Int)) = dg m X := fun m => by
    induction m with
    | zero => intro X; rfl
    | succ m ih =>
      intro X
      have e1 : laidD 10 (m + 1) (X : Int) = laidD 10 m ((X : Int) / 10) ++ [dch ((X : Int) % 10)] := rfl
      have e2 : dg (m + 1) X = dg m (X / 10) ++ [UInt8.ofNat (48 + X % 10)] := rfl
      have e3 : ((X : Int) / 10) = ((X / 10 : Nat) : Int) := by omega
      rw [e1, e2, e3, ← ih]
      unfold bytesOf
      rw [List.map_append]
      congr 1
      simp only [List.map_cons, List.map_nil]
      have : dch ((X : Int) % 10) = ((48 + X % 10 : Nat) : Int) := by unfold dch; rw [if_pos (by omega)]; omega
      rw [this, Int.toNat_natCast]
  exact key _ _
end Ep
/-- a text as a slice of bytes -/
theorem bytes13 (w : World) (t : ByteArray) (l : List UInt8) (ht : t.data.toList = l) (hl : l.length ≤ 1000000) : ∃ (c : Nat) (w' : World), (convert 9 60 (.string t)).run Tryz.prog w = .ok (.slice (some ⟨w.heap.size, 0, none⟩) l.length c) w' ∧ Rb w' (some ⟨w.heap.size, 0, none⟩) l.length c l ∧ Below w.heap.size w w' := by
  have hs : t.size = l.length := by rw [Lib.size_eq, ht]
  have hr := Lib.run_convert_string_bytes (P := Tryz.prog) w 9 60 5 t (u := .string) Tryz.underlying9 Tryz.underlying60 Tryz.underlying5
  have hge := grownCap_ge w t.size 0 5
  have hle := grownCap_le_maxLen w t.size 0 5 (by unfold maxLen; omega)
  have hb := Lib.bytesWorld_below w 5 t
  rw [hs] at hr hge hle
  refine ⟨_, _, hr, ⟨⟨nz_len l, ?_⟩, by omega, by unfold maxLen at hle; omega⟩, hb⟩
  by_cases h0 : l.length = 0
  · exact Or.inl h0
  · refine Or.inr ⟨w.heap.size, 0, rfl, ?_, fun i hi => ?_⟩
    · have := Lib.bytesWorld_cell w 5 t 0 (by omega)
      exact World.block_lt_of_cell? _ _ this
    · rw [nz_at, Nat.zero_add, Lib.bytesWorld_cell w 5 t i (by omega), ht]
theorem five13_any {k : Nat} (h : k ≤ 1100) (w : World) :
    Calls Tryz.prog 109 #[.int .i64 (k : Int)] w fun e w' => ∃ a l c ls, e = .returned (.tuple #[.slice a l c, .int .i64 0]) ∧ RowC w' a l c ls ∧ Nm ls (5 ^ k) ∧ Below w.heap.size w w' := by
  have f := five_any (k : Int) (by omega) (by omega) w
  have E1 : pwE 112899 (k : Int) = 0 := by unfold pwE; rw [if_neg (by omega), if_neg (by omega)]
  have E2 : pwL 5 112899 (k : Int) = words (5 ^ k) := by unfold pwL; rw [if_neg (by omega), if_neg (by omega), Int.toNat_natCast]
  rw [E1, E2] at f
  refine f.mono ?_
  rintro e w' ⟨v, rfl, ho, hb⟩
  obtain ⟨a, c, rfl, hr⟩ := ho.readsC
  exact ⟨a, _, c, _, rfl, hr, (five_lt (by omega)).nm (by omega), hb⟩
namespace Ep
theorem five_big : Nat.blt ((5 : Nat) ^ (1100 : Nat)) ((18446744073709551616 : Nat) ^ (40 : Nat)) = true := by kernel_rfl
def k60 : Nat := 60
def t1300 : Nat := 1300
theorem ten_big : Nat.blt ((18446744073709551616 : Nat) ^ k60) ((10 : Nat) ^ t1300) = true := by kernel_rfl
theorem lt_ten {X k : Nat} (h : Lt (X : Int) 60) (h1 : 10 ^ k ≤ X) : k < 1300 := by
  have e : t1300 = 1300 := rfl
  rw [← e]
  by_cases q : k < t1300
  · exact q
  · exfalso
    have h' : Lt (X : Int) k60 := h
    have a : (X : Int) < ((18446744073709551616 ^ k60 : Nat) : Int) := by
      have := h'.2
      rw [Int.natCast_pow]
      exact this
    have b : 18446744073709551616 ^ k60 < 10 ^ t1300 := by
      have := ten_big
      simpa [Nat.blt_eq] using this
    have c := Nat.pow_le_pow_right (n := 10) (by omega) (show t1300 ≤ k by omega)
    generalize (18446744073709551616 : Nat) ^ k60 = y at *
    generalize (10 : Nat) ^ t1300 = z at *
    generalize (10 : Nat) ^ k = u at *
    omega
theorem pow_le_mul {N k X : Nat} (h : X = N * 10 ^ k) (hN : 0 < N) : 10 ^ k ≤ X := by
  rw [h]
  exact Nat.le_mul_of_pos_left _ hN
theorem le_mul_pow {N k X : Nat} (h : X = N * 10 ^ k) : N ≤ X := by
  rw [h]
  exact Nat.le_mul_of_pos_right _ (Nat.pow_pos (by omega))
end Ep
set_option maxHeartbeats 3200000 in
set_option maxRecDepth 100000 in
theorem decimalOf_any {w : World} {s : Bool} {a b : Option Addr} {n c m d : Nat} {q : Rat} {p : Nat} (hq : Rt w s a n c b m d q) (hz : Sz q 20) (hp : (q.den : Int) = 2 ^ p) (hp9 : p ≤ 1100) (h0 : 0 < q.num.natAbs) :
    Calls Tryz.prog 70 #[.agg #[.bool s, .slice a n c, .slice b m d]] w fun e w' => ∃ (B c' N L k : Nat), e = .returned (.agg #[.slice (some ⟨B, 0, none⟩) L c', .int .i64 ((k : Int) - (p : Int))]) ∧ w.heap.size ≤ B ∧ Rb w' (some ⟨B, 0, none⟩) L c' (dg L N) ∧ (q.num.natAbs * 5 ^ p = N * 10 ^ k ∧ 1 ≤ L ∧ 10 ^ (L - 1) ≤ N ∧ N < 10 ^ L ∧ N % 10 ≠ 0) ∧ L ≤ 1300 ∧ k < 1300 ∧ Below w.heap.size w w' := by
  have n1 := nm_abs hz (by omega)
  have n2 := nm_den hz (by omega)
  have hZ := fun w' (hb : Below w.heap.size w w') => zerosQ (hq.de.later hb) n2 (b := (p : Int)) (by rw [hp]; exact pow_zeros p)
  have hF := five13_any (k := p) hp9
  have hL : Lt ((q.num.natAbs : Int) * 5 ^ p) 60 := hz.1.mul (l := 40) (pow_lt (b := 5) (m := 1100) (n := p) (by omega) five_big hp9)
  have hM := fun (w' : World) (hb : Below w.heap.size w w') {a2 : Option Addr} {l2 c2 : Nat} {ls : List Int} (hr : RowC w' a2 l2 c2 ls) (hn : Nm ls (5 ^ p)) => mulQ (hq.nu.later hb) hr n1 hn hL (by omega)
  obtain ⟨A, hA⟩ : ∃ A, A = q.num.natAbs := ⟨_, rfl⟩
  rw [← hA] at hL hM n1 h0
  rw [← hA]
  obtain ⟨X, hX⟩ : ∃ X, X = A * 5 ^ p := ⟨_, rfl⟩
  have hX0 : 0 < X := by rw [hX]; exact Nat.mul_pos h0 (Nat.pow_pos (by omega))
  have hXi : (A : Int) * 5 ^ p = (X : Int) := by rw [hX]; push_cast; rfl
  rw [hXi] at hL hM
  rw [← hX]
  have HL : Hid (Lt (X : Int) 60) := hL
  have st := st_new w (.bool s) (.slice a n c) (.slice b m d) 50
  have hba := alloc_below (w := w) (.cells #[.bool s, .slice a n c, .slice b m d] 50)
  obtain ⟨g, hg⟩ : ∃ g, g = w.heap.size := ⟨_, rfl⟩
  have sd := sd_new (w.alloc (.cells #[.bool s, .slice a n c, .slice b m d] 50)) (.slice none 0 0) (.int .i64 0) 62
  have hbb := alloc_below (w := w.alloc (.cells #[.bool s, .slice a n c, .slice b m d] 50)) (.cells #[.slice none 0 0, .int .i64 0] 62)
  have st2 := st.later hbb
  have hBB : Below w.heap.size w ((w.alloc (.cells #[.bool s, .slice a n c, .slice b m d] 50)).alloc (.cells #[.slice none 0 0, .int .i64 0] 62)) := hba.trans (hbb.mono hba.size)
  have hs1 : (w.alloc (.cells #[.bool s, .slice a n c, .slice b m d] 50)).heap.size = g + 1 := by rw [hg]; simp
  rw [hs1] at sd
  obtain ⟨w0, hw0⟩ : ∃ w0, w0 = (w.alloc (.cells #[.bool s, .slice a n c, .slice b m d] 50)).alloc (.cells #[.slice none 0 0, .int .i64 0] 62) := ⟨_, rfl⟩
  rw [← hw0] at sd hBB st2
  rw [← hg] at st2
  have HG : Hid (w.heap.size = g) := hg.symm
  clear hA hX hXi hL hba hbb st hs1
  go_enter Tryz.func70, Tryz.ntmps70
  go_wp2_with fail
  rw [← hw0, ← hg]
  refine (hZ w0 hBB).mono ?_
  rintro e w1 ⟨rfl, hb1⟩
  have hB1 := hBB.trans (hb1.mono hBB.size)
  have st3 := st2.later hb1
  have sd3 := sd.later hb1
  clear hZ hw0 hg hb1 hBB st2 sd hq hz hp n2
  go_wp2_with fail
  refine (hF w1).mono ?_
  rintro e w2 ⟨a2, l2, c2, ls2, rfl, r2, m2, hb2⟩
  have hB2 := hB1.trans (hb2.mono hB1.size)
  have st4 := st3.later hb2
  have sd4 := sd3.later hb2
  obtain ⟨p0, p1, p2⟩ := st4.cells
  have hM2 := hM w2 hB2 r2 m2
  clear hF hb2 hB1 st3 sd3 hM n1
  go_wp2_with fail
  refine hM2.mono ?_
  rintro e w3 ⟨a3, l3, c3, ls3, rfl, r3, m3, e3, hb3⟩
  have hB3 := hB2.trans (hb3.mono hB2.size)
  have sd5 := sd4.later hb3
  have HL3 : Hid (l3 ≤ 60) := by
    show _ ≤ _
    have := r3.1.1
    rw [e3.out] at this
    have := HL.out.len
    omega
  have hT := trim10_any r3 m3.ws (by have := HL3.out; omega)
  rw [m3.num] at hT
  clear hM2 hb3 hB2 st4 sd4 p0 p1 p2 r2 m2 r3 m3 e3
  go_wp2_with fail
  refine hT.mono ?_
  rintro e w4 ⟨v4, U4, k, rfl, hU0, hUX, hk0, hU10, hO4, hb4⟩
  have hB4 := hB3.trans (hb4.mono hB3.size)
  have sd6 := sd5.later hb4
  obtain ⟨N, rfl⟩ := Int.eq_ofNat_of_zero_le hU0
  have hNX : X = N * 10 ^ k := by exact_mod_cast hUX
  have hN10 : N % 10 ≠ 0 := by have := hU10 (by omega); omega
  have hN0 : 0 < N := by
    rcases Nat.eq_zero_or_pos N with z | z
    · rw [z] at hN10; exact absurd rfl hN10
    · exact z
  obtain ⟨L, hL1, hLo, hLi⟩ := digits_of N hN0
  have hk9 : k < 1300 := lt_ten HL.out (pow_le_mul hNX hN0)
  have hL9 : L ≤ 1300 := by
    have := lt_ten HL.out (Nat.le_trans hLo (le_mul_pow hNX))
    omega
  have hLN : Lt (N : Int) 60 := HL.out.le (by omega) (by exact_mod_cast le_mul_pow hNX)
  obtain ⟨a4, c4, rfl, r4⟩ := hO4.readsC
  have m4 := hLN.nm (by omega)
  have hTx := text_any r4 m4.ws (b := 10) (by have := hLN.len; have := r4.1.1; omega) (by omega) (by omega) (by rw [m4.num]; have := hLN.len; omega) (by rw [m4.num]; omega)
  rw [m4.num] at hTx
  have HNX : Hid (X = N * 10 ^ k ∧ 1 ≤ L ∧ 10 ^ (L - 1) ≤ N ∧ N < 10 ^ L ∧ N % 10 ≠ 0) := ⟨hNX, hL1, hLo, hLi, hN10⟩
  clear hT hb4 hB3 sd5 hU0 hUX hk0 hU10 hO4 r4 m4 hLN hNX hN10 hLo hLi hN0 hX0 h0
  go_wp2_with fail
  refine hTx.mono ?_
  rintro e w5 ⟨t5, rfl, ht5, hb5⟩
  have hB5 := hB4.trans (hb5.mono hB4.size)
  have sd7 := sd6.later hb5
  have hdt := text10 ht5 rfl HNX.out.2.1 HNX.out.2.2.1 HNX.out.2.2.2.1
  obtain ⟨c6, w6, hcv, hR6, hb6⟩ := bytes13 w5 t5 _ hdt (by rw [dg_len]; omega)
  rw [dg_len] at hcv hR6
  have hB6 := hB5.trans (hb6.mono hB5.size)
  have sd8 := sd7.later hb6
  obtain ⟨p0, p1⟩ := sd8.cells
  obtain ⟨f0, f1⟩ := sd8.frozen
  have sd9 := (sd8.set (.slice (some ⟨w5.heap.size, 0, none⟩) L c6) (.int .i64 ((k : Int) - (p : Int)))).cells
  have hin := in2 w6 (g + 1) (.slice (some ⟨w5.heap.size, 0, none⟩) L c6) (.int .i64 ((k : Int) - (p : Int)))
  have hg5 : g + 1 < w5.heap.size := sd7.lt
  have hRR : Rb ((w6.setCell ⟨g + 1, 0, none⟩ (.slice (some ⟨w5.heap.size, 0, none⟩) L c6)).setCell ⟨g + 1, 1, none⟩ (.int .i64 ((k : Int) - (p : Int)))) (some ⟨w5.heap.size, 0, none⟩) L c6 (dg L N) := ⟨hR6.1.inn hin (fun _ => off_of (by omega)), hR6.2⟩
  have hBB : Below w.heap.size w ((w6.setCell ⟨g + 1, 0, none⟩ (.slice (some ⟨w5.heap.size, 0, none⟩) L c6)).setCell ⟨g + 1, 1, none⟩ (.int .i64 ((k : Int) - (p : Int)))) := below_inn hB6 hin (by rw [HG.out]; omega) (Nat.le_refl _)
  obtain ⟨B, hB⟩ : ∃ B, B = w5.heap.size := ⟨_, rfl⟩
  rw [← hB] at hRR hBB sd9 hcv hg5
  have HBg : Hid (w.heap.size ≤ B) := by show _ ≤ _; rw [HG.out]; omega
  clear hTx hb5 hB4 sd6 ht5 hdt hR6 hb6 hB5 sd7 hB6 sd8 hin hB
  go_wp2
  refine bodyPost_ret (v := .agg #[.slice (some ⟨B, 0, none⟩) L c6, .int .i64 ((k : Int) - (p : Int))]) (by simp [results, Tryz.results70, go_sem, sd9]) rfl ?_
  exact ⟨_, c6, N, L, k, rfl, HBg.out, hRR, HNX.out, hL9, hk9, hBB⟩
set_option maxHeartbeats 3200000 in
set_option maxRecDepth 100000 in
theorem decimalOf_zero {w : World} {s : Bool} {a b : Option Addr} {n c m d : Nat} {q : Rat} (hq : Rt w s a n c b m d q) (hz : Sz q 20) (hp' : (q.den : Int) = 1) (h0 : q.num.natAbs = 0) :
    Calls Tryz.prog 70 #[.agg #[.bool s, .slice a n c, .slice b m d]] w fun e w' => ∃ (B c' : Nat), e = .returned (.agg #[.slice (some ⟨B, 0, none⟩) 1 c', .int .i64 0]) ∧ w.heap.size ≤ B ∧ Rb w' (some ⟨B, 0, none⟩) 1 c' (dg 1 0) ∧ Below w.heap.size w w' := by
  obtain ⟨p, hpz⟩ : ∃ p : Nat, p = 0 := ⟨_, rfl⟩
  have hp : (q.den : Int) = 2 ^ p := by rw [hp', hpz]; rfl
  have hp9 : p ≤ 1100 := by omega
  have n1 := nm_abs hz (by omega)
  have n2 := nm_den hz (by omega)
  have hZ := fun w' (hb : Below w.heap.size w w') => zerosQ (hq.de.later hb) n2 (b := (p : Int)) (by rw [hp]; exact pow_zeros p)
  have hF := five13_any (k := p) hp9
  have hL : Lt ((q.num.natAbs : Int) * 5 ^ p) 60 := hz.1.mul (l := 40) (pow_lt (b := 5) (m := 1100) (n := p) (by omega) five_big hp9)
  have hM := fun (w' : World) (hb : Below w.heap.size w w') {a2 : Option Addr} {l2 c2 : Nat} {ls : List Int} (hr : RowC w' a2 l2 c2 ls) (hn : Nm ls (5 ^ p)) => mulQ (hq.nu.later hb) hr n1 hn hL (by omega)
  obtain ⟨A, hA⟩ : ∃ A, A = q.num.natAbs := ⟨_, rfl⟩
  rw [← hA] at hL hM n1 h0
  obtain ⟨X, hX⟩ : ∃ X, X = A * 5 ^ p := ⟨_, rfl⟩
  have hX0 : X = 0 := by rw [hX, h0, Nat.zero_mul]
  have hXi : (A : Int) * 5 ^ p = (X : Int) := by rw [hX]; push_cast; rfl
  rw [hXi] at hL hM
  have HX0 : Hid (X = 0) := hX0
  have HP0 : Hid (p = 0) := hpz
  have HL : Hid (Lt (X : Int) 60) := hL
  have st := st_new w (.bool s) (.slice a n c) (.slice b m d) 50
  have hba := alloc_below (w := w) (.cells #[.bool s, .slice a n c, .slice b m d] 50)
  obtain ⟨g, hg⟩ : ∃ g, g = w.heap.size := ⟨_, rfl⟩
  have sd := sd_new (w.alloc (.cells #[.bool s, .slice a n c, .slice b m d] 50)) (.slice none 0 0) (.int .i64 0) 62
  have hbb := alloc_below (w := w.alloc (.cells #[.bool s, .slice a n c, .slice b m d] 50)) (.cells #[.slice none 0 0, .int .i64 0] 62)
  have st2 := st.later hbb
  have hBB : Below w.heap.size w ((w.alloc (.cells #[.bool s, .slice a n c, .slice b m d] 50)).alloc (.cells #[.slice none 0 0, .int .i64 0] 62)) := hba.trans (hbb.mono hba.size)
  have hs1 : (w.alloc (.cells #[.bool s, .slice a n c, .slice b m d] 50)).heap.size = g + 1 := by rw [hg]; simp
  rw [hs1] at sd
  obtain ⟨w0, hw0⟩ : ∃ w0, w0 = (w.alloc (.cells #[.bool s, .slice a n c, .slice b m d] 50)).alloc (.cells #[.slice none 0 0, .int .i64 0] 62) := ⟨_, rfl⟩
  rw [← hw0] at sd hBB st2
  rw [← hg] at st2
  have HG : Hid (w.heap.size = g) := hg.symm
  clear hA hX hXi hL hX0 hpz hp' h0 hba hbb st hs1
  go_enter Tryz.func70, Tryz.ntmps70
  go_wp2_with fail
  rw [← hw0, ← hg]
  refine (hZ w0 hBB).mono ?_
  rintro e w1 ⟨rfl, hb1⟩
  have hB1 := hBB.trans (hb1.mono hBB.size)
  have st3 := st2.later hb1
  have sd3 := sd.later hb1
  clear hZ hw0 hg hb1 hBB st2 sd hq hz hp n2
  go_wp2_with fail
  refine (hF w1).mono ?_
  rintro e w2 ⟨a2, l2, c2, ls2, rfl, r2, m2, hb2⟩
  have hB2 := hB1.trans (hb2.mono hB1.size)
  have st4 := st3.later hb2
  have sd4 := sd3.later hb2
  obtain ⟨p0, p1, p2⟩ := st4.cells
  have hM2 := hM w2 hB2 r2 m2
  clear hF hb2 hB1 st3 sd3 hM n1
  go_wp2_with fail
  refine hM2.mono ?_
  rintro e w3 ⟨a3, l3, c3, ls3, rfl, r3, m3, e3, hb3⟩
  have hB3 := hB2.trans (hb3.mono hB2.size)
  have sd5 := sd4.later hb3
  have HL3 : Hid (l3 ≤ 60) := by
    show _ ≤ _
    have := r3.1.1
    rw [e3.out] at this
    have := HL.out.len
    omega
  have hT := trim10_any r3 m3.ws (by have := HL3.out; omega)
  rw [m3.num] at hT
  clear hM2 hb3 hB2 st4 sd4 p0 p1 p2 r2 m2 r3 m3 e3
  go_wp2_with fail
  refine hT.mono ?_
  rintro e w4 ⟨v4, U4, k, rfl, hU0, hUX, hk0, hU10, hO4, hb4⟩
  have hB4 := hB3.trans (hb4.mono hB3.size)
  have sd6 := sd5.later hb4
  obtain ⟨N, rfl⟩ := Int.eq_ofNat_of_zero_le hU0
  have hk1 : k = 0 := hk0 (by have := HX0.out; omega)
  subst hk1
  have hN1 : N = 0 := by
    have := HX0.out
    rw [this] at hUX
    simp at hUX
    omega
  subst hN1
  have hLN : Lt ((0 : Nat) : Int) 60 := ⟨by omega, by have := HL.out.2; have := HX0.out; subst this; exact HL.out.2⟩
  obtain ⟨a4, c4, rfl, r4⟩ := hO4.readsC
  have m4 := hLN.nm (by omega)
  have hTx := textZero_any r4 m4.ws (b := 10) (by have := hLN.len; have := r4.1.1; omega) (by omega) (by omega) (by rw [m4.num]; rfl)
  clear hT hb4 hB3 sd5 hU0 hUX hk0 hU10 hO4 r4 m4 hLN
  go_wp2_with fail
  refine hTx.mono ?_
  rintro e w5 ⟨rfl, hb5⟩
  have hB5 := hB4.trans (hb5.mono hB4.size)
  have sd7 := sd6.later hb5
  obtain ⟨c6, w6, hcv, hR6, hb6⟩ := bytes13 w5 ⟨#[48]⟩ (dg 1 0) rfl (by rw [dg_len]; omega)
  rw [dg_len] at hcv hR6
  have hB6 := hB5.trans (hb6.mono hB5.size)
  have sd8 := sd7.later hb6
  obtain ⟨p0, p1⟩ := sd8.cells
  obtain ⟨f0, f1⟩ := sd8.frozen
  have sd9 := (sd8.set (.slice (some ⟨w5.heap.size, 0, none⟩) 1 c6) (.int .i64 0)).cells
  have hin := in2 w6 (g + 1) (.slice (some ⟨w5.heap.size, 0, none⟩) 1 c6) (.int .i64 0)
  have hg5 : g + 1 < w5.heap.size := sd7.lt
  have hRR : Rb ((w6.setCell ⟨g + 1, 0, none⟩ (.slice (some ⟨w5.heap.size, 0, none⟩) 1 c6)).setCell ⟨g + 1, 1, none⟩ (.int .i64 0)) (some ⟨w5.heap.size, 0, none⟩) 1 c6 (dg 1 0) := ⟨hR6.1.inn hin (fun _ => off_of (by omega)), hR6.2⟩
  have hBB : Below w.heap.size w ((w6.setCell ⟨g + 1, 0, none⟩ (.slice (some ⟨w5.heap.size, 0, none⟩) 1 c6)).setCell ⟨g + 1, 1, none⟩ (.int .i64 0)) := below_inn hB6 hin (by rw [HG.out]; omega) (Nat.le_refl _)
  obtain ⟨B, hB⟩ : ∃ B, B = w5.heap.size := ⟨_, rfl⟩
  rw [← hB] at hRR hBB sd9 hcv hg5
  have HBg : Hid (w.heap.size ≤ B) := by show _ ≤ _; rw [HG.out]; omega
  clear hTx hb5 hB4 sd6 hR6 hb6 hB5 sd7 hB6 sd8 hin hB
  have HP1 : Hid ((0 : Int) - (p : Int) = 0) := by show _ = _; rw [HP0.out]; rfl
  have hp1 := HP0.out
  subst hp1
  clear HP1
  go_wp2
  refine bodyPost_ret (v := .agg #[.slice (some ⟨B, 0, none⟩) 1 c6, .int .i64 0]) (by simp [results, Tryz.results70, go_sem, sd9]) rfl ?_
  exact ⟨_, c6, rfl, HBg.out, hRR, hBB⟩
end Go.Proofs.YtceecgklgkiffaaGreatDoor

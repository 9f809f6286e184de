import Derived.Lib.ConvBytes
import Derived.Lib.AtoiErrMem
import Derived.Deep.RegionHeld3
import Derived.Below
import Derived.BigQuiet
import Derived.ChangeOld
import Derived.Deep.DeepCutAuto
import Derived.Deep.DeepFit
import Derived.Deep.LoopGhost
import Derived.Deep.QuietTactic
import Derived.Deep.RegionHeldLaw
import Derived.Deep.RegionLaw
import Derived.Deep.RegionWith
import Derived.Defers
import Derived.KernelRfl
import Derived.Laws.BitsAllLaws
import Derived.Laws.CopyRow
import Derived.Laws.EntriesVeiled
import Derived.Laws.IdiomCopy
import Derived.Laws.IdiomRangeMap
import Derived.Laws.IdiomStrings
import Derived.Laws.RangeAny
import Derived.Laws.Strings3
import Derived.Lib.BytesEntry
import Derived.Lib.MakeNoZero
import Derived.Lib.OthersKept
import Derived.Lib.Strings
import Derived.Lib.TrimByte
import Derived.Lib.Walk
import Derived.OpenShut
import Derived.Orders
import Derived.OwnWalk
import Derived.ProofKit
import Derived.Recover
import Derived.Scope
import Derived.ShutString
import Derived.WalkKit
import Derived.WalkLawsBesides
import Derived.WalkMore
import Derived.WalkSpells
import Derived.Test.YtceecgklgkiffaaGreatDoorXf1
import Derived.Test.YtceecgklgkiffaaGreatDoorXf3
import Derived.Test.YtceecgklgkiffaaGreatDoorXf10
import Derived.Test.YtceecgklgkiffaaGreatDoorXf12
import Derived.Test.YtceecgklgkiffaaGreatDoorXf14
import Derived.Test.YtceecgklgkiffaaGreatDoorXf15
import Derived.Test.YtceecgklgkiffaaGreatDoorXf16
import Derived.Test.YtceecgklgkiffaaGreatDoorXf17
/- Layer 13: decimalOf, sizeOf, top, Digits. -/
namespace Go.Proofs.YtceecgklgkiffaaGreatDoor
open Go.ChangeShapes Go.WideShapes Go.ChangeAt Go.RowKit
open Na Ar Ep
set_option linter.unusedVariables false
/-- a struct of two cells -/
def Sd (w : World) (g : Nat) (t : TypeId) (x y : Value) : Prop := w.heap[g]? = some (.cells #[x, y] t (0, 0))
section
variable {w w' : World} {g : Nat} {t : TypeId} {x y : Value}
theorem Sd.lt (h : Sd w g t x y) : g < w.heap.size := by
  by_cases hlt : g < w.heap.size
  · exact hlt
  · unfold Sd at h; simp [Array.getElem?_eq_none (Nat.le_of_not_lt hlt)] at h
theorem Sd.later (h : Sd w g t x y) (hb : Below w.heap.size w w') : Sd w' g t x y := by
  unfold Sd
  rw [hb.block g h.lt]
  exact h
theorem Sd.cells (h : Sd w g t x y) : w.cell? ⟨g, 0, none⟩ = some x ∧ w.cell? ⟨g, 1, none⟩ = some y := by
  unfold Sd at h
  simp [World.cell?, h]
theorem Sd.frozen (h : Sd w g t x y) : w.frozen? ⟨g, 0, none⟩ = false ∧ w.frozen? ⟨g, 1, none⟩ = false := by
  unfold Sd at h
  simp [World.frozen?, h]
theorem sd_new (w : World) (x y : Value) (t : TypeId) : Sd (w.alloc (.cells #[x, y] t)) w.heap.size t x y := heap_alloc_new _ _
theorem Sd.set (h : Sd w g t x y) (x' y' : Value) : Sd ((w.setCell ⟨g, 0, none⟩ x').setCell ⟨g, 1, none⟩ y') g t x' y' :=
  set_block (set_block h)
theorem in2 (w : World) (g : Nat) (x' y' : Value) : In g (g + 1) w ((w.setCell ⟨g, 0, none⟩ x').setCell ⟨g, 1, none⟩ y') := ((In.refl g (g + 1) w).set1 0 _).set1 1 _
end
namespace Ep
theorem text10 {X : Int} {t : ByteArray} {N L : Nat} (h : TextIs X 10 t) (hX : X = (N : Int)) (h1 : 1 ≤ L) (h2 : 10 ^ (L - 1) ≤ N) (h3 : N < 10 ^ L) : t.data.toList = dg L N := by
  obtain ⟨d, rfl⟩ : ∃ d, L = d + 1 := ⟨L - 1, by omega⟩
  have e := text_bytes h (by omega) (by omega) (d := d) (by rw [hX]; exact_mod_cast h2) (by rw [hX]; exact_mod_cast h3)
  rw [e, hX]
  have key : ∀ (m X : Nat), bytesOf (laidD 10 m (X : Int)) = dg m X := fun m => by
    induction m with
    | zero => intro X; rfl
    | succ m ih =>
      intro X
      have e1 : laidD 10 (m + 1) (X : Int) = laidD 10 m ((X : Int) / 10) ++ [dch ((X : Int) % 10)] := rfl
      have e2 : dg (m + 1) X = dg m (X / 10) ++ [UInt8.ofNat (48 + X % 10)] := rfl
      have e3 : ((X : Int) / 10) = ((X / 10 : Nat) : Int) := by omega
      rw [e1, e2, e3, ← ih]
      unfold bytesOf
      rw [List.map_append]
      congr 1
      simp only [List.map_cons, List.map_nil]
      have : dch ((X : Int) % 10) = ((48 + X % 10 : Nat) : Int) := by unfold dch; rw [if_pos (by omega)]; omega
      rw [this, Int.toNat_natCast]
  exact key _ _
end Ep
/-- a text as a slice of bytes -/
theorem bytes13 (w : World) (t : ByteArray) (l : List UInt8) (ht : t.data.toList = l) (hl : l.length ≤ 1000000) : ∃ (c : Nat) (w' : World), (convert 9 60 (.string t)).run Tryz.prog w = .ok (.slice (some ⟨w.heap.size, 0, none⟩) l.length c) w' ∧ Rb w' (some ⟨w.heap.size, 0, none⟩) l.length c l ∧ Below w.heap.size w w' := by
  have hs : t.size = l.length := by rw [Lib.size_eq, ht]
  have hr := Lib.run_convert_string_bytes (P := Tryz.prog) w 9 60 5 t (u := .string) Tryz.underlying9 Tryz.underlying60 Tryz.underlying5
  have hge := grownCap_ge w t.size 0 5
  have hle := grownCap_le_maxLen w t.size 0 5 (by unfold maxLen; omega)
  have hb := Lib.bytesWorld_below w 5 t
  rw [hs] at hr hge hle
  refine ⟨_, _, hr, ⟨⟨nz_len l, ?_⟩, by omega, by unfold maxLen at hle; omega⟩, hb⟩
  by_cases h0 : l.length = 0
  · exact Or.inl h0
  · refine Or.inr ⟨w.heap.size, 0, rfl, ?_, fun i hi => ?_⟩
    · have := Lib.bytesWorld_cell w 5 t 0 (by omega)
      exact World.block_lt_of_cell? _ _ this
    · rw [nz_at, Nat.zero_add, Lib.bytesWorld_cell w 5 t i (by omega), ht]
theorem five13_any {k : Nat} (h : k ≤ 1100) (w : World) :
    Calls Tryz.prog 109 #[.int .i64 (k : Int)] w fun e w' => ∃ a l c ls, e = .returned (.tuple #[.slice a l c, .int .i64 0]) ∧ RowC w' a l c ls ∧ Nm ls (5 ^ k) ∧ Below w.heap.size w w' := by
  have f := five_any (k : Int) (by omega) (by omega) w
  have E1 : pwE 112899 (k : Int) = 0 := by unfold pwE; rw [if_neg (by omega), if_neg (by omega)]
  have E2 : pwL 5 112899 (k : Int) = words (5 ^ k) := by unfold pwL; rw [if_neg (by omega), if_neg (by omega), Int.toNat_natCast]
  rw [E1, E2] at f
  refine f.mono ?_
  rintro e w' ⟨v, rfl, ho, hb⟩
  obtain ⟨a, c, rfl, hr⟩ := ho.readsC
  exact ⟨a, _, c, _, rfl, hr, (five_lt (by omega)).nm (by omega), hb⟩
namespace Ep
theorem five_big : Nat.blt ((5 : Nat) ^ (1100 : Nat)) ((18446744073709551616 : Nat) ^ (40 : Nat)) = true := by kernel_rfl
def k60 : Nat := 60
def t1300 : Nat := 1300
theorem ten_big : Nat.blt ((18446744073709551616 : Nat) ^ k60) ((10 : Nat) ^ t1300) = true := by kernel_rfl
theorem lt_ten {X k : Nat} (h : Lt (X : Int) 60) (h1 : 10 ^ k ≤ X) : k < 1300 := by
  have e : t1300 = 1300 := rfl
  rw [← e]
  by_cases q : k < t1300
  · exact q
  · exfalso
    have h' : Lt (X : Int) k60 := h
    have a : (X : Int) < ((18446744073709551616 ^ k60 : Nat) : Int) := by
      have := h'.2
      rw [Int.natCast_pow]
      exact this
    have b : 18446744073709551616 ^ k60 < 10 ^ t1300 := by
      have := ten_big
      simpa [Nat.blt_eq] using this
    have c := Nat.pow_le_pow_right (n := 10) (by omega) (show t1300 ≤ k by omega)
    generalize (18446744073709551616 : Nat) ^ k60 = y at *
    generalize (10 : Nat) ^ t1300 = z at *
    generalize (10 : Nat) ^ k = u at *
    omega
theorem pow_le_mul {N k X : Nat} (h : X = N * 10 ^ k) (hN : 0 < N) : 10 ^ k ≤ X := by
  rw [h]
  exact Nat.le_mul_of_pos_left _ hN
theorem le_mul_pow {N k X : Nat} (h : X = N * 10 ^ k) : N ≤ X := by
  rw [h]
  exact Nat.le_mul_of_pos_right _ (Nat.pow_pos (by omega))
end Ep
set_option maxHeartbeats 3200000 in
set_option maxRecDepth 100000 in
theorem decimalOf_any {w : World} {s : Bool} {a b : Option Addr} {n c m d : Nat} {q : Rat} {p : Nat} (hq : Rt w s a n c b m d q) (hz : Sz q 20) (hp : (q.den : Int) = 2 ^ p) (hp9 : p ≤ 1100) (h0 : 0 < q.num.natAbs) :
    Calls Tryz.prog 70 #[.agg #[.bool s, .slice a n c, .slice b m d]] w fun e w' => ∃ (B c' N L k : Nat), e = .returned (.agg #[.slice (some ⟨B, 0, none⟩) L c', .int .i64 ((k : Int) - (p : Int))]) ∧ w.heap.size ≤ B ∧ Rb w' (some ⟨B, 0, none⟩) L c' (dg L N) ∧ (q.num.natAbs * 5 ^ p = N * 10 ^ k ∧ 1 ≤ L ∧ 10 ^ (L - 1) ≤ N ∧ N < 10 ^ L ∧ N % 10 ≠ 0) ∧ L ≤ 1300 ∧ k < 1300 ∧ Below w.heap.size w w' := by
  have n1 := nm_abs hz (by omega)
  have n2 := nm_den hz (by omega)
  have hZ := fun w' (hb : Below w.heap.size w w') => zerosQ (hq.de.later hb) n2 (b := (p : Int)) (by rw [hp]; exact pow_zeros p)
  have hF := five13_any (k := p) hp9
  have hL : Lt ((q.num.natAbs : Int) * 5 ^ p) 60 := hz.1.mul (l := 40) (pow_lt (b := 5) (m := 1100) (n := p) (by omega) five_big hp9)
  have hM := fun (w' : World) (hb : Below w.heap.size w w') {a2 : Option Addr} {l2 c2 : Nat} {ls : List Int} (hr : RowC w' a2 l2 c2 ls) (hn : Nm ls (5 ^ p)) => mulQ (hq.nu.later hb) hr n1 hn hL (by omega)
  obtain ⟨A, hA⟩ : ∃ A, A = q.num.natAbs := ⟨_, rfl⟩
  rw [← hA] at hL hM n1 h0
  rw [← hA]
  obtain ⟨X, hX⟩ : ∃ X, X = A * 5 ^ p := ⟨_, rfl⟩
  have hX0 : 0 < X := by rw [hX]; exact Nat.mul_pos h0 (Nat.pow_pos (by omega))
  have hXi : (A : Int) * 5 ^ p = (X : Int) := by rw [hX]; push_cast; rfl
  rw [hXi] at hL hM
  rw [← hX]
  have HL : Hid (Lt (X : Int) 60) := hL
  have st := st_new w (.bool s) (.slice a n c) (.slice b m d) 50
  have hba := alloc_below (w := w) (.cells #[.bool s, .slice a n c, .slice b m d] 50)
  obtain ⟨g, hg⟩ : ∃ g, g = w.heap.size := ⟨_, rfl⟩
  have sd := sd_new (w.alloc (.cells #[.bool s, .slice a n c, .slice b m d] 50)) (.slice none 0 0) (.int .i64 0) 62
  have hbb := alloc_below (w := w.alloc (.cells #[.bool s, .slice a n c, .slice b m d] 50)) (.cells #[.slice none 0 0, .int .i64 0] 62)
  have st2 := st.later hbb
  have hBB : Below w.heap.size w ((w.alloc (.cells #[.bool s, .slice a n c, .slice b m d] 50)).alloc (.cells #[.slice none 0 0, .int .i64 0] 62)) := hba.trans (hbb.mono hba.size)
  have hs1 : (w.alloc (.cells #[.bool s, .slice a n c, .slice b m d] 50)).heap.size = g + 1 := by rw [hg]; simp
  rw [hs1] at sd
  obtain ⟨w0, hw0⟩ : ∃ w0, w0 = (w.alloc (.cells #[.bool s, .slice a n c, .slice b m d] 50)).alloc (.cells #[.slice none 0 0, .int .i64 0] 62) := ⟨_, rfl⟩
  rw [← hw0] at sd hBB st2
  rw [← hg] at st2
  have HG : Hid (w.heap.size = g) := hg.symm
  clear hA hX hXi hL hba hbb st hs1
  go_enter Tryz.func70, Tryz.ntmps70
  go_wp2_with fail
  rw [← hw0, ← hg]
  refine (hZ w0 hBB).mono ?_
  rintro e w1 ⟨rfl, hb1⟩
  have hB1 := hBB.trans (hb1.mono hBB.size)
  have st3 := st2.later hb1
  have sd3 := sd.later hb1
  clear hZ hw0 hg hb1 hBB st2 sd hq hz hp n2
  go_wp2_with fail
  refine (hF w1).mono ?_
  rintro e w2 ⟨a2, l2, c2, ls2, rfl, r2, m2, hb2⟩
  have hB2 := hB1.trans (hb2.mono hB1.size)
  have st4 := st3.later hb2
  have sd4 := sd3.later hb2
  obtain ⟨p0, p1, p2⟩ := st4.cells
  have hM2 := hM w2 hB2 r2 m2
  clear hF hb2 hB1 st3 sd3 hM n1
  go_wp2_with fail
  refine hM2.mono ?_
  rintro e w3 ⟨a3, l3, c3, ls3, rfl, r3, m3, e3, hb3⟩
  have hB3 := hB2.trans (hb3.mono hB2.size)
  have sd5 := sd4.later hb3
  have HL3 : Hid (l3 ≤ 60) := by
    show _ ≤ _
    have := r3.1.1
    rw [e3.out] at this
    have := HL.out.len
    omega
  have hT := trim10_any r3 m3.ws (by have := HL3.out; omega)
  rw [m3.num] at hT
  clear hM2 hb3 hB2 st4 sd4 p0 p1 p2 r2 m2 r3 m3 e3
  go_wp2_with fail
  refine hT.mono ?_
  rintro e w4 ⟨v4, U4, k, rfl, hU0, hUX, hk0, hU10, hO4, hb4⟩
  have hB4 := hB3.trans (hb4.mono hB3.size)
  have sd6 := sd5.later hb4
  obtain ⟨N, rfl⟩ := Int.eq_ofNat_of_zero_le hU0
  have hNX : X = N * 10 ^ k := by exact_mod_cast hUX
  have hN10 : N % 10 ≠ 0 := by have := hU10 (by omega); omega
  have hN0 : 0 < N := by
    rcases Nat.eq_zero_or_pos N with z | z
    · rw [z] at hN10; exact absurd rfl hN10
    · exact z
  obtain ⟨L, hL1, hLo, hLi⟩ := digits_of N hN0
  have hk9 : k < 1300 := lt_ten HL.out (pow_le_mul hNX hN0)
  have hL9 : L ≤ 1300 := by
    have := lt_ten HL.out (Nat.le_trans hLo (le_mul_pow hNX))
    omega
  have hLN : Lt (N : Int) 60 := HL.out.le (by omega) (by exact_mod_cast le_mul_pow hNX)
  obtain ⟨a4, c4, rfl, r4⟩ := hO4.readsC
  have m4 := hLN.nm (by omega)
  have hTx := text_any r4 m4.ws (b := 10) (by have := hLN.len; have := r4.1.1; omega) (by omega) (by omega) (by rw [m4.num]; have := hLN.len; omega) (by rw [m4.num]; omega)
  rw [m4.num] at hTx
  have HNX : Hid (X = N * 10 ^ k ∧ 1 ≤ L ∧ 10 ^ (L - 1) ≤ N ∧ N < 10 ^ L ∧ N % 10 ≠ 0) := ⟨hNX, hL1, hLo, hLi, hN10⟩
  clear hT hb4 hB3 sd5 hU0 hUX hk0 hU10 hO4 r4 m4 hLN hNX hN10 hLo hLi hN0 hX0 h0
  go_wp2_with fail
  refine hTx.mono ?_
  rintro e w5 ⟨t5, rfl, ht5, hb5⟩
  have hB5 := hB4.trans (hb5.mono hB4.size)
  have sd7 := sd6.later hb5
  have hdt := text10 ht5 rfl HNX.out.2.1 HNX.out.2.2.1 HNX.out.2.2.2.1
  obtain ⟨c6, w6, hcv, hR6, hb6⟩ := bytes13 w5 t5 _ hdt (by rw [dg_len]; omega)
  rw [dg_len] at hcv hR6
  have hB6 := hB5.trans (hb6.mono hB5.size)
  have sd8 := sd7.later hb6
  obtain ⟨p0, p1⟩ := sd8.cells
  obtain ⟨f0, f1⟩ := sd8.frozen
  have sd9 := (sd8.set (.slice (some ⟨w5.heap.size, 0, none⟩) L c6) (.int .i64 ((k : Int) - (p : Int)))).cells
  have hin := in2 w6 (g + 1) (.slice (some ⟨w5.heap.size, 0, none⟩) L c6) (.int .i64 ((k : Int) - (p : Int)))
  have hg5 : g + 1 < w5.heap.size := sd7.lt
  have hRR : Rb ((w6.setCell ⟨g + 1, 0, none⟩ (.slice (some ⟨w5.heap.size, 0, none⟩) L c6)).setCell ⟨g + 1, 1, none⟩ (.int .i64 ((k : Int) - (p : Int)))) (some ⟨w5.heap.size, 0, none⟩) L c6 (dg L N) := ⟨hR6.1.inn hin (fun _ => off_of (by omega)), hR6.2⟩
  have hBB : Below w.heap.size w ((w6.setCell ⟨g + 1, 0, none⟩ (.slice (some ⟨w5.heap.size, 0, none⟩) L c6)).setCell ⟨g + 1, 1, none⟩ (.int .i64 ((k : Int) - (p : Int)))) := below_inn hB6 hin (by rw [HG.out]; omega) (Nat.le_refl _)
  obtain ⟨B, hB⟩ : ∃ B, B = w5.heap.size := ⟨_, rfl⟩
  rw [← hB] at hRR hBB sd9 hcv hg5
  have HBg : Hid (w.heap.size ≤ B) := by show _ ≤ _; rw [HG.out]; omega
  clear hTx hb5 hB4 sd6 ht5 hdt hR6 hb6 hB5 sd7 hB6 sd8 hin hB
  go_wp2
  refine bodyPost_ret (v := .agg #[.slice (some ⟨B, 0, none⟩) L c6, .int .i64 ((k : Int) - (p : Int))]) (by simp [results, Tryz.results70, go_sem, sd9]) rfl ?_
  exact ⟨_, c6, N, L, k, rfl, HBg.out, hRR, HNX.out, hL9, hk9, hBB⟩
set_option maxHeartbeats 3200000 in
set_option maxRecDepth 100000 in
theorem decimalOf_zero {w : World} {s : Bool} {a b : Option Addr} {n c m d : Nat} {q : Rat} (hq : Rt w s a n c b m d q) (hz : Sz q 20) (hp' : (q.den : Int) = 1) (h0 : q.num.natAbs = 0) :
    Calls Tryz.prog 70 #[.agg #[.bool s, .slice a n c, .slice b m d]] w fun e w' => ∃ (B c' : Nat), e = .returned (.agg #[.slice (some ⟨B, 0, none⟩) 1 c', .int .i64 0]) ∧ w.heap.size ≤ B ∧ Rb w' (some ⟨B, 0, none⟩) 1 c' (dg 1 0) ∧ Below w.heap.size w w' := by
  obtain ⟨p, hpz⟩ : ∃ p : Nat, p = 0 := ⟨_, rfl⟩
  have hp : (q.den : Int) = 2 ^ p := by rw [hp', hpz]; rfl
  have hp9 : p ≤ 1100 := by omega
  have n1 := nm_abs hz (by omega)
  have n2 := nm_den hz (by omega)
  have hZ := fun w' (hb : Below w.heap.size w w') => zerosQ (hq.de.later hb) n2 (b := (p : Int)) (by rw [hp]; exact pow_zeros p)
  have hF := five13_any (k := p) hp9
  have hL : Lt ((q.num.natAbs : Int) * 5 ^ p) 60 := hz.1.mul (l := 40) (pow_lt (b := 5) (m := 1100) (n := p) (by omega) five_big hp9)
  have hM := fun (w' : World) (hb : Below w.heap.size w w') {a2 : Option Addr} {l2 c2 : Nat} {ls : List Int} (hr : RowC w' a2 l2 c2 ls) (hn : Nm ls (5 ^ p)) => mulQ (hq.nu.later hb) hr n1 hn hL (by omega)
  obtain ⟨A, hA⟩ : ∃ A, A = q.num.natAbs := ⟨_, rfl⟩
  rw [← hA] at hL hM n1 h0
  obtain ⟨X, hX⟩ : ∃ X, X = A * 5 ^ p := ⟨_, rfl⟩
  have hX0 : X = 0 := by rw [hX, h0, Nat.zero_mul]
  have hXi : (A : Int) * 5 ^ p = (X : Int) := by rw [hX]; push_cast; rfl
  rw [hXi] at hL hM
  have HX0 : Hid (X = 0) := hX0
  have HP0 : Hid (p = 0) := hpz
  have HL : Hid (Lt (X : Int) 60) := hL
  have st := st_new w (.bool s) (.slice a n c) (.slice b m d) 50
  have hba := alloc_below (w := w) (.cells #[.bool s, .slice a n c, .slice b m d] 50)
  obtain ⟨g, hg⟩ : ∃ g, g = w.heap.size := ⟨_, rfl⟩
  have sd := sd_new (w.alloc (.cells #[.bool s, .slice a n c, .slice b m d] 50)) (.slice none 0 0) (.int .i64 0) 62
  have hbb := alloc_below (w := w.alloc (.cells #[.bool s, .slice a n c, .slice b m d] 50)) (.cells #[.slice none 0 0, .int .i64 0] 62)
  have st2 := st.later hbb
  have hBB : Below w.heap.size w ((w.alloc (.cells #[.bool s, .slice a n c, .slice b m d] 50)).alloc (.cells #[.slice none 0 0, .int .i64 0] 62)) := hba.trans (hbb.mono hba.size)
  have hs1 : (w.alloc (.cells #[.bool s, .slice a n c, .slice b m d] 50)).heap.size = g + 1 := by rw [hg]; simp
  rw [hs1] at sd
  obtain ⟨w0, hw0⟩ : ∃ w0, w0 = (w.alloc (.cells #[.bool s, .slice a n c, .slice b m d] 50)).alloc (.cells #[.slice none 0 0, .int .i64 0] 62) := ⟨_, rfl⟩
  rw [← hw0] at sd hBB st2
  rw [← hg] at st2
  have HG : Hid (w.heap.size = g) := hg.symm
  clear hA hX hXi hL hX0 hpz hp' h0 hba hbb st hs1
  go_enter Tryz.func70, Tryz.ntmps70
  go_wp2_with fail
  rw [← hw0, ← hg]
  refine (hZ w0 hBB).mono ?_
  rintro e w1 ⟨rfl, hb1⟩
  have hB1 := hBB.trans (hb1.mono hBB.size)
  have st3 := st2.later hb1
  have sd3 := sd.later hb1
  clear hZ hw0 hg hb1 hBB st2 sd hq hz hp n2
  go_wp2_with fail
  refine (hF w1).mono ?_
  rintro e w2 ⟨a2, l2, c2, ls2, rfl, r2, m2, hb2⟩
  have hB2 := hB1.trans (hb2.mono hB1.size)
  have st4 := st3.later hb2
  have sd4 := sd3.later hb2
  obtain ⟨p0, p1, p2⟩ := st4.cells
  have hM2 := hM w2 hB2 r2 m2
  clear hF hb2 hB1 st3 sd3 hM n1
  go_wp2_with fail
  refine hM2.mono ?_
  rintro e w3 ⟨a3, l3, c3, ls3, rfl, r3, m3, e3, hb3⟩
  have hB3 := hB2.trans (hb3.mono hB2.size)
  have sd5 := sd4.later hb3
  have HL3 : Hid (l3 ≤ 60) := by
    show _ ≤ _
    have := r3.1.1
    rw [e3.out] at this
    have := HL.out.len
    omega
  have hT := trim10_any r3 m3.ws (by have := HL3.out; omega)
  rw [m3.num] at hT
  clear hM2 hb3 hB2 st4 sd4 p0 p1 p2 r2 m2 r3 m3 e3
  go_wp2_with fail
  refine hT.mono ?_
  rintro e w4 ⟨v4, U4, k, rfl, hU0, hUX, hk0, hU10, hO4, hb4⟩
  have hB4 := hB3.trans (hb4.mono hB3.size)
  have sd6 := sd5.later hb4
  obtain ⟨N, rfl⟩ := Int.eq_ofNat_of_zero_le hU0
  have hk1 : k = 0 := hk0 (by have := HX0.out; omega)
  subst hk1
  have hN1 : N = 0 := by
    have := HX0.out
    rw [this] at hUX
    simp at hUX
    omega
  subst hN1
  have hLN : Lt ((0 : Nat) : Int) 60 := ⟨by omega, by have := HL.out.2; have := HX0.out; subst this; exact HL.out.2⟩
  obtain ⟨a4, c4, rfl, r4⟩ := hO4.readsC
  have m4 := hLN.nm (by omega)
  have hTx := textZero_any r4 m4.ws (b := 10) (by have := hLN.len; have := r4.1.1; omega) (by omega) (by omega) (by rw [m4.num]; rfl)
  clear hT hb4 hB3 sd5 hU0 hUX hk0 hU10 hO4 r4 m4 hLN
  go_wp2_with fail
  refine hTx.mono ?_
  rintro e w5 ⟨rfl, hb5⟩
  have hB5 := hB4.trans (hb5.mono hB4.size)
  have sd7 := sd6.later hb5
  obtain ⟨c6, w6, hcv, hR6, hb6⟩ := bytes13 w5 ⟨#[48]⟩ (dg 1 0) rfl (by rw [dg_len]; omega)
  rw [dg_len] at hcv hR6
  have hB6 := hB5.trans (hb6.mono hB5.size)
  have sd8 := sd7.later hb6
  obtain ⟨p0, p1⟩ := sd8.cells
  obtain ⟨f0, f1⟩ := sd8.frozen
  have sd9 := (sd8.set (.slice (some ⟨w5.heap.size, 0, none⟩) 1 c6) (.int .i64 0)).cells
  have hin := in2 w6 (g + 1) (.slice (some ⟨w5.heap.size, 0, none⟩) 1 c6) (.int .i64 0)
  have hg5 : g + 1 < w5.heap.size := sd7.lt
  have hRR : Rb ((w6.setCell ⟨g + 1, 0, none⟩ (.slice (some ⟨w5.heap.size, 0, none⟩) 1 c6)).setCell ⟨g + 1, 1, none⟩ (.int .i64 0)) (some ⟨w5.heap.size, 0, none⟩) 1 c6 (dg 1 0) := ⟨hR6.1.inn hin (fun _ => off_of (by omega)), hR6.2⟩
  have hBB : Below w.heap.size w ((w6.setCell ⟨g + 1, 0, none⟩ (.slice (some ⟨w5.heap.size, 0, none⟩) 1 c6)).setCell ⟨g + 1, 1, none⟩ (.int .i64 0)) := below_inn hB6 hin (by rw [HG.out]; omega) (Nat.le_refl _)
  obtain ⟨B, hB⟩ : ∃ B, B = w5.heap.size := ⟨_, rfl⟩
  rw [← hB] at hRR hBB sd9 hcv hg5
  have HBg : Hid (w.heap.size ≤ B) := by show _ ≤ _; rw [HG.out]; omega
  clear hTx hb5 hB4 sd6 hR6 hb6 hB5 sd7 hB6 sd8 hin hB
  have HP1 : Hid ((0 : Int) - (p : Int) = 0) := by show _ = _; rw [HP0.out]; rfl
  have hp1 := HP0.out
  subst hp1
  clear HP1
  go_wp2
  refine bodyPost_ret (v := .agg #[.slice (some ⟨B, 0, none⟩) 1 c6, .int .i64 0]) (by simp [results, Tryz.results70, go_sem, sd9]) rfl ?_
  exact ⟨_, c6, rfl, HBg.out, hRR, hBB⟩
end Go.Proofs.YtceecgklgkiffaaGreatDoor

/- Layer 13: sizeOf, top, Digits. -/
namespace Go.Proofs.YtceecgklgkiffaaGreatDoor
open Go.ChangeShapes Go.WideShapes Go.ChangeAt Go.RowKit
open Na Ar Ep
set_option linter.unusedVariables false
namespace Ep
/-- a pattern's size in units of two to the -1074 -/
def szA (b : Int) : Nat := (numW b).toNat
theorem e2_cast (x : Int) : e2 x = ((2 ^ x.toNat : Nat) : Int) := by unfold e2; rw [Int.natCast_pow]; rfl
/-- a pattern's number as a fraction -/
theorem size_parts {b : Int} (hu : U b) (hf : ef b ≠ 2047) : (szA b = 0 ∧ (valR b).num.natAbs = 0 ∧ ((valR b).den : Int) = 1) ∨ (0 < szA b ∧ ∃ p, p ≤ 1074 ∧ ((valR b).den : Int) = 2 ^ p ∧ 0 < (valR b).num.natAbs ∧ szA b = (valR b).num.natAbs * 2 ^ (dX - p)) := by
  obtain ⟨P, e1, e2', e3, e4, e5, e6, e7⟩ := num_parts hu hf
  by_cases h0 : spM b = 0
  · left
    have hn : numW b = 0 := by rw [e7, h0, Int.zero_mul]
    have hv : valR b = ((0 : Int) : Rat) := by rw [binQ_val, h0, binQ_zero]
    refine ⟨by unfold szA; rw [hn]; rfl, ?_, ?_⟩ <;> rw [hv] <;> rfl
  · right
    obtain ⟨k, o, h1, h2, h3, _, _⟩ := two_form (M := spM b) (by omega)
    have hv : valR b = binQ (spS b) o (spX b + k) := by rw [binQ_val, h1, binQ_move _ (by omega)]
    obtain ⟨q1, q2, _⟩ := binQ_odd h2 h3 (spS b) (spX b + k)
    rw [← hv] at q1 q2
    obtain ⟨O, rfl⟩ := Int.eq_ofNat_of_zero_le (Int.le_of_lt h3)
    have hO : 0 < O := by omega
    obtain ⟨y, hy⟩ : ∃ y, y = spX b + (k : Int) := ⟨_, rfl⟩
    rw [← hy] at q1 q2
    have hA : (valR b).num.natAbs = O * 2 ^ y.toNat := by
      rw [e2_cast, ← Int.natCast_mul] at q1
      exact_mod_cast q1
    have hnum : szA b = O * 2 ^ (k + P) := by
      unfold szA
      rw [e7, h1, Nat.pow_add, ← Nat.mul_assoc]
      have : ((O : Int) * 2 ^ k * 2 ^ P) = ((O * 2 ^ k * 2 ^ P : Nat) : Int) := by push_cast; rfl
      rw [this]
      rfl
    refine ⟨by rw [hnum]; exact Nat.mul_pos hO (Nat.pow_pos (by omega)), (-y).toNat, by omega, ?_, ?_, ?_⟩
    · rw [q2]
      rfl
    · rw [hA]; exact Nat.mul_pos hO (Nat.pow_pos (by omega))
    · have hX : dX = 1074 := rfl
      have hs : y.toNat + (dX - (-y).toNat) = k + P := by omega
      rw [hnum, hA, Nat.mul_assoc, ← Nat.pow_add, hs]
/-- all digits of A units; of 0: one digit 0 -/
def Dz (A N L : Nat) (e : Int) : Prop := (A = 0 ∧ N = 0 ∧ L = 1 ∧ e = 0) ∨ (0 < A ∧ Dec A N L e)
theorem dz_uniq {A N L N' L' : Nat} {e e' : Int} (h : Dz A N L e) (h' : Dz A N' L' e') : N = N' ∧ L = L' ∧ e = e' := by
  rcases h with ⟨a, b, c, d⟩ | ⟨a, b⟩ <;> rcases h' with ⟨a', b', c', d'⟩ | ⟨a', b'⟩
  · exact ⟨by omega, by omega, by omega⟩
  · omega
  · omega
  · exact dec_uniq b b'
end Ep
set_option maxHeartbeats 3200000 in
set_option maxRecDepth 100000 in
theorem sizeOf_fin {b : Int} (hu : U b) (hf : ef b ≠ 2047) (w : World) :
    Calls Tryz.prog 30 #[.int .u64 b] w fun e w' => ∃ (B c' N L : Nat) (x : Int), e = .returned (.tuple #[.agg #[.slice (some ⟨B, 0, none⟩) L c', .int .i64 x], .int .i64 0]) ∧ w.heap.size ≤ B ∧ Rb w' (some ⟨B, 0, none⟩) L c' (dg L N) ∧ Dz (szA b) N L x ∧ (1 ≤ L ∧ L ≤ 1300 ∧ -1100 ≤ x ∧ x ≤ 1300) ∧ Below w.heap.size w w' := by
  have hV := fun w => nearValue_fin hu hf w
  have hsz := value_size hu hf
  have hD : ∀ {w : World} {s : Bool} {a b9 : Option Addr} {n c m d : Nat}, Rt w s a n c b9 m d (valR b) → Calls Tryz.prog 70 #[.agg #[.bool s, .slice a n c, .slice b9 m d]] w fun e w' => ∃ (B c' N L : Nat) (x : Int), e = .returned (.agg #[.slice (some ⟨B, 0, none⟩) L c', .int .i64 x]) ∧ w.heap.size ≤ B ∧ Rb w' (some ⟨B, 0, none⟩) L c' (dg L N) ∧ Dz (szA b) N L x ∧ (1 ≤ L ∧ L ≤ 1300 ∧ -1100 ≤ x ∧ x ≤ 1300) ∧ Below w.heap.size w w' := by
    intro w s a b9 n c m d hR
    rcases size_parts hu hf with ⟨z1, z2, z3⟩ | ⟨z0, p, z1, z2, z3, z4⟩
    · refine (decimalOf_zero hR hsz z3 z2).mono ?_
      rintro e w' ⟨a', c', rfl, hB, hr, hb⟩
      exact ⟨a', c', 0, 1, 0, rfl, hB, hr, Or.inl ⟨z1, rfl, rfl, rfl⟩, by omega, hb⟩
    · refine (decimalOf_any hR hsz z2 (by omega) z3).mono ?_
      rintro e w' ⟨a', c', N, L, k, rfl, hB, hr, ⟨h1, h2, h3, h4, h5⟩, h6, h7, hb⟩
      exact ⟨a', c', N, L, _, rfl, hB, hr, Or.inr ⟨z0, dec_of (by have : dX = 1074 := rfl; omega) z4 h1 h2 h3 h4 h5⟩, by omega, hb⟩
  have sd := sd_new w (.slice none 0 0) (.int .i64 0) 62
  have hba := alloc_below (w := w) (.cells #[.slice none 0 0, .int .i64 0] 62)
  obtain ⟨g, hg⟩ : ∃ g, g = w.heap.size := ⟨_, rfl⟩
  have HG : Hid (w.heap.size = g) := hg.symm
  obtain ⟨w0, hw0⟩ : ∃ w0, w0 = w.alloc (.cells #[.slice none 0 0, .int .i64 0] 62) := ⟨_, rfl⟩
  rw [← hw0] at sd hba
  rw [← hg] at sd
  generalize valR b = V at *
  generalize szA b = A at *
  clear hsz hf
  go_enter Tryz.func30, Tryz.ntmps30
  go_wp2_with fail
  rw [← hw0, ← hg]
  refine (hV w0).mono ?_
  rintro e w1 ⟨s1, v1, v2, rfl, hR1, hb1⟩
  obtain ⟨a1, n1, c1, b1, m1, d1, rfl, rfl, hRt⟩ := hR1.opens
  have hB1 := hba.trans (hb1.mono hba.size)
  have sd1 := sd.later hb1
  clear hV hw0 hg hb1 hba sd hR1
  go_wp2_with fail
  have hb2 := alloc_below (w := w1) (.cells #[.bool s1, .slice a1 n1 c1, .slice b1 m1 d1] 50)
  have hB2 := hB1.trans (hb2.mono hB1.size)
  refine (hD (hRt.later hb2)).mono ?_
  rintro e w3 ⟨B3, c3, N, L, x, rfl, hBg, hR3, hDz, hbd, hb3⟩
  have hgB : g < B3 := by have := (sd1.later hb2).lt; omega
  have HBg : Hid (w.heap.size ≤ B3) := by show _ ≤ _; rw [HG.out]; omega
  have hB3 := hB2.trans (hb3.mono hB2.size)
  have sd3 := (sd1.later hb2).later hb3
  obtain ⟨p0, p1⟩ := sd3.cells
  obtain ⟨f0, f1⟩ := sd3.frozen
  have sd9 := (sd3.set (.slice (some ⟨B3, 0, none⟩) L c3) (.int .i64 x)).cells
  have hin := in2 w3 g (.slice (some ⟨B3, 0, none⟩) L c3) (.int .i64 x)
  have hRR : Rb ((w3.setCell ⟨g, 0, none⟩ (.slice (some ⟨B3, 0, none⟩) L c3)).setCell ⟨g, 1, none⟩ (.int .i64 x)) (some ⟨B3, 0, none⟩) L c3 (dg L N) := ⟨hR3.1.inn hin (fun _ => off_of (by omega)), hR3.2⟩
  have hBB : Below w.heap.size w ((w3.setCell ⟨g, 0, none⟩ (.slice (some ⟨B3, 0, none⟩) L c3)).setCell ⟨g, 1, none⟩ (.int .i64 x)) := below_inn hB3 hin (by rw [HG.out]; omega) (Nat.le_refl _)
  clear hD hRt hB1 sd1 hBg hgB hb2 hB2 hb3 hB3 sd3 hR3 hin
  go_wp2
  refine bodyPost_ret (v := .tuple #[.agg #[.slice (some ⟨B3, 0, none⟩) L c3, .int .i64 x], .int .i64 0]) (by simp [results, Tryz.results30, go_sem, sd9]) rfl ?_
  exact ⟨B3, c3, N, L, x, rfl, HBg.out, hRR, hDz, hbd, hBB⟩
set_option maxHeartbeats 1600000 in
set_option maxRecDepth 100000 in
theorem sizeOf_inf {b : Int} (hu : U b) (hf : ef b = 2047) (w : World) :
    Calls Tryz.prog 30 #[.int .u64 b] w fun e w' => e = .returned (.tuple #[.agg #[.slice none 0 0, .int .i64 0], .int .i64 60]) ∧ Below w.heap.size w w' := by
  have hV := fun w => nearValue_inf hu hf w
  have sd := sd_new w (.slice none 0 0) (.int .i64 0) 62
  have hba := alloc_below (w := w) (.cells #[.slice none 0 0, .int .i64 0] 62)
  obtain ⟨g, hg⟩ : ∃ g, g = w.heap.size := ⟨_, rfl⟩
  have HG : Hid (w.heap.size = g) := hg.symm
  obtain ⟨w0, hw0⟩ : ∃ w0, w0 = w.alloc (.cells #[.slice none 0 0, .int .i64 0] 62) := ⟨_, rfl⟩
  rw [← hw0] at sd hba
  rw [← hg] at sd
  clear hf
  go_enter Tryz.func30, Tryz.ntmps30
  go_wp2_with fail
  rw [← hw0, ← hg]
  refine (hV w0).mono ?_
  rintro e w1 ⟨rfl, hb1⟩
  have hB1 := hba.trans (hb1.mono hba.size)
  have sd1 := sd.later hb1
  obtain ⟨q0, q1⟩ := sd1.cells
  obtain ⟨k0, k1⟩ := sd1.frozen
  have hlt : g < w1.heap.size := sd1.lt
  have sd3 := sd1.set (.slice none 0 0) (.int .i64 0)
  have hin := in2 w1 g (.slice none 0 0) (.int .i64 0)
  have hB2 : Below w.heap.size w ((w1.setCell ⟨g, 0, none⟩ (.slice none 0 0)).setCell ⟨g, 1, none⟩ (.int .i64 0)) := below_inn hB1 hin (by rw [HG.out]; omega) (Nat.le_refl _)
  have hb3 := alloc_below (w := (w1.setCell ⟨g, 0, none⟩ (.slice none 0 0)).setCell ⟨g, 1, none⟩ (.int .i64 0)) (.cells #[.bool false, .slice none 0 0, .slice none 0 0] 50)
  have sd9 := (sd3.later hb3).cells
  have hBB := hB2.trans (hb3.mono hB2.size)
  clear hV hw0 hg hb1 hba sd sd1 hin sd3 hb3 hB2
  go_wp2
  refine bodyPost_ret (v := .tuple #[.agg #[.slice none 0 0, .int .i64 0], .int .i64 60]) (by simp [results, Tryz.results30, go_sem, sd9]) rfl ?_
  exact ⟨rfl, hBB⟩
set_option maxHeartbeats 1600000 in
set_option maxRecDepth 100000 in
theorem top13_any {a : Option Addr} {L c : Nat} {x : Int} (hL : L ≤ 4000) (h0 : -5000 ≤ x) (h1 : x ≤ 5000) (w : World) :
    Calls Tryz.prog 33 #[.agg #[.slice a L c, .int .i64 x]] w fun e w' => e = .returned (.int .i64 ((L : Int) + x)) ∧ Below w.heap.size w w' := by
  have hba := alloc_below (w := w) (.cells #[.slice a L c, .int .i64 x] 62)
  have z : (L : Int) ≤ 4000 := by omega
  go_enter Tryz.func33, Tryz.ntmps33
  go_wp2
  go_ret
  exact ⟨rfl, hba⟩
set_option maxHeartbeats 1600000 in
set_option maxRecDepth 100000 in
theorem digits_fin {b : Int} (hu : U b) (hf : ef b ≠ 2047) (w : World) :
    Calls Tryz.prog 22 #[.int .u64 b] w fun e w' => ∃ (N L : Nat) (x : Int), e = .returned (.tuple #[.string ⟨(dg L N).toArray⟩, .int .i64 x, .int .i64 0]) ∧ Dz (szA b) N L x ∧ (1 ≤ L ∧ L ≤ 1300 ∧ -1100 ≤ x ∧ x ≤ 1300) ∧ Below w.heap.size w w' := by
  have hS := fun w => sizeOf_fin hu hf w
  generalize szA b = A at *
  clear hf
  go_enter Tryz.func22, Tryz.ntmps22
  go_wp2_with fail
  refine (hS w).mono ?_
  rintro e w1 ⟨B, c, N, L, x, rfl, hBg, hR, hD, hbd, hb1⟩
  have hba := alloc_below (w := w1) (.cells #[.slice (some ⟨B, 0, none⟩) L c, .int .i64 x] 62)
  have sd := sd_new w1 (.slice (some ⟨B, 0, none⟩) L c) (.int .i64 x) 62
  have hR1 := hR.later hba
  have hB1 := hb1.trans (hba.mono hb1.size)
  have hcv := conv8 hR1
  have hcv1 : (convert 60 9 (.slice (some ⟨B, 0, none⟩) L c)).run Tryz.prog (w1.alloc (.cells #[.slice (some ⟨B, 0, none⟩) L c, .int .i64 x] 62)).drew = .ok (.string ⟨(dg L N).toArray⟩) (w1.alloc (.cells #[.slice (some ⟨B, 0, none⟩) L c, .int .i64 x] 62)).drew := conv8 (hR1.later ⟨rfl, rfl, rfl, Nat.le_refl _, fun _ _ => rfl⟩)
  have hB2 : Below w.heap.size w (w1.alloc (.cells #[.slice (some ⟨B, 0, none⟩) L c, .int .i64 x] 62)).drew := hB1.trans ⟨rfl, rfl, rfl, Nat.le_refl _, fun _ _ => rfl⟩
  obtain ⟨p0, p1⟩ := sd.cells
  obtain ⟨DL, hDL⟩ : ∃ DL, DL = dg L N := ⟨_, rfl⟩
  have HDL : Hid (dg L N = DL) := hDL.symm
  rw [← hDL] at hcv hcv1
  clear hDL
  clear hS hR hR1 hb1 hba sd
  go_wp2
  go_region
  all_goals
    go_wp2
    refine bodyPost_ret (v := .tuple #[.string ⟨DL.toArray⟩, .int .i64 x, .int .i64 0]) (by simp [results, Tryz.results22, go_sem]) rfl ?_
    exact ⟨N, L, x, by rw [HDL.out], hD, hbd, hB2⟩
end Go.Proofs.YtceecgklgkiffaaGreatDoor

/- Layer 13: Fixed. -/
namespace Go.Proofs.YtceecgklgkiffaaGreatDoor
open Go.ChangeShapes Go.WideShapes Go.ChangeAt Go.RowKit
open Na Ar Ep
set_option linter.unusedVariables false
namespace Ep
theorem fxR_zero (n : Nat) : fxR 0 n = 0 := by
  unfold fxR rq up
  rw [Nat.zero_mul, Nat.zero_mod, Nat.zero_div, decide_eq_false (by omega), decide_eq_false (p := 2 * 0 = dT) (by have := dT_pos; omega)]
  rfl
/-- how Fixed rounds: which row, how long -/
theorem fix_plan {A N L n : Nat} {x : Int} (h : Dz A N L x) (hL : 1 ≤ L ∧ L ≤ 1300 ∧ -1100 ≤ x ∧ x ≤ 1300) (hn : n ≤ 1100) :
    ∃ l, l ≤ 4000 ∧ fxR A n < 10 ^ l ∧ Mok (fxR A n) n (max l (n + 1)) ∧ (((L : Int) + x + n < 0 ∧ l = 0 ∧ fxR A n = 0) ∨ ∃ T : Nat, T ≤ 4000 ∧ (L : Int) + x + n = T ∧ rw13 L N T = dg l (fxR A n) ∧ N < 10 ^ L ∧ (N % 10 ≠ 0 ∨ L ≤ T)) := by
  rcases h with ⟨rfl, rfl, rfl, rfl⟩ | ⟨h0, hd⟩
  · rw [fxR_zero]
    have p := Nat.pow_pos (n := n + 1) (show 0 < 10 by omega)
    refine ⟨n + 1, by omega, p, Or.inl ⟨by omega, p⟩, Or.inr ⟨n + 1, by omega, by omega, ?_, by omega, Or.inr (by omega)⟩⟩
    unfold rw13
    have : rn 1 0 (n + 1) = 0 := by unfold rn; rw [if_pos (by omega), Nat.zero_mul]
    rw [this, if_pos p]
  · obtain ⟨f1, f2⟩ := dec_fixed (n := n) hd
    by_cases hneg : (L : Int) + x + n < 0
    · have := f2 hneg
      rw [this]
      exact ⟨0, by omega, by omega, Or.inl ⟨by omega, Nat.pow_pos (by omega)⟩, Or.inl ⟨hneg, rfl, rfl⟩⟩
    · obtain ⟨T, hT⟩ : ∃ T : Nat, (L : Int) + x + n = T := ⟨((L : Int) + x + n).toNat, by omega⟩
      have hr := f1 T hT
      have hf := rl_fits (t := T) hd.hi
      have hm := mok_of (t := T) (n := n) hd.L1 hd.lo hd.hi
      rw [hr] at hf hm
      refine ⟨rl L N T, by omega, hf.1, hm, Or.inr ⟨T, by omega, hT, ?_, hd.hi, Or.inl hd.last⟩⟩
      unfold rw13 rl
      rw [hr]
theorem ptL_len {M W n : Nat} (h : n + 1 ≤ M) : (ptL M W n).length ≤ M + 1 := by
  unfold ptL
  split
  · rw [dg_len]; omega
  · rw [List.length_append, List.length_cons, dg_len, dg_len]; omega
def sgL (s : Bool) : List UInt8 := if s = true then [45] else []
theorem minus_app (l : List UInt8) : (⟨#[45]⟩ : ByteArray) ++ ⟨l.toArray⟩ = ⟨(sgL true ++ l).toArray⟩ := by
  apply ByteArray.ext
  simp [sgL]
end Ep
set_option maxHeartbeats 3200000 in
set_option maxRecDepth 100000 in
theorem fixed_fin {b : Int} {n : Nat} (hu : U b) (hf : ef b ≠ 2047) (hn : n ≤ 1100) (w : World) :
    Calls Tryz.prog 12 #[.int .u64 b, .int .i64 (n : Int)] w fun e w' => ∃ M, Mok (fxR (szA b) n) n M ∧ M ≤ 4000 ∧ e = .returned (.tuple #[.string ⟨(sgL (spS b) ++ ptL M (fxR (szA b) n) n).toArray⟩, .int .i64 0]) ∧ Below w.heap.size w w' := by
  have hS := fun w => sizeOf_fin hu hf w
  have hSp := fun w => f6Split_any hu w
  have z0 : (n : Int) ≤ 1100 := by omega
  have hE : fiE b = 0 := by unfold fiE; rw [if_neg hf]
  rw [hE] at hSp
  generalize szA b = A at *
  generalize spS b = sS at *
  clear hf hE
  go_enter Tryz.func12, Tryz.ntmps12
  go_wp2_with fail
  refine (hS w).mono ?_
  rintro e w1 ⟨B, c, N, L, x, rfl, hBg, hR, hD, hbd, hb1⟩
  obtain ⟨l, hl, hRl, hM, hrow⟩ := fix_plan hD hbd hn
  have hba := alloc_below (w := w1) (.cells #[.slice (some ⟨B, 0, none⟩) L c, .int .i64 x] 62)
  have sd := sd_new w1 (.slice (some ⟨B, 0, none⟩) L c) (.int .i64 x) 62
  have hR1 := hR.later hba
  have hB1 := hb1.trans (hba.mono hb1.size)
  obtain ⟨g, hg⟩ : ∃ g, g = w1.heap.size := ⟨_, rfl⟩
  obtain ⟨W, hW⟩ : ∃ W, W = w1.alloc (.cells #[.slice (some ⟨B, 0, none⟩) L c, .int .i64 x] 62) := ⟨_, rfl⟩
  rw [← hW] at sd hR1 hB1
  rw [← hg] at sd
  obtain ⟨R, hRR⟩ : ∃ R, R = fxR A n := ⟨_, rfl⟩
  rw [← hRR] at hM hRl hrow
  have HRR : Hid (fxR A n = R) := hRR.symm
  have hT : ∀ {w9 : World}, Below W.heap.size W w9 → Calls Tryz.prog 33 #[.agg #[.slice (some ⟨B, 0, none⟩) L c, .int .i64 x]] w9 fun e w' => e = .returned (.int .i64 ((L : Int) + x)) ∧ Below W.heap.size W w' := fun {w9} hb => (top13_any (by omega) (by omega) (by omega) w9).mono fun e w' h => ⟨h.1, hb.trans (h.2.mono hb.size)⟩
  have hRd : ∀ {w9 : World}, Below W.heap.size W w9 → Calls Tryz.prog 32 #[.slice (some ⟨B, 0, none⟩) L c, .int .i64 ((L : Int) + x + (n : Int))] w9 fun e w' => ∃ a' c', e = .returned (.slice a' l c') ∧ Rb w' a' l c' (dg l R) ∧ Below W.heap.size W w' := fun {w9} hb => by
    rcases hrow with ⟨t1, t2, t3⟩ | ⟨T, t1, t2, t3, t4, t5⟩
    · refine (rounded13_neg t1 w9).mono ?_
      rintro e w' ⟨rfl, rfl⟩
      subst t2
      exact ⟨none, 0, rfl, Rb.nil _ _ _ (by omega), hb⟩
    · rw [t2]
      refine (rounded13_any (hR1.later hb) hbd.1 (by omega) t1 t4 t5).mono ?_
      rintro e w' ⟨a', n', c', rfl, hr, hb'⟩
      rw [t3] at hr
      have := hr.len
      rw [dg_len] at this
      subst this
      exact ⟨a', c', rfl, hr, hb.trans (hb'.mono hb.size)⟩
  rw [show (L : Int) + x + (n : Int) = IntKind.i64.wrap ((L : Int) + x + (n : Int)) from (IntWalk.i64_in _ (by omega)).symm] at hRd
  have hPt : ∀ {w9 : World} {a : Option Addr} {c : Nat}, Rb w9 a l c (dg l R) → Below W.heap.size W w9 → Calls Tryz.prog 31 #[.slice a l c, .int .i64 (n : Int)] w9 fun e w' => e = .returned (.string ⟨(ptL (max l (n + 1)) R n).toArray⟩) ∧ Below W.heap.size W w' := fun {w9 a c} hr hb => (pointed13_any hr hRl hl (by omega) rfl).mono fun e w' h => ⟨h.1, hb.trans (h.2.mono hb.size)⟩
  have hcl : ∀ w', Below W.heap.size W w' → w'.cell? ⟨g, 0, none⟩ = some (.slice (some ⟨B, 0, none⟩) L c) ∧ w'.cell? ⟨g, 1, none⟩ = some (.int .i64 x) := fun w' hb => (sd.later hb).cells
  obtain ⟨p0, p1⟩ := hcl W (Below.refl _ _)
  have q1 : (L : Int) ≤ 1300 := by omega
  have q2 : -1100 ≤ x := by omega
  have q3 : x ≤ 1300 := by omega
  have HMok : Hid (Mok (fxR A n) n (max l (n + 1))) := by show Mok _ _ _; rw [HRR.out]; exact hM
  have hlen : (ptL (max l (n + 1)) R n).length ≤ 5000 := by have := ptL_len (W := R) (n := n) (M := max l (n + 1)) (by omega); omega
  generalize hPP : ptL (max l (n + 1)) R n = PP at hPt hlen
  have HPP : Hid (ptL (max l (n + 1)) (fxR A n) n = PP) := by show _ = _; rw [HRR.out]; exact hPP
  have hg0 : g < W.heap.size := sd.lt
  clear hS hR hR1 hba hb1 sd hrow hRl hM hRR hPP hbd
  go_wp2_with fail
  rw [← hW, ← hg]
  clear hW hg
  go_region_held3 (fun w' => w'.cell? ⟨g, 0, none⟩ = some (.slice (some ⟨B, 0, none⟩) L c) ∧ w'.cell? ⟨g, 1, none⟩ = some (.int .i64 x)) (go_keep) (first | (go_at_call 33; refine (hT (by first | exact Below.refl _ _ | exact below_drewN (Below.refl _ _) _)).mono ?_; rintro r wA ⟨rfl, hbA⟩; obtain ⟨z1, z2⟩ := hcl wA hbA) | (go_at_call 32; refine (hRd (by first | exact hbA | exact below_drewN hbA _)).mono ?_; rintro r wB ⟨aB, cB, rfl, rB, hbB⟩; obtain ⟨z1, z2⟩ := hcl wB hbB) | (go_at_call 31; refine (hPt rB hbB).mono ?_; rintro r wC ⟨rfl, hbC⟩; obtain ⟨z1, z2⟩ := hcl wC hbC; have hBC := hB1.trans (hbC.mono hB1.size)))
  cases sS
  · have HPQ : Hid (sgL false ++ ptL (max l (n + 1)) (fxR A n) n = PP) := by show _ = _; rw [HPP.out]; rfl
    go_wp2_with (first | (go_at_call 34; refine (hSp _).mono ?_; rintro e w' ⟨rfl, rfl⟩))
    refine bodyPost_ret (v := .tuple #[.string ⟨PP.toArray⟩, .int .i64 0]) (by simp [results, Tryz.results12, go_sem]) rfl ?_
    exact ⟨_, HMok.out, by omega, by rw [HPQ.out], hBC⟩
  · have HPQ : Hid (sgL true ++ ptL (max l (n + 1)) (fxR A n) n = sgL true ++ PP) := by show _ = _; rw [HPP.out]
    have hmin := minus_app PP
    have hsz : ((⟨PP.toArray⟩ : ByteArray).size : Int) ≤ 5000 := by
      have : (⟨PP.toArray⟩ : ByteArray).size = PP.length := by rw [Lib.size_eq]
      omega
    have hsz2 : PP.toArray.size ≤ 5000 := by simpa using hlen
    generalize sgL true ++ PP = QQ at hmin HPQ
    go_wp2_with (first | (go_at_call 34; refine (hSp _).mono ?_; rintro e w' ⟨rfl, rfl⟩))
    refine bodyPost_ret (v := .tuple #[.string ⟨QQ.toArray⟩, .int .i64 0]) (by simp [results, Tryz.results12, go_sem]) rfl ?_
    exact ⟨_, HMok.out, by omega, by rw [HPQ.out], hBC⟩
set_option maxHeartbeats 1600000 in
set_option maxRecDepth 100000 in
theorem fixed_inf {b : Int} {n : Nat} (hu : U b) (hf : ef b = 2047) (hn : n ≤ 1100) (w : World) :
    Calls Tryz.prog 12 #[.int .u64 b, .int .i64 (n : Int)] w fun e w' => e = .returned (.tuple #[.string ⟨#[]⟩, .int .i64 60]) ∧ Below w.heap.size w w' := by
  have hS := fun w => sizeOf_inf hu hf w
  have z0 : (n : Int) ≤ 1100 := by omega
  go_enter Tryz.func12, Tryz.ntmps12
  go_wp2_with fail
  refine (hS w).mono ?_
  rintro e w1 ⟨rfl, hb1⟩
  have hba := alloc_below (w := w1) (.cells #[.slice none 0 0, .int .i64 0] 62)
  have hB1 := hb1.trans (hba.mono hb1.size)
  go_wp2
  refine bodyPost_ret (v := .tuple #[.string ⟨#[]⟩, .int .i64 60]) (by simp [results, Tryz.results12, go_sem]) rfl ?_
  exact ⟨rfl, hB1⟩
set_option maxHeartbeats 1600000 in
set_option maxRecDepth 100000 in
theorem fixed_bad {b n : Int} (hn : n < 0 ∨ 1100 < n) (w : World) :
    Calls Tryz.prog 12 #[.int .u64 b, .int .i64 n] w fun e w' => e = .returned (.tuple #[.string ⟨#[]⟩, .int .i64 130]) ∧ Below w.heap.size w w' := by
  rcases hn with hn | hn
  all_goals
    go_enter Tryz.func12, Tryz.ntmps12
    go_wp2
    first
      | (refine bodyPost_ret (v := .tuple #[.string ⟨#[]⟩, .int .i64 130]) (by simp [results, Tryz.results12, go_sem]) rfl ?_
         exact ⟨rfl, Below.refl _ _⟩)
end Go.Proofs.YtceecgklgkiffaaGreatDoor

/- Layer 13: Precise. -/
namespace Go.Proofs.YtceecgklgkiffaaGreatDoor
open Go.ChangeShapes Go.WideShapes Go.ChangeAt Go.RowKit
open Na Ar Ep
set_option linter.unusedVariables false
namespace Ep
/-- what Precise tells: n digits and the exponent -/
def Pz (A n D : Nat) (X : Int) : Prop := (A = 0 ∧ D = 0 ∧ X = 0) ∨ ∃ N L x, 0 < A ∧ Dec A N L x ∧ ((rn L N n < 10 ^ n ∧ D = rn L N n ∧ X = (L : Int) + x - n) ∨ (rn L N n = 10 ^ n ∧ D = 10 ^ (n - 1) ∧ X = (L : Int) + x - n + 1))
theorem pz_uniq {A n D D' : Nat} {X X' : Int} (h : Pz A n D X) (h' : Pz A n D' X') : D = D' ∧ X = X' := by
  rcases h with ⟨a, b, c⟩ | ⟨N, L, x, a, b, c⟩ <;> rcases h' with ⟨a', b', c'⟩ | ⟨N', L', x', a', b', c'⟩
  · exact ⟨by omega, by omega⟩
  · omega
  · omega
  · obtain ⟨rfl, rfl, rfl⟩ := dec_uniq b b'
    rcases c with ⟨c1, c2, c3⟩ | ⟨c1, c2, c3⟩ <;> rcases c' with ⟨d1, d2, d3⟩ | ⟨d1, d2, d3⟩
    · exact ⟨by omega, by omega⟩
    · omega
    · omega
    · exact ⟨by omega, by omega⟩
theorem szA_zero {b : Int} (hu : U b) (hf : ef b ≠ 2047) : (clsW b == 0) = decide (szA b = 0) := by
  obtain ⟨P, e1, e2', e3, e4, e5, e6, e7⟩ := num_parts hu hf
  have hA : szA b = 0 ↔ spM b = 0 := by
    unfold szA
    rw [e7]
    have p2 : (0 : Int) < 2 ^ P := Int.pow_pos (by omega)
    refine ⟨fun h => ?_, fun h => by rw [h, Int.zero_mul]; rfl⟩
    have : spM b * 2 ^ P ≤ 0 := by omega
    rcases Int.lt_or_eq_of_le e3 with q | q
    · have := Int.mul_pos q p2
      omega
    · exact q.symm
  have hfr := fr_bd b
  have hef := ef_bd b
  have hM : spM b = 0 ↔ clsW b = 0 := by
    unfold spM clsW
    rw [if_neg hf, if_neg hf]
    by_cases h0 : ef b = 0
    · rw [if_pos h0, if_pos h0]
      by_cases h1 : fr b = 0
      · rw [if_pos h1, h1]
      · rw [if_neg h1]
        exact ⟨fun q => absurd q h1, fun q => by omega⟩
    · rw [if_neg h0, if_neg h0]
      exact ⟨fun q => by omega, fun q => by omega⟩
  by_cases q : clsW b = 0
  · rw [q, decide_eq_true (hA.2 (hM.2 q))]
    rfl
  · rw [decide_eq_false (fun h => q (hM.1 (hA.1 h)))]
    exact beq_eq_false_iff_ne.2 q
end Ep
set_option maxHeartbeats 3200000 in
set_option maxRecDepth 100000 in
theorem precise_fin {b : Int} {n : Nat} (hu : U b) (hf : ef b ≠ 2047) (h1 : 1 ≤ n) (hn : n ≤ 1100) (w : World) :
    Calls Tryz.prog 17 #[.int .u64 b, .int .i64 (n : Int)] w fun e w' => ∃ (D : Nat) (X : Int), Pz (szA b) n D X ∧ D < 10 ^ n ∧ e = .returned (.tuple #[.string ⟨(dg n D).toArray⟩, .int .i64 X, .int .i64 0]) ∧ Below w.heap.size w w' := by
  have hS := fun w => sizeOf_fin hu hf w
  have hK := fun w => f6Class_any hu w
  have hz := szA_zero hu hf
  have z0 : (n : Int) ≤ 1100 := by omega
  have z1 : (1 : Int) ≤ n := by omega
  generalize szA b = A at *
  generalize clsW b = K at *
  clear hf
  go_enter Tryz.func17, Tryz.ntmps17
  go_wp2_with fail
  refine (hS w).mono ?_
  rintro e w1 ⟨B, c, N, L, x, rfl, hBg, hR, hD, hbd, hb1⟩
  have hba := alloc_below (w := w1) (.cells #[.slice (some ⟨B, 0, none⟩) L c, .int .i64 x] 62)
  have sd := sd_new w1 (.slice (some ⟨B, 0, none⟩) L c) (.int .i64 x) 62
  have hR1 := hR.later hba
  have hB1 := hb1.trans (hba.mono hb1.size)
  obtain ⟨g, hg⟩ : ∃ g, g = w1.heap.size := ⟨_, rfl⟩
  obtain ⟨W, hW⟩ : ∃ W, W = w1.alloc (.cells #[.slice (some ⟨B, 0, none⟩) L c, .int .i64 x] 62) := ⟨_, rfl⟩
  rw [← hW] at sd hR1 hB1
  rw [← hg] at sd
  have hhi : N < 10 ^ L ∧ (N % 10 ≠ 0 ∨ L ≤ n) := by
    rcases hD with ⟨_, rfl, rfl, _⟩ | ⟨_, hd⟩
    · exact ⟨by omega, Or.inr h1⟩
    · exact ⟨hd.hi, Or.inl hd.last⟩
  have hRd := rounded13_any hR1 hbd.1 (by omega) (n := n) (by omega) hhi.1 hhi.2
  have hrl := rl_fits (t := n) hhi.1
  have hrn := rn_le (n := n) hhi.1
  have hrow : rw13 L N n = dg (rl L N n) (rn L N n) := rfl
  rw [hrow] at hRd
  obtain ⟨p0, p1⟩ := sd.cells
  have HR1 : Hid (N < 10 ^ L) := hhi.1
  clear hS hR hR1 hba hb1 hhi hrow
  go_wp2_with fail
  rw [← hW, ← hg]
  clear hW hg
  refine hRd.mono ?_
  rintro e w2 ⟨a2, n2, c2, rfl, hR2, hb2⟩
  have hl2 := hR2.len
  rw [dg_len] at hl2
  subst hl2
  have sd2 := sd.later hb2
  have hB2 := hB1.trans (hb2.mono hB1.size)
  obtain ⟨p0, p1⟩ := sd2.cells
  have hT := top13_any (a := some ⟨B, 0, none⟩) (c := c) (L := L) (x := x) (by omega) (by omega) (by omega) w2
  clear hRd sd hb2 hB1
  go_wp2_with fail
  refine hT.mono ?_
  rintro e w3 ⟨rfl, hb3⟩
  have hR3 := hR2.later hb3
  have hB3 := hB2.trans (hb3.mono hB2.size)
  have q1 : (L : Int) ≤ 1300 := by omega
  have q2 : -1100 ≤ x := by omega
  have q3 : x ≤ 1300 := by omega
  clear hT hR2 sd2 hb3 hB2 p0 p1
  go_wp2_with fail
  refine (hK w3).mono ?_
  rintro e w4 ⟨rfl, rfl⟩
  by_cases hA : A = 0
  · have hk : (K == 0) = true := by rw [hz]; exact decide_eq_true hA
    have hNL : N = 0 ∧ L = 1 ∧ x = 0 := by
      rcases hD with ⟨_, a, b, c⟩ | ⟨a, _⟩
      · exact ⟨a, b, c⟩
      · omega
    obtain ⟨rfl, rfl, rfl⟩ := hNL
    have hr0 : rn 1 0 n = 0 := by unfold rn; rw [if_pos h1, Nat.zero_mul]
    have hp := Nat.pow_pos (n := n) (show 0 < 10 by omega)
    have hl0 : rl 1 0 n = n := by unfold rl; rw [hr0, if_pos hp]
    rw [hr0, hl0] at hR3
    have hcv := conv8 hR3
    have HZ : Hid (Pz A n 0 0 ∧ 0 < 10 ^ n) := ⟨Or.inl ⟨hA, rfl, rfl⟩, hp⟩
    rw [hl0]
    obtain ⟨DL, hDL⟩ : ∃ DL, DL = dg n 0 := ⟨_, rfl⟩
    rw [← hDL] at hcv
    have HDL : Hid (dg n 0 = DL) := hDL.symm
    have hk0 : K = 0 := by simpa using hk
    clear hrl hrn hD hK hz hbd hr0 hp hl0 hR3 hDL hk
    subst hk0
    go_wp2
    refine bodyPost_ret (v := .tuple #[.string ⟨DL.toArray⟩, .int .i64 0, .int .i64 0]) (by simp [results, Tryz.results17, go_sem]) rfl ?_
    exact ⟨0, 0, HZ.out.1, HZ.out.2, by rw [HDL.out], hB3⟩
  · have hk : (K == 0) = false := by rw [hz]; exact decide_eq_false hA
    have hd : Dec A N L x := by
      rcases hD with ⟨a, _⟩ | ⟨_, a⟩
      · exact absurd a hA
      · exact a
    by_cases hlt : rn L N n < 10 ^ n
    · have hl0 : rl L N n = n := by unfold rl; rw [if_pos hlt]
      rw [hl0] at hR3
      have hcv := conv8 hR3
      have HZ : Hid (Pz A n (rn L N n) ((L : Int) + x - n) ∧ rn L N n < 10 ^ n) := ⟨Or.inr ⟨N, L, x, by omega, hd, Or.inl ⟨hlt, rfl, rfl⟩⟩, hlt⟩
      rw [hl0]
      obtain ⟨DL, hDL⟩ : ∃ DL, DL = dg n (rn L N n) := ⟨_, rfl⟩
      rw [← hDL] at hcv
      have HDL : Hid (dg n (rn L N n) = DL) := hDL.symm
      clear hrl hrn hD hK hz hd hlt hl0 hR3 hDL
      go_wp2
      refine bodyPost_ret (v := .tuple #[.string ⟨DL.toArray⟩, .int .i64 ((L : Int) + x - n), .int .i64 0]) (by simp [results, Tryz.results17, go_sem]) rfl ?_
      exact ⟨_, _, HZ.out.1, HZ.out.2, by rw [HDL.out], hB3⟩
    · have hl0 : rl L N n = n + 1 := by unfold rl; rw [if_neg hlt]
      have hr0 : rn L N n = 10 ^ n := by omega
      rw [hl0, hr0] at hR3
      have hC := cut13_any hR3 (n := n) (by omega)
      have h10 : (10 : Nat) ^ n / 10 ^ (n + 1 - n) = 10 ^ (n - 1) := by
        rw [Nat.add_sub_cancel_left, Nat.pow_one]
        obtain ⟨j, rfl⟩ : ∃ j, n = j + 1 := ⟨n - 1, by omega⟩
        rw [Nat.pow_succ, Nat.mul_div_cancel _ (by omega)]
        rfl
      rw [dg_take (by omega), h10] at hC
      have hlt2 : 10 ^ (n - 1) < 10 ^ n := Nat.pow_lt_pow_right (by omega) (by omega)
      have HZ : Hid (Pz A n (10 ^ (n - 1)) ((L : Int) + x - n + 1) ∧ 10 ^ (n - 1) < 10 ^ n) := ⟨Or.inr ⟨N, L, x, by omega, hd, Or.inr ⟨hr0, rfl, rfl⟩⟩, hlt2⟩
      rw [hl0]
      have q4 : ((n : Int) < ((n + 1 : Nat) : Int)) := by omega
      obtain ⟨DL, hDL⟩ : ∃ DL, DL = dg n (10 ^ (n - 1)) := ⟨_, rfl⟩
      rw [← hDL] at hC
      have HDL : Hid (dg n (10 ^ (n - 1)) = DL) := hDL.symm
      clear hrl hrn hD hK hz hd hlt hl0 hR3 hDL hr0 h10 hlt2
      go_wp2_with fail
      refine hC.mono ?_
      rintro e w5 ⟨a5, a6, rfl, r5, r6, hb5⟩
      have hB5 := hB3.trans (hb5.mono hB3.size)
      have hcv := conv8 r5
      clear hC r5 r6 hb5
      go_wp2
      refine bodyPost_ret (v := .tuple #[.string ⟨DL.toArray⟩, .int .i64 ((L : Int) + x - n + 1), .int .i64 0]) (by simp [results, Tryz.results17, go_sem]) rfl ?_
      exact ⟨_, _, HZ.out.1, HZ.out.2, by rw [HDL.out], hB5⟩
end Go.Proofs.YtceecgklgkiffaaGreatDoor

/- Layer 13: what the statements ask first: three numbers. -/
namespace Go.Proofs.YtceecgklgkiffaaGreatDoor
open Go.ChangeShapes Go.WideShapes Go.ChangeAt Go.RowKit
open Na Ar Ep
set_option linter.unusedVariables false
namespace Ep
theorem al_u (b : Int) (h : decide (0 ≤ b ∧ b < 18446744073709551616) = true) : U b := by
  have := of_decide_eq_true (p := 0 ≤ b ∧ b < 18446744073709551616) h
  exact ⟨this.1, this.2⟩
theorem pos_of {X : Nat} (h : Nat.ble 1 X = true) : 0 < X := Nat.le_of_ble_eq_true h
theorem al_dec1 : Dec (szA 4609434218613702656) 15 2 (-1) :=
  ⟨Nat.eq_of_beq_eq_true (by kernel_rfl), by omega, by decide, by decide, by decide⟩
theorem al_pos1 : 0 < szA 4609434218613702656 := pos_of (by kernel_rfl)
theorem al_fix : fxR (szA 4591870180066957722) 20 = 10000000000000000555 := Nat.eq_of_beq_eq_true (by kernel_rfl)
theorem al_dec3 : Dec (szA 4652002910794678272) 9995 4 (-1) :=
  ⟨Nat.eq_of_beq_eq_true (by kernel_rfl), by omega, by decide, by decide, by decide⟩
theorem al_pos3 : 0 < szA 4652002910794678272 := pos_of (by kernel_rfl)
theorem al_pz : Pz (szA 4652002910794678272) 3 100 1 := Or.inr ⟨9995, 4, -1, al_pos3, al_dec3, Or.inr ⟨by decide, by decide, by decide⟩⟩
end Ep
set_option maxHeartbeats 1600000 in
set_option maxRecDepth 100000 in
theorem alive13_any (w : World) : Calls Tryz.prog 9 #[] w fun e w' => e = .returned (.bool true) ∧ Below w.heap.size w w' := by
  have h1 : ∀ w, Calls Tryz.prog 22 #[.int .u64 4609434218613702656] w fun e w' => e = .returned (.tuple #[.string ⟨#[49, 53]⟩, .int .i64 (-1), .int .i64 0]) ∧ Below w.heap.size w w' := fun w => by
    refine (digits_fin (al_u _ (by decide)) (by decide) w).mono ?_
    rintro e w' ⟨N, L, x, rfl, hD, _, hb⟩
    obtain ⟨rfl, rfl, rfl⟩ := dz_uniq hD (Or.inr ⟨al_pos1, al_dec1⟩)
    exact ⟨rfl, hb⟩
  have h2 : ∀ w, Calls Tryz.prog 12 #[.int .u64 4591870180066957722, .int .i64 20] w fun e w' => e = .returned (.tuple #[.string ⟨#[48, 46, 49, 48, 48, 48, 48, 48, 48, 48, 48, 48, 48, 48, 48, 48, 48, 48, 48, 53, 53, 53]⟩, .int .i64 0]) ∧ Below w.heap.size w w' := fun w => by
    refine (fixed_fin (n := 20) (al_u 4591870180066957722 (by decide)) (by decide) (by decide) w).mono ?_
    rintro e w' ⟨M, hM, _, rfl, hb⟩
    rw [al_fix] at hM ⊢
    have := mok_uniq hM (Or.inl ⟨rfl, by decide⟩ : Mok 10000000000000000555 20 21)
    subst this
    exact ⟨rfl, hb⟩
  have h3 : ∀ w, Calls Tryz.prog 17 #[.int .u64 4652002910794678272, .int .i64 3] w fun e w' => e = .returned (.tuple #[.string ⟨#[49, 48, 48]⟩, .int .i64 1, .int .i64 0]) ∧ Below w.heap.size w w' := fun w => by
    refine (precise_fin (n := 3) (al_u 4652002910794678272 (by decide)) (by decide) (by decide) (by decide) w).mono ?_
    rintro e w' ⟨D, X, hP, _, rfl, hb⟩
    obtain ⟨rfl, rfl⟩ := pz_uniq hP al_pz
    exact ⟨rfl, hb⟩
  go_enter Tryz.func9, Tryz.ntmps9
  go_wp2_with fail
  refine (h1 w).mono ?_
  rintro e w1 ⟨rfl, hb1⟩
  go_wp2_with fail
  refine (h2 w1).mono ?_
  rintro e w2 ⟨rfl, hb2⟩
  have hB2 := hb1.trans (hb2.mono hb1.size)
  go_wp2_with fail
  refine (h3 w2).mono ?_
  rintro e w3 ⟨rfl, hb3⟩
  have hB3 := hB2.trans (hb3.mono hB2.size)
  clear h1 h2 h3 hb1 hb2 hb3 hB2
  go_wp2
  go_ret
  exact ⟨rfl, hB3⟩
end Go.Proofs.YtceecgklgkiffaaGreatDoor


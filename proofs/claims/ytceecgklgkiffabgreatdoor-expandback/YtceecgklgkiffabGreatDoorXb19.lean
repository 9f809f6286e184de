import Derived.Lib.ConvBytes
import Derived.Lib.AtoiErrMem
import Derived.Deep.RegionHeld3
import Derived.Below
import Derived.BigQuiet
import Derived.ChangeOld
import Derived.Deep.DeepCutAuto
import Derived.Deep.DeepFit
import Derived.Deep.LoopGhost
import Derived.Deep.QuietTactic
import Derived.Deep.RegionHeldLaw
import Derived.Deep.RegionLaw
import Derived.Deep.RegionWith
import Derived.Defers
import Derived.KernelRfl
import Derived.Laws.BitsAllLaws
import Derived.Laws.CopyRow
import Derived.Laws.EntriesVeiled
import Derived.Laws.IdiomCopy
import Derived.Laws.IdiomRangeMap
import Derived.Laws.IdiomStrings
import Derived.Laws.RangeAny
import Derived.Laws.Strings3
import Derived.Lib.BytesEntry
import Derived.Lib.MakeNoZero
import Derived.Lib.OthersKept
import Derived.Lib.Strings
import Derived.Lib.TrimByte
import Derived.Lib.Walk
import Derived.OpenShut
import Derived.Orders
import Derived.OwnWalk
import Derived.ProofKit
import Derived.Recover
import Derived.Scope
import Derived.ShutString
import Derived.WalkKit
import Derived.WalkLawsBesides
import Derived.WalkMore
import Derived.WalkSpells
import Derived.Test.YtceecgklgkiffabGreatDoorXb1
import Derived.Test.YtceecgklgkiffabGreatDoorXb3
import Derived.Test.YtceecgklgkiffabGreatDoorXb10
import Derived.Test.YtceecgklgkiffabGreatDoorXb14
import Derived.Test.YtceecgklgkiffabGreatDoorXb15
import Derived.Test.YtceecgklgkiffabGreatDoorXb16
import Derived.Test.YtceecgklgkiffabGreatDoorXb18
/- Layer 13: decimalOf, sizeOf, top, Digits. -/
namespace Go.Proofs.YtceecgklgkiffabGreatDoor
open Go.ChangeShapes Go.WideShapes Go.ChangeAt Go.RowKit
open Na Ar Ep
set_option linter.unusedVariables false
/-- a struct of two cells -/
def Sd (w : World) (g : Nat) (t : TypeId) (x y : Value) : Prop := w.heap[g]? = some (.cells #[x, y] t (0, 0))
section
variable {w w' : World} {g : Nat} {t : TypeId} {x y : Value}
theorem Sd.lt (h : Sd w g t x y) : g < w.heap.size := by
  by_cases hlt : g < w.heap.size
  · exact hlt
  · unfold Sd at h; simp [Array.getElem?_eq_none (Nat.le_of_not_lt hlt)] at h
theorem Sd.later (h : Sd w g t x y) (hb : Below w.heap.size w w') : Sd w' g t x y := by
  unfold Sd
  rw [hb.block g h.lt]
  exact h
theorem Sd.cells (h : Sd w g t x y) : w.cell? ⟨g, 0, none⟩ = some x ∧ w.cell? ⟨g, 1, none⟩ = some y := by
  unfold Sd at h
  simp [World.cell?, h]
theorem Sd.frozen (h : Sd w g t x y) : w.frozen? ⟨g, 0, none⟩ = false ∧ w.frozen? ⟨g, 1, none⟩ = false := by
  unfold Sd at h
  simp [World.frozen?, h]
theorem sd_new (w : World) (x y : Value) (t : TypeId) : Sd (w.alloc (.cells #[x, y] t)) w.heap.size t x y := heap_alloc_new _ _
theorem Sd.set (h : Sd w g t x y) (x' y' : Value) : Sd ((w.setCell ⟨g, 0, none⟩ x').setCell ⟨g, 1, none⟩ y') g t x' y' :=
  set_block (set_block h)
theorem in2 (w : World) (g : Nat) (x' y' : Value) : In g (g + 1) w ((w.setCell ⟨g, 0, none⟩ x').setCell ⟨g, 1, none⟩ y') := ((In.refl g (g + 1) w).set1 0 _).set1 1 _
end
namespace Ep
theorem text10 {X : Int} {t : ByteArray} {N L : Nat} (h : TextIs X 10 t) (hX : X = (N : Int)) (h1 : 1 ≤ L) (h2 : 10 ^ (L - 1) ≤ N) (h3 : N < 10 ^ L) : t.data.toList = dg L N := by
  obtain ⟨d, rfl⟩ : ∃ d, L = d + 1 := ⟨L - 1, by omega⟩
  have e := text_bytes h (by omega) (by omega) (d := d) (by rw [hX]; exact_mod_cast h2) (by rw [hX]; exact_mod_cast h3)
  rw [e, hX]
  have key : ∀ (m X : Nat), bytesOf (laidD 10 m (X : Int)) = dg m X := fun m => by
    induction m with
    | zero => intro X; rfl
    | succ m ih =>
      intro X
      have e1 : laidD 10 (m + 1) (X : Int) = laidD 10 m ((X : Int) / 10) ++ [dch ((X : Int) % 10)] := rfl
      have e2 : dg (m + 1) X = dg m (X / 10) ++ [UInt8.ofNat (48 + X % 10)] := rfl
      have e3 : ((X : Int) / 10) = ((X / 10 : Nat) : Int) := by omega
      rw [e1, e2, e3, ← ih]
      unfold bytesOf
      rw [List.map_append]
      congr 1
      simp only [List.map_cons, List.map_nil]
      have : dch ((X : Int) % 10) = ((48 + X % 10 : Nat) : Int) := by unfold dch; rw [if_pos (by omega)]; omega
      rw [this, Int.toNat_natCast]
  exact key _ _
end Ep
/-- a text as a slice of bytes -/
theorem bytes13 (w : World) (t : ByteArray) (l : List UInt8) (ht : t.data.toList = l) (hl : l.length ≤ 1000000) : ∃ (c : Nat) (w' : World), (convert 9 45 (.string t)).run Tryz.prog w = .ok (.slice (some ⟨w.heap.size, 0, none⟩) l.length c) w' ∧ Rb w' (some ⟨w.heap.size, 0, none⟩) l.length c l ∧ Below w.heap.size w w' := by
  have hs : t.size = l.length := by rw [Lib.size_eq, ht]
  have hr := Lib.run_convert_string_bytes (P := Tryz.prog) w 9 45 5 t (u := .string) Tryz.underlying9 Tryz.underlying45 Tryz.underlying5
  have hge := grownCap_ge w t.size 0 5
  have hle := grownCap_le_maxLen w t.size 0 5 (by unfold maxLen; omega)
  have hb := Lib.bytesWorld_below w 5 t
  rw [hs] at hr hge hle
  refine ⟨_, _, hr, ⟨⟨nz_len l, ?_⟩, by omega, by unfold maxLen at hle; omega⟩, hb⟩
  by_cases h0 : l.length = 0
  · exact Or.inl h0
  · refine Or.inr ⟨w.heap.size, 0, rfl, ?_, fun i hi => ?_⟩
    · have := Lib.bytesWorld_cell w 5 t 0 (by omega)
      exact World.block_lt_of_cell? _ _ this
    · rw [nz_at, Nat.zero_add, Lib.bytesWorld_cell w 5 t i (by omega), ht]
theorem five13_any {k : Nat} (h : k ≤ 1100) (w : World) :
    Calls Tryz.prog 64 #[.int .i64 (k : Int)] w fun e w' => ∃ a l c ls, e = .returned (.tuple #[.slice a l c, .int .i64 0]) ∧ RowC w' a l c ls ∧ Nm ls (5 ^ k) ∧ Below w.heap.size w w' := by
  have f := five_any (k : Int) (by omega) (by omega) w
  have E1 : pwE 112899 (k : Int) = 0 := by unfold pwE; rw [if_neg (by omega), if_neg (by omega)]
  have E2 : pwL 5 112899 (k : Int) = words (5 ^ k) := by unfold pwL; rw [if_neg (by omega), if_neg (by omega), Int.toNat_natCast]
  rw [E1, E2] at f
  refine f.mono ?_
  rintro e w' ⟨v, rfl, ho, hb⟩
  obtain ⟨a, c, rfl, hr⟩ := ho.readsC
  exact ⟨a, _, c, _, rfl, hr, (five_lt (by omega)).nm (by omega), hb⟩
namespace Ep
theorem five_big : Nat.blt ((5 : Nat) ^ (1100 : Nat)) ((18446744073709551616 : Nat) ^ (40 : Nat)) = true := by kernel_rfl
def k60 : Nat := 60
def t1300 : Nat := 1300
theorem ten_big : Nat.blt ((18446744073709551616 : Nat) ^ k60) ((10 : Nat) ^ t1300) = true := by kernel_rfl
theorem lt_ten {X k : Nat} (h : Lt (X : Int) 60) (h1 : 10 ^ k ≤ X) : k < 1300 := by
  have e : t1300 = 1300 := rfl
  rw [← e]
  by_cases q : k < t1300
  · exact q
  · exfalso
    have h' : Lt (X : Int) k60 := h
    have a : (X : Int) < ((18446744073709551616 ^ k60 : Nat) : Int) := by
      have := h'.2
      rw [Int.natCast_pow]
      exact this
    have b : 18446744073709551616 ^ k60 < 10 ^ t1300 := by
      have := ten_big
      simpa [Nat.blt_eq] using this
    have c := Nat.pow_le_pow_right (n := 10) (by omega) (show t1300 ≤ k by omega)
    generalize (18446744073709551616 : Nat) ^ k60 = y at *
    generalize (10 : Nat) ^ t1300 = z at *
    generalize (10 : Nat) ^ k = u at *
    omega
theorem pow_le_mul {N k X : Nat} (h : X = N * 10 ^ k) (hN : 0 < N) : 10 ^ k ≤ X := by
  rw [h]
  exact Nat.le_mul_of_pos_left _ hN
theorem le_mul_pow {N k X : Nat} (h : X = N * 10 ^ k) : N ≤ X := by
  rw [h]
  exact Nat.le_mul_of_pos_right _ (Nat.pow_pos (by omega))
end Ep
set_option maxHeartbeats 3200000 in
set_option maxRecDepth 100000 in
theorem decimalOf_any {w : World} {s : Bool} {a b : Option Addr} {n c m d : Nat} {q : Rat} {p : Nat} (hq : Rt w s a n c b m d q) (hz : Sz q 20) (hp : (q.den : Int) = 2 ^ p) (hp9 : p ≤ 1100) (h0 : 0 < q.num.natAbs) :
    Calls Tryz.prog 48 #[.agg #[.bool s, .slice a n c, .slice b m d]] w fun e w' => ∃ (B c' N L k : Nat), e = .returned (.agg #[.slice (some ⟨B, 0, none⟩) L c', .int .i64 ((k : Int) - (p : Int))]) ∧ w.heap.size ≤ B ∧ Rb w' (some ⟨B, 0, none⟩) L c' (dg L N) ∧ (q.num.natAbs * 5 ^ p = N * 10 ^ k ∧ 1 ≤ L ∧ 10 ^ (L - 1) ≤ N ∧ N < 10 ^ L ∧ N % 10 ≠ 0) ∧ L ≤ 1300 ∧ k < 1300 ∧ Below w.heap.size w w' := by
  have n1 := nm_abs hz (by omega)
  have n2 := nm_den hz (by omega)
  have hZ := fun w' (hb : Below w.heap.size w w') => zerosQ (hq.de.later hb) n2 (b := (p : Int)) (by rw [hp]; exact pow_zeros p)
  have hF := five13_any (k := p) hp9
  have hL : Lt ((q.num.natAbs : Int) * 5 ^ p) 60 := hz.1.mul (l := 40) (pow_lt (b := 5) (m := 1100) (n := p) (by omega) five_big hp9)
  have hM := fun (w' : World) (hb : Below w.heap.size w w') {a2 : Option Addr} {l2 c2 : Nat} {ls : List Int} (hr : RowC w' a2 l2 c2 ls) (hn : Nm ls (5 ^ p)) => mulQ (hq.nu.later hb) hr n1 hn hL (by omega)
  obtain ⟨A, hA⟩ : ∃ A, A = q.num.natAbs := ⟨_, rfl⟩
  rw [← hA] at hL hM n1 h0
  rw [← hA]
  obtain ⟨X, hX⟩ : ∃ X, X = A * 5 ^ p := ⟨_, rfl⟩
  have hX0 : 0 < X := by rw [hX]; exact Nat.mul_pos h0 (Nat.pow_pos (by omega))
  have hXi : (A : Int) * 5 ^ p = (X : Int) := by rw [hX]; push_cast; rfl
  rw [hXi] at hL hM
  rw [← hX]
  have HL : Hid (Lt (X : Int) 60) := hL
  have st := st_new w (.bool s) (.slice a n c) (.slice b m d) 36
  have hba := alloc_below (w := w) (.cells #[.bool s, .slice a n c, .slice b m d] 36)
  obtain ⟨g, hg⟩ : ∃ g, g = w.heap.size := ⟨_, rfl⟩
  have sd := sd_new (w.alloc (.cells #[.bool s, .slice a n c, .slice b m d] 36)) (.slice none 0 0) (.int .i64 0) 53
  have hbb := alloc_below (w := w.alloc (.cells #[.bool s, .slice a n c, .slice b m d] 36)) (.cells #[.slice none 0 0, .int .i64 0] 53)
  have st2 := st.later hbb
  have hBB : Below w.heap.size w ((w.alloc (.cells #[.bool s, .slice a n c, .slice b m d] 36)).alloc (.cells #[.slice none 0 0, .int .i64 0] 53)) := hba.trans (hbb.mono hba.size)
  have hs1 : (w.alloc (.cells #[.bool s, .slice a n c, .slice b m d] 36)).heap.size = g + 1 := by rw [hg]; simp
  rw [hs1] at sd
  obtain ⟨w0, hw0⟩ : ∃ w0, w0 = (w.alloc (.cells #[.bool s, .slice a n c, .slice b m d] 36)).alloc (.cells #[.slice none 0 0, .int .i64 0] 53) := ⟨_, rfl⟩
  rw [← hw0] at sd hBB st2
  rw [← hg] at st2
  have HG : Hid (w.heap.size = g) := hg.symm
  clear hA hX hXi hL hba hbb st hs1
  go_enter Tryz.func48, Tryz.ntmps48
  go_wp2_with fail
  rw [← hw0, ← hg]
  refine (hZ w0 hBB).mono ?_
  rintro e w1 ⟨rfl, hb1⟩
  have hB1 := hBB.trans (hb1.mono hBB.size)
  have st3 := st2.later hb1
  have sd3 := sd.later hb1
  clear hZ hw0 hg hb1 hBB st2 sd hq hz hp n2
  go_wp2_with fail
  refine (hF w1).mono ?_
  rintro e w2 ⟨a2, l2, c2, ls2, rfl, r2, m2, hb2⟩
  have hB2 := hB1.trans (hb2.mono hB1.size)
  have st4 := st3.later hb2
  have sd4 := sd3.later hb2
  obtain ⟨p0, p1, p2⟩ := st4.cells
  have hM2 := hM w2 hB2 r2 m2
  clear hF hb2 hB1 st3 sd3 hM n1
  go_wp2_with fail
  refine hM2.mono ?_
  rintro e w3 ⟨a3, l3, c3, ls3, rfl, r3, m3, e3, hb3⟩
  have hB3 := hB2.trans (hb3.mono hB2.size)
  have sd5 := sd4.later hb3
  have HL3 : Hid (l3 ≤ 60) := by
    show _ ≤ _
    have := r3.1.1
    rw [e3.out] at this
    have := HL.out.len
    omega
  have hT := trim10_any r3 m3.ws (by have := HL3.out; omega)
  rw [m3.num] at hT
  clear hM2 hb3 hB2 st4 sd4 p0 p1 p2 r2 m2 r3 m3 e3
  go_wp2_with fail
  refine hT.mono ?_
  rintro e w4 ⟨v4, U4, k, rfl, hU0, hUX, hk0, hU10, hO4, hb4⟩
  have hB4 := hB3.trans (hb4.mono hB3.size)
  have sd6 := sd5.later hb4
  obtain ⟨N, rfl⟩ := Int.eq_ofNat_of_zero_le hU0
  have hNX : X = N * 10 ^ k := by exact_mod_cast hUX
  have hN10 : N % 10 ≠ 0 := by have := hU10 (by omega); omega
  have hN0 : 0 < N := by
    rcases Nat.eq_zero_or_pos N with z | z
    · rw [z] at hN10; exact absurd rfl hN10
    · exact z
  obtain ⟨L, hL1, hLo, hLi⟩ := digits_of N hN0
  have hk9 : k < 1300 := lt_ten HL.out (pow_le_mul hNX hN0)
  have hL9 : L ≤ 1300 := by
    have := lt_ten HL.out (Nat.le_trans hLo (le_mul_pow hNX))
    omega
  have hLN : Lt (N : Int) 60 := HL.out.le (by omega) (by exact_mod_cast le_mul_pow hNX)
  obtain ⟨a4, c4, rfl, r4⟩ := hO4.readsC
  have m4 := hLN.nm (by omega)
  have hTx := text_any r4 m4.ws (b := 10) (by have := hLN.len; have := r4.1.1; omega) (by omega) (by omega) (by rw [m4.num]; have := hLN.len; omega) (by rw [m4.num]; omega)
  rw [m4.num] at hTx
  have HNX : Hid (X = N * 10 ^ k ∧ 1 ≤ L ∧ 10 ^ (L - 1) ≤ N ∧ N < 10 ^ L ∧ N % 10 ≠ 0) := ⟨hNX, hL1, hLo, hLi, hN10⟩
  clear hT hb4 hB3 sd5 hU0 hUX hk0 hU10 hO4 r4 m4 hLN hNX hN10 hLo hLi hN0 hX0 h0
  go_wp2_with fail
  refine hTx.mono ?_
  rintro e w5 ⟨t5, rfl, ht5, hb5⟩
  have hB5 := hB4.trans (hb5.mono hB4.size)
  have sd7 := sd6.later hb5
  have hdt := text10 ht5 rfl HNX.out.2.1 HNX.out.2.2.1 HNX.out.2.2.2.1
  obtain ⟨c6, w6, hcv, hR6, hb6⟩ := bytes13 w5 t5 _ hdt (by rw [dg_len]; omega)
  rw [dg_len] at hcv hR6
  have hB6 := hB5.trans (hb6.mono hB5.size)
  have sd8 := sd7.later hb6
  obtain ⟨p0, p1⟩ := sd8.cells
  obtain ⟨f0, f1⟩ := sd8.frozen
  have sd9 := (sd8.set (.slice (some ⟨w5.heap.size, 0, none⟩) L c6) (.int .i64 ((k : Int) - (p : Int)))).cells
  have hin := in2 w6 (g + 1) (.slice (some ⟨w5.heap.size, 0, none⟩) L c6) (.int .i64 ((k : Int) - (p : Int)))
  have hg5 : g + 1 < w5.heap.size := sd7.lt
  have hRR : Rb ((w6.setCell ⟨g + 1, 0, none⟩ (.slice (some ⟨w5.heap.size, 0, none⟩) L c6)).setCell ⟨g + 1, 1, none⟩ (.int .i64 ((k : Int) - (p : Int)))) (some ⟨w5.heap.size, 0, none⟩) L c6 (dg L N) := ⟨hR6.1.inn hin (fun _ => off_of (by omega)), hR6.2⟩
  have hBB : Below w.heap.size w ((w6.setCell ⟨g + 1, 0, none⟩ (.slice (some ⟨w5.heap.size, 0, none⟩) L c6)).setCell ⟨g + 1, 1, none⟩ (.int .i64 ((k : Int) - (p : Int)))) := below_inn hB6 hin (by rw [HG.out]; omega) (Nat.le_refl _)
  obtain ⟨B, hB⟩ : ∃ B, B = w5.heap.size := ⟨_, rfl⟩
  rw [← hB] at hRR hBB sd9 hcv hg5
  have HBg : Hid (w.heap.size ≤ B) := by show _ ≤ _; rw [HG.out]; omega
  clear hTx hb5 hB4 sd6 ht5 hdt hR6 hb6 hB5 sd7 hB6 sd8 hin hB
  go_wp2
  refine bodyPost_ret (v := .agg #[.slice (some ⟨B, 0, none⟩) L c6, .int .i64 ((k : Int) - (p : Int))]) (by simp [results, Tryz.results48, go_sem, sd9]) rfl ?_
  exact ⟨_, c6, N, L, k, rfl, HBg.out, hRR, HNX.out, hL9, hk9, hBB⟩
set_option maxHeartbeats 3200000 in
set_option maxRecDepth 100000 in
theorem decimalOf_zero {w : World} {s : Bool} {a b : Option Addr} {n c m d : Nat} {q : Rat} (hq : Rt w s a n c b m d q) (hz : Sz q 20) (hp' : (q.den : Int) = 1) (h0 : q.num.natAbs = 0) :
    Calls Tryz.prog 48 #[.agg #[.bool s, .slice a n c, .slice b m d]] w fun e w' => ∃ (B c' : Nat), e = .returned (.agg #[.slice (some ⟨B, 0, none⟩) 1 c', .int .i64 0]) ∧ w.heap.size ≤ B ∧ Rb w' (some ⟨B, 0, none⟩) 1 c' (dg 1 0) ∧ Below w.heap.size w w' := by
  obtain ⟨p, hpz⟩ : ∃ p : Nat, p = 0 := ⟨_, rfl⟩
  have hp : (q.den : Int) = 2 ^ p := by rw [hp', hpz]; rfl
  have hp9 : p ≤ 1100 := by omega
  have n1 := nm_abs hz (by omega)
  have n2 := nm_den hz (by omega)
  have hZ := fun w' (hb : Below w.heap.size w w') => zerosQ (hq.de.later hb) n2 (b := (p : Int)) (by rw [hp]; exact pow_zeros p)
  have hF := five13_any (k := p) hp9
  have hL : Lt ((q.num.natAbs : Int) * 5 ^ p) 60 := hz.1.mul (l := 40) (pow_lt (b := 5) (m := 1100) (n := p) (by omega) five_big hp9)
  have hM := fun (w' : World) (hb : Below w.heap.size w w') {a2 : Option Addr} {l2 c2 : Nat} {ls : List Int} (hr : RowC w' a2 l2 c2 ls) (hn : Nm ls (5 ^ p)) => mulQ (hq.nu.later hb) hr n1 hn hL (by omega)
  obtain ⟨A, hA⟩ : ∃ A, A = q.num.natAbs := ⟨_, rfl⟩
  rw [← hA] at hL hM n1 h0
  obtain ⟨X, hX⟩ : ∃ X, X = A * 5 ^ p := ⟨_, rfl⟩
  have hX0 : X = 0 := by rw [hX, h0, Nat.zero_mul]
  have hXi : (A : Int) * 5 ^ p = (X : Int) := by rw [hX]; push_cast; rfl
  rw [hXi] at hL hM
  have HX0 : Hid (X = 0) := hX0
  have HP0 : Hid (p = 0) := hpz
  have HL : Hid (Lt (X : Int) 60) := hL
  have st := st_new w (.bool s) (.slice a n c) (.slice b m d) 36
  have hba := alloc_below (w := w) (.cells #[.bool s, .slice a n c, .slice b m d] 36)
  obtain ⟨g, hg⟩ : ∃ g, g = w.heap.size := ⟨_, rfl⟩
  have sd := sd_new (w.alloc (.cells #[.bool s, .slice a n c, .slice b m d] 36)) (.slice none 0 0) (.int .i64 0) 53
  have hbb := alloc_below (w := w.alloc (.cells #[.bool s, .slice a n c, .slice b m d] 36)) (.cells #[.slice none 0 0, .int .i64 0] 53)
  have st2 := st.later hbb
  have hBB : Below w.heap.size w ((w.alloc (.cells #[.bool s, .slice a n c, .slice b m d] 36)).alloc (.cells #[.slice none 0 0, .int .i64 0] 53)) := hba.trans (hbb.mono hba.size)
  have hs1 : (w.alloc (.cells #[.bool s, .slice a n c, .slice b m d] 36)).heap.size = g + 1 := by rw [hg]; simp
  rw [hs1] at sd
  obtain ⟨w0, hw0⟩ : ∃ w0, w0 = (w.alloc (.cells #[.bool s, .slice a n c, .slice b m d] 36)).alloc (.cells #[.slice none 0 0, .int .i64 0] 53) := ⟨_, rfl⟩
  rw [← hw0] at sd hBB st2
  rw [← hg] at st2
  have HG : Hid (w.heap.size = g) := hg.symm
  clear hA hX hXi hL hX0 hpz hp' h0 hba hbb st hs1
  go_enter Tryz.func48, Tryz.ntmps48
  go_wp2_with fail
  rw [← hw0, ← hg]
  refine (hZ w0 hBB).mono ?_
  rintro e w1 ⟨rfl, hb1⟩
  have hB1 := hBB.trans (hb1.mono hBB.size)
  have st3 := st2.later hb1
  have sd3 := sd.later hb1
  clear hZ hw0 hg hb1 hBB st2 sd hq hz hp n2
  go_wp2_with fail
  refine (hF w1).mono ?_
  rintro e w2 ⟨a2, l2, c2, ls2, rfl, r2, m2, hb2⟩
  have hB2 := hB1.trans (hb2.mono hB1.size)
  have st4 := st3.later hb2
  have sd4 := sd3.later hb2
  obtain ⟨p0, p1, p2⟩ := st4.cells
  have hM2 := hM w2 hB2 r2 m2
  clear hF hb2 hB1 st3 sd3 hM n1
  go_wp2_with fail
  refine hM2.mono ?_
  rintro e w3 ⟨a3, l3, c3, ls3, rfl, r3, m3, e3, hb3⟩
  have hB3 := hB2.trans (hb3.mono hB2.size)
  have sd5 := sd4.later hb3
  have HL3 : Hid (l3 ≤ 60) := by
    show _ ≤ _
    have := r3.1.1
    rw [e3.out] at this
    have := HL.out.len
    omega
  have hT := trim10_any r3 m3.ws (by have := HL3.out; omega)
  rw [m3.num] at hT
  clear hM2 hb3 hB2 st4 sd4 p0 p1 p2 r2 m2 r3 m3 e3
  go_wp2_with fail
  refine hT.mono ?_
  rintro e w4 ⟨v4, U4, k, rfl, hU0, hUX, hk0, hU10, hO4, hb4⟩
  have hB4 := hB3.trans (hb4.mono hB3.size)
  have sd6 := sd5.later hb4
  obtain ⟨N, rfl⟩ := Int.eq_ofNat_of_zero_le hU0
  have hk1 : k = 0 := hk0 (by have := HX0.out; omega)
  subst hk1
  have hN1 : N = 0 := by
    have := HX0.out
    rw [this] at hUX
    simp at hUX
    omega
  subst hN1
  have hLN : Lt ((0 : Nat) : Int) 60 := ⟨by omega, by have := HL.out.2; have := HX0.out; subst this; exact HL.out.2⟩
  obtain ⟨a4, c4, rfl, r4⟩ := hO4.readsC
  have m4 := hLN.nm (by omega)
  have hTx := textZero_any r4 m4.ws (b := 10) (by have := hLN.len; have := r4.1.1; omega) (by omega) (by omega) (by rw [m4.num]; rfl)
  clear hT hb4 hB3 sd5 hU0 hUX hk0 hU10 hO4 r4 m4 hLN
  go_wp2_with fail
  refine hTx.mono ?_
  rintro e w5 ⟨rfl, hb5⟩
  have hB5 := hB4.trans (hb5.mono hB4.size)
  have sd7 := sd6.later hb5
  obtain ⟨c6, w6, hcv, hR6, hb6⟩ := bytes13 w5 ⟨#[48]⟩ (dg 1 0) rfl (by rw [dg_len]; omega)
  rw [dg_len] at hcv hR6
  have hB6 := hB5.trans (hb6.mono hB5.size)
  have sd8 := sd7.later hb6
  obtain ⟨p0, p1⟩ := sd8.cells
  obtain ⟨f0, f1⟩ := sd8.frozen
  have sd9 := (sd8.set (.slice (some ⟨w5.heap.size, 0, none⟩) 1 c6) (.int .i64 0)).cells
  have hin := in2 w6 (g + 1) (.slice (some ⟨w5.heap.size, 0, none⟩) 1 c6) (.int .i64 0)
  have hg5 : g + 1 < w5.heap.size := sd7.lt
  have hRR : Rb ((w6.setCell ⟨g + 1, 0, none⟩ (.slice (some ⟨w5.heap.size, 0, none⟩) 1 c6)).setCell ⟨g + 1, 1, none⟩ (.int .i64 0)) (some ⟨w5.heap.size, 0, none⟩) 1 c6 (dg 1 0) := ⟨hR6.1.inn hin (fun _ => off_of (by omega)), hR6.2⟩
  have hBB : Below w.heap.size w ((w6.setCell ⟨g + 1, 0, none⟩ (.slice (some ⟨w5.heap.size, 0, none⟩) 1 c6)).setCell ⟨g + 1, 1, none⟩ (.int .i64 0)) := below_inn hB6 hin (by rw [HG.out]; omega) (Nat.le_refl _)
  obtain ⟨B, hB⟩ : ∃ B, B = w5.heap.size := ⟨_, rfl⟩
  rw [← hB] at hRR hBB sd9 hcv hg5
  have HBg : Hid (w.heap.size ≤ B) := by show _ ≤ _; rw [HG.out]; omega
  clear hTx hb5 hB4 sd6 hR6 hb6 hB5 sd7 hB6 sd8 hin hB
  have HP1 : Hid ((0 : Int) - (p : Int) = 0) := by show _ = _; rw [HP0.out]; rfl
  have hp1 := HP0.out
  subst hp1
  clear HP1
  go_wp2
  refine bodyPost_ret (v := .agg #[.slice (some ⟨B, 0, none⟩) 1 c6, .int .i64 0]) (by simp [results, Tryz.results48, go_sem, sd9]) rfl ?_
  exact ⟨_, c6, rfl, HBg.out, hRR, hBB⟩
end Go.Proofs.YtceecgklgkiffabGreatDoor

/- Layer 13: sizeOf, top, Digits. -/
namespace Go.Proofs.YtceecgklgkiffabGreatDoor
open Go.ChangeShapes Go.WideShapes Go.ChangeAt Go.RowKit
open Na Ar Ep
set_option linter.unusedVariables false
namespace Ep
/-- a pattern's size in units of two to the -1074 -/
def szA (b : Int) : Nat := (numW b).toNat
theorem e2_cast (x : Int) : e2 x = ((2 ^ x.toNat : Nat) : Int) := by unfold e2; rw [Int.natCast_pow]; rfl
/-- a pattern's number as a fraction -/
theorem size_parts {b : Int} (hu : U b) (hf : ef b ≠ 2047) : (szA b = 0 ∧ (valR b).num.natAbs = 0 ∧ ((valR b).den : Int) = 1) ∨ (0 < szA b ∧ ∃ p, p ≤ 1074 ∧ ((valR b).den : Int) = 2 ^ p ∧ 0 < (valR b).num.natAbs ∧ szA b = (valR b).num.natAbs * 2 ^ (dX - p)) := by
  obtain ⟨P, e1, e2', e3, e4, e5, e6, e7⟩ := num_parts hu hf
  by_cases h0 : spM b = 0
  · left
    have hn : numW b = 0 := by rw [e7, h0, Int.zero_mul]
    have hv : valR b = ((0 : Int) : Rat) := by rw [binQ_val, h0, binQ_zero]
    refine ⟨by unfold szA; rw [hn]; rfl, ?_, ?_⟩ <;> rw [hv] <;> rfl
  · right
    obtain ⟨k, o, h1, h2, h3, _, _⟩ := two_form (M := spM b) (by omega)
    have hv : valR b = binQ (spS b) o (spX b + k) := by rw [binQ_val, h1, binQ_move _ (by omega)]
    obtain ⟨q1, q2, _⟩ := binQ_odd h2 h3 (spS b) (spX b + k)
    rw [← hv] at q1 q2
    obtain ⟨O, rfl⟩ := Int.eq_ofNat_of_zero_le (Int.le_of_lt h3)
    have hO : 0 < O := by omega
    obtain ⟨y, hy⟩ : ∃ y, y = spX b + (k : Int) := ⟨_, rfl⟩
    rw [← hy] at q1 q2
    have hA : (valR b).num.natAbs = O * 2 ^ y.toNat := by
      rw [e2_cast, ← Int.natCast_mul] at q1
      exact_mod_cast q1
    have hnum : szA b = O * 2 ^ (k + P) := by
      unfold szA
      rw [e7, h1, Nat.pow_add, ← Nat.mul_assoc]
      have : ((O : Int) * 2 ^ k * 2 ^ P) = ((O * 2 ^ k * 2 ^ P : Nat) : Int) := by push_cast; rfl
      rw [this]
      rfl
    refine ⟨by rw [hnum]; exact Nat.mul_pos hO (Nat.pow_pos (by omega)), (-y).toNat, by omega, ?_, ?_, ?_⟩
    · rw [q2]
      rfl
    · rw [hA]; exact Nat.mul_pos hO (Nat.pow_pos (by omega))
    · have hX : dX = 1074 := rfl
      have hs : y.toNat + (dX - (-y).toNat) = k + P := by omega
      rw [hnum, hA, Nat.mul_assoc, ← Nat.pow_add, hs]
/-- all digits of A units; of 0: one digit 0 -/
def Dz (A N L : Nat) (e : Int) : Prop := (A = 0 ∧ N = 0 ∧ L = 1 ∧ e = 0) ∨ (0 < A ∧ Dec A N L e)
theorem dz_uniq {A N L N' L' : Nat} {e e' : Int} (h : Dz A N L e) (h' : Dz A N' L' e') : N = N' ∧ L = L' ∧ e = e' := by
  rcases h with ⟨a, b, c, d⟩ | ⟨a, b⟩ <;> rcases h' with ⟨a', b', c', d'⟩ | ⟨a', b'⟩
  · exact ⟨by omega, by omega, by omega⟩
  · omega
  · omega
  · exact dec_uniq b b'
end Ep
set_option maxHeartbeats 3200000 in
set_option maxRecDepth 100000 in
theorem sizeOf_fin {b : Int} (hu : U b) (hf : ef b ≠ 2047) (w : World) :
    Calls Tryz.prog 19 #[.int .u64 b] w fun e w' => ∃ (B c' N L : Nat) (x : Int), e = .returned (.tuple #[.agg #[.slice (some ⟨B, 0, none⟩) L c', .int .i64 x], .int .i64 0]) ∧ w.heap.size ≤ B ∧ Rb w' (some ⟨B, 0, none⟩) L c' (dg L N) ∧ Dz (szA b) N L x ∧ (1 ≤ L ∧ L ≤ 1300 ∧ -1100 ≤ x ∧ x ≤ 1300) ∧ Below w.heap.size w w' := by
  have hV := fun w => nearValue_fin hu hf w
  have hsz := value_size hu hf
  have hD : ∀ {w : World} {s : Bool} {a b9 : Option Addr} {n c m d : Nat}, Rt w s a n c b9 m d (valR b) → Calls Tryz.prog 48 #[.agg #[.bool s, .slice a n c, .slice b9 m d]] w fun e w' => ∃ (B c' N L : Nat) (x : Int), e = .returned (.agg #[.slice (some ⟨B, 0, none⟩) L c', .int .i64 x]) ∧ w.heap.size ≤ B ∧ Rb w' (some ⟨B, 0, none⟩) L c' (dg L N) ∧ Dz (szA b) N L x ∧ (1 ≤ L ∧ L ≤ 1300 ∧ -1100 ≤ x ∧ x ≤ 1300) ∧ Below w.heap.size w w' := by
    intro w s a b9 n c m d hR
    rcases size_parts hu hf with ⟨z1, z2, z3⟩ | ⟨z0, p, z1, z2, z3, z4⟩
    · refine (decimalOf_zero hR hsz z3 z2).mono ?_
      rintro e w' ⟨a', c', rfl, hB, hr, hb⟩
      exact ⟨a', c', 0, 1, 0, rfl, hB, hr, Or.inl ⟨z1, rfl, rfl, rfl⟩, by omega, hb⟩
    · refine (decimalOf_any hR hsz z2 (by omega) z3).mono ?_
      rintro e w' ⟨a', c', N, L, k, rfl, hB, hr, ⟨h1, h2, h3, h4, h5⟩, h6, h7, hb⟩
      exact ⟨a', c', N, L, _, rfl, hB, hr, Or.inr ⟨z0, dec_of (by have : dX = 1074 := rfl; omega) z4 h1 h2 h3 h4 h5⟩, by omega, hb⟩
  have sd := sd_new w (.slice none 0 0) (.int .i64 0) 53
  have hba := alloc_below (w := w) (.cells #[.slice none 0 0, .int .i64 0] 53)
  obtain ⟨g, hg⟩ : ∃ g, g = w.heap.size := ⟨_, rfl⟩
  have HG : Hid (w.heap.size = g) := hg.symm
  obtain ⟨w0, hw0⟩ : ∃ w0, w0 = w.alloc (.cells #[.slice none 0 0, .int .i64 0] 53) := ⟨_, rfl⟩
  rw [← hw0] at sd hba
  rw [← hg] at sd
  generalize valR b = V at *
  generalize szA b = A at *
  clear hsz hf
  go_enter Tryz.func19, Tryz.ntmps19
  go_wp2_with fail
  rw [← hw0, ← hg]
  refine (hV w0).mono ?_
  rintro e w1 ⟨s1, v1, v2, rfl, hR1, hb1⟩
  obtain ⟨a1, n1, c1, b1, m1, d1, rfl, rfl, hRt⟩ := hR1.opens
  have hB1 := hba.trans (hb1.mono hba.size)
  have sd1 := sd.later hb1
  clear hV hw0 hg hb1 hba sd hR1
  go_wp2_with fail
  have hb2 := alloc_below (w := w1) (.cells #[.bool s1, .slice a1 n1 c1, .slice b1 m1 d1] 36)
  have hB2 := hB1.trans (hb2.mono hB1.size)
  refine (hD (hRt.later hb2)).mono ?_
  rintro e w3 ⟨B3, c3, N, L, x, rfl, hBg, hR3, hDz, hbd, hb3⟩
  have hgB : g < B3 := by have := (sd1.later hb2).lt; omega
  have HBg : Hid (w.heap.size ≤ B3) := by show _ ≤ _; rw [HG.out]; omega
  have hB3 := hB2.trans (hb3.mono hB2.size)
  have sd3 := (sd1.later hb2).later hb3
  obtain ⟨p0, p1⟩ := sd3.cells
  obtain ⟨f0, f1⟩ := sd3.frozen
  have sd9 := (sd3.set (.slice (some ⟨B3, 0, none⟩) L c3) (.int .i64 x)).cells
  have hin := in2 w3 g (.slice (some ⟨B3, 0, none⟩) L c3) (.int .i64 x)
  have hRR : Rb ((w3.setCell ⟨g, 0, none⟩ (.slice (some ⟨B3, 0, none⟩) L c3)).setCell ⟨g, 1, none⟩ (.int .i64 x)) (some ⟨B3, 0, none⟩) L c3 (dg L N) := ⟨hR3.1.inn hin (fun _ => off_of (by omega)), hR3.2⟩
  have hBB : Below w.heap.size w ((w3.setCell ⟨g, 0, none⟩ (.slice (some ⟨B3, 0, none⟩) L c3)).setCell ⟨g, 1, none⟩ (.int .i64 x)) := below_inn hB3 hin (by rw [HG.out]; omega) (Nat.le_refl _)
  clear hD hRt hB1 sd1 hBg hgB hb2 hB2 hb3 hB3 sd3 hR3 hin
  go_wp2
  refine bodyPost_ret (v := .tuple #[.agg #[.slice (some ⟨B3, 0, none⟩) L c3, .int .i64 x], .int .i64 0]) (by simp [results, Tryz.results19, go_sem, sd9]) rfl ?_
  exact ⟨B3, c3, N, L, x, rfl, HBg.out, hRR, hDz, hbd, hBB⟩
set_option maxHeartbeats 1600000 in
set_option maxRecDepth 100000 in
theorem top13_any {a : Option Addr} {L c : Nat} {x : Int} (hL : L ≤ 4000) (h0 : -5000 ≤ x) (h1 : x ≤ 5000) (w : World) :
    Calls Tryz.prog 21 #[.agg #[.slice a L c, .int .i64 x]] w fun e w' => e = .returned (.int .i64 ((L : Int) + x)) ∧ Below w.heap.size w w' := by
  have hba := alloc_below (w := w) (.cells #[.slice a L c, .int .i64 x] 53)
  have z : (L : Int) ≤ 4000 := by omega
  go_enter Tryz.func21, Tryz.ntmps21
  go_wp2
  go_ret
  exact ⟨rfl, hba⟩
set_option maxHeartbeats 1600000 in
set_option maxRecDepth 100000 in
theorem digits_fin {b : Int} (hu : U b) (hf : ef b ≠ 2047) (w : World) :
    Calls Tryz.prog 8 #[.int .u64 b] w fun e w' => ∃ (N L : Nat) (x : Int), e = .returned (.tuple #[.string ⟨(dg L N).toArray⟩, .int .i64 x, .int .i64 0]) ∧ Dz (szA b) N L x ∧ (1 ≤ L ∧ L ≤ 1300 ∧ -1100 ≤ x ∧ x ≤ 1300) ∧ Below w.heap.size w w' := by
  have hS := fun w => sizeOf_fin hu hf w
  generalize szA b = A at *
  clear hf
  go_enter Tryz.func8, Tryz.ntmps8
  go_wp2_with fail
  refine (hS w).mono ?_
  rintro e w1 ⟨B, c, N, L, x, rfl, hBg, hR, hD, hbd, hb1⟩
  have hba := alloc_below (w := w1) (.cells #[.slice (some ⟨B, 0, none⟩) L c, .int .i64 x] 53)
  have sd := sd_new w1 (.slice (some ⟨B, 0, none⟩) L c) (.int .i64 x) 53
  have hR1 := hR.later hba
  have hB1 := hb1.trans (hba.mono hb1.size)
  have hcv := conv8 hR1
  have hcv1 : (convert 45 9 (.slice (some ⟨B, 0, none⟩) L c)).run Tryz.prog (w1.alloc (.cells #[.slice (some ⟨B, 0, none⟩) L c, .int .i64 x] 53)).drew = .ok (.string ⟨(dg L N).toArray⟩) (w1.alloc (.cells #[.slice (some ⟨B, 0, none⟩) L c, .int .i64 x] 53)).drew := conv8 (hR1.later ⟨rfl, rfl, rfl, Nat.le_refl _, fun _ _ => rfl⟩)
  have hB2 : Below w.heap.size w (w1.alloc (.cells #[.slice (some ⟨B, 0, none⟩) L c, .int .i64 x] 53)).drew := hB1.trans ⟨rfl, rfl, rfl, Nat.le_refl _, fun _ _ => rfl⟩
  obtain ⟨p0, p1⟩ := sd.cells
  obtain ⟨DL, hDL⟩ : ∃ DL, DL = dg L N := ⟨_, rfl⟩
  have HDL : Hid (dg L N = DL) := hDL.symm
  rw [← hDL] at hcv hcv1
  clear hDL
  clear hS hR hR1 hb1 hba sd
  go_wp2
  go_region
  all_goals
    go_wp2
    refine bodyPost_ret (v := .tuple #[.string ⟨DL.toArray⟩, .int .i64 x, .int .i64 0]) (by simp [results, Tryz.results8, go_sem]) rfl ?_
    exact ⟨N, L, x, by rw [HDL.out], hD, hbd, hB2⟩
end Go.Proofs.YtceecgklgkiffabGreatDoor

/- Layer 13: zeros go from either end of a row. -/
namespace Go.Proofs.YtceecgklgkiffabGreatDoor
open Go.ChangeShapes Go.WideShapes Go.ChangeAt Go.RowKit
open Na Ar Ep
set_option linter.unusedVariables false
namespace Ep
theorem dg_getD {m X i : Nat} (h : i < m) : (dg m X).getD i 0 = UInt8.ofNat (48 + X / 10 ^ (m - 1 - i) % 10) := by
  rw [List.getD_eq_getElem?_getD, dg_at h]
  rfl
theorem tens_next {Q j : Nat} (h : Q % 10 ^ j = 0) (h2 : Q / 10 ^ j % 10 = 0) : Q % 10 ^ (j + 1) = 0 := by
  have e := Nat.div_add_mod Q (10 ^ j)
  have e2 := Nat.div_add_mod (Q / 10 ^ j) 10
  rw [h, Nat.add_zero] at e
  rw [h2, Nat.add_zero] at e2
  rw [← e, ← e2, Nat.pow_succ, ← Nat.mul_assoc]
  exact Nat.mul_mod_right _ _
/-- what is left of a row, without the zeros at its end -/
def Tr (n Q m Q' : Nat) : Prop := ∃ j, m + j = n ∧ Q = Q' * 10 ^ j ∧ (0 < m → Q' % 10 ≠ 0)
end Ep
set_option maxHeartbeats 3200000 in
set_option maxRecDepth 100000 in
theorem trimR_any {w : World} {a : Option Addr} {n c Q : Nat} (h : Rb w a n c (dg n Q)) (hn : n ≤ 8000) :
    Calls Tryz.prog 164 #[.slice a n c, .int .u8 48] w fun e w' => ∃ m Q', Tr n Q m Q' ∧ e = .returned (.slice a m c) ∧ Rb w' a m c (dg m Q') ∧ Below w.heap.size w w' := by
  have hc9 := h.2.2
  have hc8 := h.2.1
  go_enter Tryz.func164, Tryz.ntmps164
  go_wp2
  go_loopg [0] n (fun k s0 wr => ∃ (m j : Nat), s0 = .slice a m c ∧ m + j = n ∧ m ≤ k ∧ Hid (Q % 10 ^ j = 0) ∧ Rb wr a m c (dg m (Q / 10 ^ j)) ∧ Below w.heap.size w wr)
  case atStart => exact ⟨n, 0, rfl, rfl, Nat.le_refl _, (by show _ = _; rw [Nat.pow_zero]; omega), by rw [Nat.pow_zero, Nat.div_one]; exact h, Below.refl _ _⟩
  case round =>
    obtain ⟨m, j, rfl, hmj, hk, hQ, hR, hB⟩ := hrel
    clear h
    have HTr : ∀ _ : (0 < m → Q / 10 ^ j % 10 ≠ 0), Tr n Q m (Q / 10 ^ j) := fun q => ⟨j, hmj, by
      have e := Nat.div_add_mod Q (10 ^ j)
      rw [hQ.out, Nat.add_zero] at e
      rw [Nat.mul_comm]; exact e.symm, q⟩
    rcases Nat.eq_zero_or_pos m with h0 | h0
    · subst h0
      have HT := HTr (by omega)
      clear HTr
      go_wp2
      go_ret
      exact ⟨_, _, HT, rfl, hR, hB⟩
    · obtain ⟨i, rfl⟩ : ∃ i, m = i + 1 := ⟨m - 1, by omega⟩
      obtain ⟨g, o, rfl, hg, hcell⟩ := hR.cells (by omega)
      have hck := hcell i (by omega)
      obtain ⟨d, hd⟩ : ∃ d, d = Q / 10 ^ j % 10 := ⟨_, rfl⟩
      have hd9 : d < 10 := by omega
      rw [dg_getD (by omega), show i + 1 - 1 - i = 0 by omega, Nat.pow_zero, Nat.div_one, ← hd, dch_nat hd9] at hck
      have HC : Hid (((48 + d : Nat) : Int) = 48 + (d : Int)) := by show _ = _; omega
      rw [HC.out] at hck
      have e1 : ((i + 1 : Nat) : Int) - 1 = (i : Int) := by omega
      have e2 : (i : Int) ≤ 8000 := by omega
      have e3 : (0 : Int) < ((i + 1 : Nat) : Int) := by omega
      by_cases hd0 : d = 0
      · have hv : 48 + (d : Int) = 48 := by omega
        rw [hv] at hck
        have HQ2 : Hid (Q % 10 ^ (j + 1) = 0) := tens_next hQ.out (by omega)
        have hR2 := hR.take (k := i) (c' := c) (by omega) (by omega) hc9
        rw [dg_take (by omega), show i + 1 - i = 1 by omega, Nat.div_div_eq_div_mul, ← Nat.pow_add] at hR2
        clear hd hv hd0 hd9 HC hcell hR HTr
        go_wp2
        go_roundg i
        case measure => omega
        case rel => exact ⟨i, j + 1, rfl, by omega, Nat.le_refl _, HQ2.out, hR2, hB⟩
      · have hv : (48 + (d : Int) == 48) = false := by simp; omega
        have HT := HTr (fun _ => by omega)
        clear hd HTr hcell
        go_wp2
        go_ret
        exact ⟨_, _, HT, rfl, hR, hB⟩
set_option maxHeartbeats 3200000 in
set_option maxRecDepth 100000 in
theorem bTrimR_any {w : World} {a : Option Addr} {n c Q : Nat} (h : Rb w a n c (dg n Q)) (hn : n ≤ 8000) (h1 : 1 ≤ n) :
    Calls Tryz.prog 137 #[.slice a n c, .string ⟨#[48]⟩] w fun e w' => ∃ m Q', Tr n Q m Q' ∧ e = .returned (.slice a m c) ∧ Rb w' a m c (dg m Q') ∧ Below w.heap.size w w' := by
  have hT := trimR_any h hn
  have e3 : ((n : Int) == 0) = false := by simp; omega
  clear h
  go_enter Tryz.func137, Tryz.ntmps137
  go_wp2_with fail
  refine hT.mono ?_
  rintro e w' ⟨m, Q', h1, rfl, h2, hb⟩
  clear hT
  go_wp2
  go_ret
  exact ⟨m, Q', h1, rfl, h2, hb⟩
set_option maxHeartbeats 3200000 in
set_option maxRecDepth 100000 in
theorem trimL_any {w : World} {a : Option Addr} {n c Q : Nat} (h : Rb w a n c (dg n Q)) (hn : n ≤ 8000) (hQ0 : 0 < Q) (hQn : Q < 10 ^ n) :
    Calls Tryz.prog 138 #[.slice a n c, .int .u8 48] w fun e w' => ∃ a' m c', e = .returned (.slice a' m c') ∧ (1 ≤ m ∧ m ≤ n ∧ 10 ^ (m - 1) ≤ Q ∧ Q < 10 ^ m) ∧ Rb w' a' m c' (dg m Q) ∧ Below w.heap.size w w' := by
  have HQ : Hid (0 < Q) := hQ0
  clear hQ0
  go_enter Tryz.func138, Tryz.ntmps138
  go_wp2
  go_loopg [0] n (fun k s0 wr => ∃ (a' : Option Addr) (m c' : Nat), s0 = .slice a' m c' ∧ m ≤ n ∧ m ≤ k ∧ Hid (Q < 10 ^ m) ∧ Rb wr a' m c' (dg m Q) ∧ Below w.heap.size w wr)
  case atStart => exact ⟨a, n, c, rfl, Nat.le_refl _, Nat.le_refl _, hQn, h, Below.refl _ _⟩
  case round =>
    obtain ⟨a', m, c', rfl, hmn, hk, hQm, hR, hB⟩ := hrel
    clear h
    rcases Nat.eq_zero_or_pos m with h0 | h0
    · exfalso
      have h1 := hQm.out
      have h2 := HQ.out
      rw [h0, Nat.pow_zero] at h1
      omega
    · obtain ⟨i, rfl⟩ : ∃ i, m = i + 1 := ⟨m - 1, by omega⟩
      have hc9 := hR.2.2
      have hc8 := hR.2.1
      obtain ⟨g, o, rfl, hg, hcell⟩ := hR.cells (by omega)
      have hck := hcell 0 (by omega)
      obtain ⟨d, hd⟩ : ∃ d, d = Q / 10 ^ i % 10 := ⟨_, rfl⟩
      have hd9 : d < 10 := by omega
      rw [dg_getD (by omega), show i + 1 - 1 - 0 = i by omega, ← hd, dch_nat hd9, Nat.add_zero] at hck
      have HC : Hid (((48 + d : Nat) : Int) = 48 + (d : Int)) := by show _ = _; omega
      rw [HC.out] at hck
      have hdd : Q / 10 ^ i < 10 := by
        have := hQm.out
        rw [Nat.pow_succ] at this
        exact Nat.div_lt_of_lt_mul this
      have HD : Hid (d = Q / 10 ^ i) := by show _ = _; rw [hd, Nat.mod_eq_of_lt hdd]
      have e2 : (i : Int) ≤ 8000 := by omega
      have e3 : (0 : Int) < ((i + 1 : Nat) : Int) := by omega
      have e4 : (1 : Int) ≤ ((i + 1 : Nat) : Int) := by omega
      have e5 : ((i + 1 : Nat) : Int) ≤ (c' : Int) := by omega
      by_cases hd0 : d = 0
      · have hv : 48 + (d : Int) = 48 := by omega
        rw [hv] at hck
        have HQ2 : Hid (Q < 10 ^ i) := by
          show _ < _
          have h1 := HD.out
          rw [hd0] at h1
          exact (Nat.div_eq_zero_iff_lt (Nat.pow_pos (by omega))).1 h1.symm
        have hi1 : 1 ≤ i := by
          have h1 := HQ2.out
          have h2 := HQ.out
          rcases Nat.eq_zero_or_pos i with q | q
          · rw [q, Nat.pow_zero] at h1; omega
          · exact q
        have hc2 : ¬ c' = 1 := by omega
        have hR2 : Rb wr (some ⟨g, o + 1, none⟩) i (c' - 1) (dg i Q) := by
          have := hR.drop (k := 1) (m := i) (c' := c' - 1) (a' := some ⟨g, o + 1, none⟩) (by omega) (by omega) (by omega) (by omega) (fun _ g' o' e => by cases e; rfl)
          rw [dg_drop (by omega)] at this
          exact this
        clear hd hv hd0 hd9 HC hcell hdd HD
        go_wp2
        go_roundg i
        case measure => omega
        case rel => exact ⟨_, i, _, rfl, by omega, Nat.le_refl _, HQ2.out, hR2, hB⟩
      · have hv : (48 + (d : Int) == 48) = false := by simp; omega
        have HT : Hid (10 ^ i ≤ Q) := by
          show _ ≤ _
          have h1 := HD.out
          rcases Nat.lt_or_ge Q (10 ^ i) with q | q
          · rw [Nat.div_eq_of_lt q] at h1; omega
          · exact q
        clear hd hcell hdd HD
        go_wp2
        go_ret
        exact ⟨_, _, _, rfl, ⟨by omega, hmn, HT.out, hQm.out⟩, hR, hB⟩
set_option maxHeartbeats 3200000 in
set_option maxRecDepth 100000 in
theorem bTrimL_any {w : World} {a : Option Addr} {n c Q : Nat} (h : Rb w a n c (dg n Q)) (hn : n ≤ 8000) (hQ0 : 0 < Q) (hQn : Q < 10 ^ n) :
    Calls Tryz.prog 114 #[.slice a n c, .string ⟨#[48]⟩] w fun e w' => ∃ a' m c', e = .returned (.slice a' m c') ∧ (1 ≤ m ∧ m ≤ n ∧ 10 ^ (m - 1) ≤ Q ∧ Q < 10 ^ m) ∧ Rb w' a' m c' (dg m Q) ∧ Below w.heap.size w w' := by
  have hT := trimL_any h hn hQ0 hQn
  have hn0 : n ≠ 0 := fun e => by rw [e, Nat.pow_zero] at hQn; omega
  have e3 : ((n : Int) == 0) = false := by simp; omega
  clear h hQn
  go_enter Tryz.func114, Tryz.ntmps114
  go_wp2_with fail
  refine hT.mono ?_
  rintro e w' ⟨a', m, c', rfl, h1, h2, hb⟩
  clear hT
  go_wp2
  go_ret
  exact ⟨a', m, c', rfl, h1, h2, hb⟩
end Go.Proofs.YtceecgklgkiffabGreatDoor

/- Layer 13: behind; the span's memory; holds. -/
namespace Go.Proofs.YtceecgklgkiffabGreatDoor
open Go.ChangeShapes Go.WideShapes Go.ChangeAt Go.RowKit
open Na Ar Ep
set_option linter.unusedVariables false
theorem slice_at13 (g : Nat) {K L M : Nat} (hM : M = K + L) (h : 1 ≤ L) (W : World) : (Instr.slice 45 (.slice (some ⟨g, 0, none⟩) M M) (some (.int .i64 (K : Int))) none none).run Tryz.prog W = .ok (.slice (some ⟨g, K, none⟩) L L) W := by
  subst hM
  have := slice_tail13 g (M := K + L) (l := L) (by omega) W
  rw [Nat.add_sub_cancel, if_neg (by omega)] at this
  exact this
theorem step_copyWr {w : World} {ops : Array Oper} {o : Oper} {a : Act} {K : Act → World → Prop} {Q : Exit → Act → World → Prop} {E : Prop} (hgd : o.guard = none) (d s : Operand)
    (ho : o.op = .call { callee := .builtin .copy, args := #[d, s], argTypes := #[45, 45] }) {base g n : Nat} {l : List UInt8} (h : Wr w base g n l) {off dLen dCap m c : Nat} {sa : Option Addr} {t : List UInt8} (hs : Rb w sa m c t) (hd : m ≤ dLen) (hoff : off + dLen ≤ n) {ds : Option Nat} (hds : o.dst = ds)
    (e1 : a.eval d = .slice (some ⟨g, off, none⟩) dLen dCap) (e2 : a.eval s = .slice sa m c) (hh : ∀ w', Wr w' base g n (l.take off ++ t ++ l.drop (off + m)) → Below base w w' → K (a.put ds (goInt m)) w') : if Region.wanted o (yielded ops a.tmps) = true then Oper.wp Tryz.prog o a w K Q else E := by
  subst hds
  obtain ⟨w', hr, hp, hb⟩ := h.copy hs hd hoff o.type (dCap := dCap)
  exact step_copy8 hgd d s 45 45 ho _ _ e1 e2 hr (hh w' hp hb)
set_option maxHeartbeats 3200000 in
set_option maxRecDepth 100000 in
theorem behind13_any {w : World} {a : Option Addr} {L c N K M : Nat} {x T : Int} (hr0 : Rb w a L c (dg L N)) (h1 : 1 ≤ L) (hL : L ≤ 3000) (hK9 : K ≤ 4000) (hN : N < 10 ^ L) (hx0 : -5000 ≤ x) (hx1 : x ≤ 5000) (hT : T = (L : Int) + x + (K : Int)) (hM : M = K + L) :
    Calls Tryz.prog 81 #[.agg #[.slice a L c, .int .i64 x], .int .i64 T] w fun e w' => ∃ g, e = .returned (.slice (some ⟨g, 0, none⟩) M M) ∧ Rb w' (some ⟨g, 0, none⟩) M M (dg M N) ∧ Below w.heap.size w w' := by
  have hTop := fun w => top13_any (a := a) (L := L) (c := c) (x := x) (by omega) hx0 hx1 w
  have hZ := fun w => zeros13_any (n := M) (by omega) (by omega) w
  have hba := alloc_below (w := w) (.cells #[.slice a L c, .int .i64 x] 53)
  have hsd := sd_new w (.slice a L c) (.int .i64 x) 53
  have hr1 := hr0.later hba
  have e1 : T - ((L : Int) + x) = (K : Int) := by omega
  have e2 : (K : Int) + (L : Int) = (M : Int) := by omega
  have e3 : (M : Int) ≤ 8000 := by omega
  have e4 : (K : Int) ≤ (M : Int) := by omega
  have HRow : Hid (List.replicate K 48 ++ dg L N = dg M N) := by show _ = _; rw [hM]; exact (dg_pad K hN).symm
  have HM : Hid (M = K + L) := hM
  obtain ⟨w1, hw1⟩ : ∃ w1, w1 = w.alloc (.cells #[.slice a L c, .int .i64 x] 53) := ⟨_, rfl⟩
  obtain ⟨G, hG⟩ : ∃ G, G = w.heap.size := ⟨_, rfl⟩
  rw [← hw1] at hba hsd hr1
  have HG : Hid (w.heap.size = G) := hG.symm
  rw [← hG] at hsd
  obtain ⟨p0, p1⟩ := hsd.cells
  clear hr0 hN hT hM
  go_enter Tryz.func81, Tryz.ntmps81
  go_wp2_with fail
  rw [← hw1, ← hG]
  clear hw1 hG
  refine (hTop _).mono ?_
  rintro e w2 ⟨rfl, hb2⟩
  have hB2 := hba.trans (hb2.mono hba.size)
  have sd2 := hsd.later hb2
  have hr2 := hr1.later hb2
  obtain ⟨q0, q1⟩ := sd2.cells
  clear hTop hb2 hba hsd hr1 p0 p1
  go_wp2_with fail
  refine (hZ _).mono ?_
  rintro e w3 ⟨g, rfl, hWr, hb3⟩
  have sd3 := sd2.later hb3
  have hr3 := hr2.later hb3
  obtain ⟨u0, u1⟩ := sd3.cells
  have hsl := slice_at13 g (K := K) (L := L) HM.out h1
  have hB3 := hB2.trans (hb3.mono hB2.size)
  have HGB := sd2.lt
  clear hZ sd2 hr2 q0 q1 hb3
  go_wp2
  have hdr : Below w3.heap.size w3 w3.drew := ⟨rfl, rfl, rfl, Nat.le_refl _, fun _ _ => rfl⟩
  have hWd := hWr.later hdr
  have hRd := hr3.later hdr
  have hBd := hB3.trans (hdr.mono hB3.size)
  obtain ⟨v0, v1⟩ := (sd3.later hdr).cells
  clear hdr
  go_region_held_law (fun w' => w'.cell? ⟨G, 0, none⟩ = some (.slice a L c)) (first | exact v0 | assumption) ((refine step_copyWr rfl (.tmp 19) (.tmp 21) rfl hWd (off := K) (dLen := L) (dCap := L) hRd (Nat.le_refl _) (by have := HM.out; omega) (ds := some 22) rfl rfl rfl ?_; intro w4 hW4 hb4; have v9 := (hb4.cell (p := ⟨G, 0, none⟩) HGB).trans v0))
  have hR4 := hW4.row (c := M) (Nat.le_refl _) (by omega)
  rw [List.take_replicate, Nat.min_eq_left (by have := HM.out; omega), List.drop_of_length_le (by have := HM.out; simp; omega), List.append_nil, HRow.out] at hR4
  have hB4 := hBd.trans (hb4.mono hB2.size)
  clear hW4 hb4 hWd hRd hBd v0 v1 v9 hsl hWr hr3 sd3 u0 u1
  go_wp2
  go_ret
  exact ⟨g, rfl, hR4, hB4⟩
namespace Ep
/-- a struct of five lies so in the memory -/
def Se (w : World) (g : Nat) (t : TypeId) (v0 v1 v2 v3 v4 : Value) : Prop := w.heap[g]? = some (.cells #[v0, v1, v2, v3, v4] t (0, 0))
variable {w w' : World} {g : Nat} {t : TypeId} {v0 v1 v2 v3 v4 : Value}
theorem Se.lt (h : Se w g t v0 v1 v2 v3 v4) : g < w.heap.size := by
  rcases Nat.lt_or_ge g w.heap.size with q | q
  · exact q
  · unfold Se at h; rw [Array.getElem?_eq_none q] at h; cases h
theorem Se.later (h : Se w g t v0 v1 v2 v3 v4) (hb : Below w.heap.size w w') : Se w' g t v0 v1 v2 v3 v4 := by
  have := hb.block g h.lt
  unfold Se at *
  rw [this]
  exact h
theorem Se.cells (h : Se w g t v0 v1 v2 v3 v4) : w.cell? ⟨g, 0, none⟩ = some v0 ∧ w.cell? ⟨g, 1, none⟩ = some v1 ∧ w.cell? ⟨g, 2, none⟩ = some v2 ∧ w.cell? ⟨g, 3, none⟩ = some v3 ∧ w.cell? ⟨g, 4, none⟩ = some v4 := by
  unfold Se at h
  refine ⟨?_, ?_, ?_, ?_, ?_⟩ <;> simp [World.cell?, h]
theorem se_new (w : World) (v0 v1 v2 v3 v4 : Value) (t : TypeId) : Se (w.alloc (.cells #[v0, v1, v2, v3, v4] t)) w.heap.size t v0 v1 v2 v3 v4 := heap_alloc_new _ _
/-- whether a row lies between the ends, by how it compares with them -/
def hldB (tk : Bool) (k1 k2 : Int) : Bool := if tk then decide (k1 ≤ 0) && decide (k2 ≤ 0) else decide (k1 < 0) && decide (k2 < 0)
end Ep
set_option maxHeartbeats 3200000 in
set_option maxRecDepth 100000 in
theorem holds13_any {w : World} {al ao ah ar : Option Addr} {nl cl no co nh ch n c Q : Nat} {tk : Bool} {T : Int} {l h : List UInt8} (hl : Rb w al nl cl l) (hh : Rb w ah nh ch h) (hr : Rb w ar n c (dg n Q)) (h1 : 1 ≤ n) (hn : n ≤ 8000) {m Q' : Nat} (hT : ∀ m' Q'', Tr n Q m' Q'' → m' = m ∧ Q'' = Q') :
    Calls Tryz.prog 113 #[.agg #[.slice al nl cl, .slice ao no co, .slice ah nh ch, .bool tk, .int .i64 T], .slice ar n c] w fun e w' => e = .returned (.bool (hldB tk (cmpL l (dg m Q')) (cmpL (dg m Q') h))) ∧ Below w.heap.size w w' := by
  have hba := alloc_below (w := w) (.cells #[.slice al nl cl, .slice ao no co, .slice ah nh ch, .bool tk, .int .i64 T] 84)
  have hse := se_new w (.slice al nl cl) (.slice ao no co) (.slice ah nh ch) (.bool tk) (.int .i64 T) 84
  have hl1 := hl.later hba
  have hh1 := hh.later hba
  have hTr := bTrimR_any (hr.later hba) hn h1
  obtain ⟨w1, hw1⟩ : ∃ w1, w1 = w.alloc (.cells #[.slice al nl cl, .slice ao no co, .slice ah nh ch, .bool tk, .int .i64 T] 84) := ⟨_, rfl⟩
  obtain ⟨G, hG⟩ : ∃ G, G = w.heap.size := ⟨_, rfl⟩
  rw [← hw1] at hba hse hl1 hh1 hTr
  rw [← hG] at hse
  clear hl hh hr
  go_enter Tryz.func113, Tryz.ntmps113
  go_wp2_with fail
  rw [← hw1, ← hG]
  clear hw1 hG
  refine hTr.mono ?_
  rintro e w2 ⟨m', Q'', ht, rfl, hR2, hb2⟩
  obtain ⟨rfl, rfl⟩ := hT _ _ ht
  have hB2 := hba.trans (hb2.mono hba.size)
  have se2 := hse.later hb2
  have hl2 := hl1.later hb2
  have hh2 := hh1.later hb2
  have hC1 := fun (w0 : World) (hb : Below w2.heap.size w2 w0) => bCompare_any (hl2.later hb) (hR2.later hb)
  have hC2 := fun (w0 : World) (hb : Below w2.heap.size w2 w0) => bCompare_any (hR2.later hb) (hh2.later hb)
  have hk1 := cmpL_bd l (dg m' Q'')
  have hk2 := cmpL_bd (dg m' Q'') h
  obtain ⟨k1, hK1⟩ : ∃ k1, cmpL l (dg m' Q'') = k1 := ⟨_, rfl⟩
  obtain ⟨k2, hK2⟩ : ∃ k2, cmpL (dg m' Q'') h = k2 := ⟨_, rfl⟩
  have HK1 : Hid (cmpL l (dg m' Q'') = k1) := hK1
  have HK2 : Hid (cmpL (dg m' Q'') h = k2) := hK2
  rw [hK1] at hC1 hk1
  rw [hK2] at hC2 hk2
  clear hK1 hK2
  obtain ⟨p0, p1, p2, p3, p4⟩ := se2.cells
  clear hTr ht hT hb2 hba hse hl1 hh1 hl2 hh2 hR2
  go_wp2_with fail
  go_region_held3 (fun w' => w'.cell? ⟨G, 0, none⟩ = some (.slice al nl cl) ∧ w'.cell? ⟨G, 2, none⟩ = some (.slice ah nh ch) ∧ w'.cell? ⟨G, 3, none⟩ = some (.bool tk)) (go_keep) (first | (go_at_call_of 89 al; refine (hC1 _ (by first | exact Below.refl _ _ | exact below_drewN (Below.refl _ _) _)).mono ?_; rintro e wA ⟨rfl, hwA⟩; rw [hwA]) | (go_at_call_of 89 ah; refine (hC2 _ (by first | exact Below.refl _ _ | exact below_drewN (Below.refl _ _) _)).mono ?_; rintro e wB ⟨rfl, hwB⟩; rw [hwB]))
  have hbd : Below w.heap.size w w2.drew := hB2.trans ⟨rfl, rfl, rfl, Nat.le_refl _, fun _ _ => rfl⟩
  clear hC1 hC2 hwA hwB hB2
  rcases (by omega : k1 = -1 ∨ k1 = 0 ∨ k1 = 1) with rfl | rfl | rfl
  all_goals rcases (by omega : k2 = -1 ∨ k2 = 0 ∨ k2 = 1) with rfl | rfl | rfl
  all_goals cases tk
  all_goals
    go_wp2
    go_ret
    exact ⟨by rw [HK1.out, HK2.out]; rfl, hbd⟩
end Go.Proofs.YtceecgklgkiffabGreatDoor

/- Layer 13: nearest, shortest. -/
namespace Go.Proofs.YtceecgklgkiffabGreatDoor
open Go.ChangeShapes Go.WideShapes Go.ChangeAt Go.RowKit
open Na Ar Ep
set_option linter.unusedVariables false
namespace Ep
theorem tr_uniq {n Q m m' P P' : Nat} (h : Tr n Q m P) (h' : Tr n Q m' P') (hQ : Q < 10 ^ n) : m = m' ∧ P = P' := by
  obtain ⟨j, e1, e2, e3⟩ := h
  obtain ⟨i, f1, f2, f3⟩ := h'
  rcases Nat.lt_or_ge 0 Q with h0 | h0
  · have hm : 0 < m := by
      rcases Nat.eq_zero_or_pos m with q | q
      · exfalso
        have : j = n := by omega
        rw [this] at e2
        rcases Nat.eq_zero_or_pos P with z | z
        · rw [z] at e2; omega
        · have := Nat.mul_le_mul_right (10 ^ n) z; omega
      · exact q
    have hm' : 0 < m' := by
      rcases Nat.eq_zero_or_pos m' with q | q
      · exfalso
        have : i = n := by omega
        rw [this] at f2
        rcases Nat.eq_zero_or_pos P' with z | z
        · rw [z] at f2; omega
        · have := Nat.mul_le_mul_right (10 ^ n) z; omega
      · exact q
    have := tens_uniq (e2.symm.trans f2) (e3 hm) (f3 hm')
    exact ⟨by omega, this.1⟩
  · have z : ∀ {k R i : Nat}, Q = R * 10 ^ i → (0 < k → R % 10 ≠ 0) → k = 0 ∧ R = 0 := fun {k R i} h h' => by
      have p : 0 < 10 ^ i := Nat.pow_pos (by omega)
      have hR : R = 0 := by
        rcases Nat.eq_zero_or_pos R with q | q
        · exact q
        · have := Nat.mul_pos q p; omega
      rw [hR] at h'
      exact ⟨by rcases Nat.eq_zero_or_pos k with q | q; exact q; exact absurd rfl (h' q), hR⟩
    obtain ⟨a1, a2⟩ := z e2 e3
    obtain ⟨b1, b2⟩ := z f2 f3
    exact ⟨by omega, by omega⟩
theorem tr_ex : ∀ (n Q : Nat), Q < 10 ^ n → ∃ m P, Tr n Q m P
  | 0, Q, h => ⟨0, Q, 0, rfl, by simp, by omega⟩
  | n + 1, Q, h => by
    by_cases h0 : Q % 10 = 0
    · obtain ⟨m, P, j, h1, h2, h3⟩ := tr_ex n (Q / 10) (by rw [Nat.pow_succ] at h; omega)
      refine ⟨m, P, j + 1, by omega, ?_, h3⟩
      rw [Nat.pow_succ, ← Nat.mul_assoc, ← h2]
      omega
    · exact ⟨n + 1, Q, 0, rfl, by simp, fun _ => h0⟩
/-- digits without zeros at their ends, compared -/
theorem cmp_rows : ∀ (a b X Y : Nat), X < 10 ^ a → Y < 10 ^ b → (X * 10 ^ b < Y * 10 ^ a → cmpL (dg a X) (dg b Y) = -1) ∧ (Y * 10 ^ a < X * 10 ^ b → cmpL (dg a X) (dg b Y) = 1) ∧ (X * 10 ^ b = Y * 10 ^ a → a = b → cmpL (dg a X) (dg b Y) = 0)
  | 0, 0, X, Y, hX, hY => by
    have : X = 0 := by simpa using hX
    have : Y = 0 := by simpa using hY
    subst X Y
    exact ⟨by simp, by simp, fun _ _ => rfl⟩
  | 0, b + 1, X, Y, hX, hY => by
    have : X = 0 := by simpa using hX
    subst X
    rw [dg_cons]
    exact ⟨fun _ => rfl, by simp, fun _ h => by omega⟩
  | a + 1, 0, X, Y, hX, hY => by
    have : Y = 0 := by simpa using hY
    subst Y
    rw [dg_cons]
    exact ⟨by simp, fun _ => rfl, fun _ h => by omega⟩
  | a + 1, b + 1, X, Y, hX, hY => by
    have pa : 0 < 10 ^ a := Nat.pow_pos (by omega)
    have pb : 0 < 10 ^ b := Nat.pow_pos (by omega)
    have hx := Nat.mod_lt X pa
    have hy := Nat.mod_lt Y pb
    have ih := cmp_rows a b (X % 10 ^ a) (Y % 10 ^ b) hx hy
    rw [dg_mod, dg_mod] at ih
    have ex := Nat.div_add_mod X (10 ^ a)
    have ey := Nat.div_add_mod Y (10 ^ b)
    have dx : X / 10 ^ a < 10 := Nat.div_lt_of_lt_mul (by rw [Nat.pow_succ] at hX; exact hX)
    have dy : Y / 10 ^ b < 10 := Nat.div_lt_of_lt_mul (by rw [Nat.pow_succ] at hY; exact hY)
    rw [dg_cons, dg_cons, Nat.mod_eq_of_lt dx, Nat.mod_eq_of_lt dy]
    generalize X / 10 ^ a = d at *
    generalize Y / 10 ^ b = e at *
    generalize X % 10 ^ a = x at *
    generalize Y % 10 ^ b = y at *
    generalize dg a X = l at *
    generalize dg b Y = s at *
    subst ex ey
    have bx : x * 10 ^ b < 10 ^ a * 10 ^ b := Nat.mul_lt_mul_of_pos_right hx pb
    have by' : y * 10 ^ a < 10 ^ b * 10 ^ a := Nat.mul_lt_mul_of_pos_right hy pa
    have eX : (10 ^ a * d + x) * 10 ^ (b + 1) = 10 * (d * (10 ^ a * 10 ^ b) + x * 10 ^ b) := by rw [Nat.pow_succ]; grind
    have eY : (10 ^ b * e + y) * 10 ^ (a + 1) = 10 * (e * (10 ^ a * 10 ^ b) + y * 10 ^ a) := by rw [Nat.pow_succ]; grind
    rw [eX, eY]
    rw [Nat.mul_comm (10 ^ b) (10 ^ a)] at by'
    generalize 10 ^ a * 10 ^ b = P at *
    generalize x * 10 ^ b = u at *
    generalize y * 10 ^ a = v at *
    have hcm : cmpL (UInt8.ofNat (48 + d) :: l) (UInt8.ofNat (48 + e) :: s) = if d < e then -1 else if e < d then 1 else cmpL l s := by
      have c1 : (48 + d < 48 + e) ↔ d < e := by omega
      have c2 : (48 + e < 48 + d) ↔ e < d := by omega
      show (if (UInt8.ofNat (48 + d)).toNat < (UInt8.ofNat (48 + e)).toNat then -1 else if (UInt8.ofNat (48 + e)).toNat < (UInt8.ofNat (48 + d)).toNat then 1 else cmpL l s) = _
      rw [dch_nat dx, dch_nat dy]
      simp only [c1, c2]
    rw [hcm]
    rcases Nat.lt_trichotomy d e with q | q | q
    · have : (d + 1) * P ≤ e * P := Nat.mul_le_mul_right _ q
      rw [Nat.add_mul] at this
      rw [if_pos q]
      exact ⟨fun _ => rfl, fun _ => by omega, fun _ => by omega⟩
    · subst q
      rw [if_neg (by omega), if_neg (by omega)]
      exact ⟨fun h => ih.1 (by omega), fun h => ih.2.1 (by omega), fun h h2 => ih.2.2 (by omega) (by omega)⟩
    · have : (e + 1) * P ≤ d * P := Nat.mul_le_mul_right _ q
      rw [Nat.add_mul] at this
      rw [if_neg (by omega), if_pos q]
      exact ⟨fun _ => by omega, fun _ => rfl, fun _ => by omega⟩
theorem cmp_le {a b X Y : Nat} (hX : X < 10 ^ a) (hY : Y < 10 ^ b) (h0 : X * 10 ^ b = Y * 10 ^ a → a = b) : (cmpL (dg a X) (dg b Y) ≤ 0 ↔ X * 10 ^ b ≤ Y * 10 ^ a) ∧ (cmpL (dg a X) (dg b Y) < 0 ↔ X * 10 ^ b < Y * 10 ^ a) := by
  obtain ⟨c1, c2, c3⟩ := cmp_rows a b X Y hX hY
  rcases Nat.lt_trichotomy (X * 10 ^ b) (Y * 10 ^ a) with q | q | q
  · rw [c1 q]; exact ⟨⟨fun _ => by omega, fun _ => by omega⟩, ⟨fun _ => q, fun _ => by omega⟩⟩
  · rw [c3 q (h0 q)]; exact ⟨⟨fun _ => by omega, fun _ => by omega⟩, ⟨fun h => by omega, fun h => by omega⟩⟩
  · rw [c2 q]; exact ⟨⟨fun h => by omega, fun h => by omega⟩, ⟨fun h => by omega, fun h => by omega⟩⟩
theorem same_len {a b X Y : Nat} (hX : X % 10 ≠ 0) (hY : Y % 10 ≠ 0) (h : X * 10 ^ b = Y * 10 ^ a) : a = b := (tens_uniq h hX hY).2.symm
/-- the number of a row lies between the ends -/
def inB (tk : Bool) (a X c Z n Q : Nat) : Bool := if tk then decide (X * 10 ^ n ≤ Q * 10 ^ a) && decide (Q * 10 ^ c ≤ Z * 10 ^ n) else decide (X * 10 ^ n < Q * 10 ^ a) && decide (Q * 10 ^ c < Z * 10 ^ n)
theorem held_is {tk : Bool} {a X c Z n Q m P : Nat} (hX : X < 10 ^ a) (hX0 : X % 10 ≠ 0) (hZ : Z < 10 ^ c) (hZ0 : Z % 10 ≠ 0) (hT : Tr n Q m P) (hQ : Q < 10 ^ n) : hldB tk (cmpL (dg a X) (dg m P)) (cmpL (dg m P) (dg c Z)) = inB tk a X c Z n Q := by
  obtain ⟨j, h1, h2, h3⟩ := hT
  have pj : 0 < 10 ^ j := Nat.pow_pos (by omega)
  have hP : P < 10 ^ m := by
    rw [h2, ← h1, Nat.pow_add] at hQ
    exact Nat.lt_of_mul_lt_mul_right hQ
  have e1 : X * 10 ^ n = X * 10 ^ m * 10 ^ j := by rw [← h1, Nat.pow_add, Nat.mul_assoc]
  have e2 : Z * 10 ^ n = Z * 10 ^ m * 10 ^ j := by rw [← h1, Nat.pow_add, Nat.mul_assoc]
  have e3 : Q * 10 ^ a = P * 10 ^ a * 10 ^ j := by rw [h2, Nat.mul_assoc, Nat.mul_comm (10 ^ j), ← Nat.mul_assoc]
  have e4 : Q * 10 ^ c = P * 10 ^ c * 10 ^ j := by rw [h2, Nat.mul_assoc, Nat.mul_comm (10 ^ j), ← Nat.mul_assoc]
  have z : ∀ {A B k : Nat}, A % 10 ≠ 0 → A * 10 ^ m = P * 10 ^ k → k = m := fun {A B k} hA he => by
    rcases Nat.eq_zero_or_pos m with q | q
    · subst q
      have : P = 0 := by simpa using hP
      subst this
      simp at he
      omega
    · exact same_len hA (h3 q) he
  have l1 := cmp_le hX hP (fun h => z (B := 0) hX0 h)
  have l2 := cmp_le hP hZ (fun h => (z (B := 0) hZ0 h.symm).symm)
  have m1 : (X * 10 ^ n ≤ Q * 10 ^ a ↔ X * 10 ^ m ≤ P * 10 ^ a) ∧ (X * 10 ^ n < Q * 10 ^ a ↔ X * 10 ^ m < P * 10 ^ a) := by
    rw [e1, e3]
    exact ⟨⟨fun h => Nat.le_of_mul_le_mul_right h pj, fun h => Nat.mul_le_mul_right _ h⟩, ⟨fun h => Nat.lt_of_mul_lt_mul_right h, fun h => Nat.mul_lt_mul_of_pos_right h pj⟩⟩
  have m2 : (Q * 10 ^ c ≤ Z * 10 ^ n ↔ P * 10 ^ c ≤ Z * 10 ^ m) ∧ (Q * 10 ^ c < Z * 10 ^ n ↔ P * 10 ^ c < Z * 10 ^ m) := by
    rw [e2, e4]
    exact ⟨⟨fun h => Nat.le_of_mul_le_mul_right h pj, fun h => Nat.mul_le_mul_right _ h⟩, ⟨fun h => Nat.lt_of_mul_lt_mul_right h, fun h => Nat.mul_lt_mul_of_pos_right h pj⟩⟩
  unfold hldB inB
  cases tk
  · rw [if_neg (by simp), if_neg (by simp), decide_eq_decide.2 (l1.2.trans m1.2.symm), decide_eq_decide.2 (l2.2.trans m2.2.symm)]
  · rw [if_pos rfl, if_pos rfl, decide_eq_decide.2 (l1.1.trans m1.1.symm), decide_eq_decide.2 (l2.1.trans m2.1.symm)]
end Ep
/-- holds, by numbers -/
theorem holds13_num {w : World} {al ao ah ar : Option Addr} {nl cl no co nh ch n c Q X Z : Nat} {tk : Bool} {T : Int} (hl : Rb w al nl cl (dg nl X)) (hh : Rb w ah nh ch (dg nh Z)) (hr : Rb w ar n c (dg n Q)) (h1 : 1 ≤ n) (hn : n ≤ 8000) (hX : X < 10 ^ nl) (hX0 : X % 10 ≠ 0) (hZ : Z < 10 ^ nh) (hZ0 : Z % 10 ≠ 0) (hQ : Q < 10 ^ n) :
    Calls Tryz.prog 113 #[.agg #[.slice al nl cl, .slice ao no co, .slice ah nh ch, .bool tk, .int .i64 T], .slice ar n c] w fun e w' => e = .returned (.bool (inB tk nl X nh Z n Q)) ∧ Below w.heap.size w w' := by
  obtain ⟨m, P, hT⟩ := tr_ex n Q hQ
  have := holds13_any (ao := ao) (no := no) (co := co) (tk := tk) (T := T) hl hh hr h1 hn (m := m) (Q' := P) (fun m' Q'' h => tr_uniq h hT hQ)
  rw [held_is hX hX0 hZ hZ0 hT hQ] at this
  exact this
namespace Ep
/-- of the two next to it the one that is taken -/
def nrR (hA hB u : Bool) (Q : Nat) : Nat := if hA = false then Q else if hB && !u then Q else Q + 1
end Ep
set_option maxHeartbeats 6400000 in
set_option maxRecDepth 100000 in
theorem nearest13_any {w : World} {al ao ah : Option Addr} {nl cl no co nh ch n X N Z : Nat} {tk : Bool} {T : Int} (hl : Rb w al nl cl (dg nl X)) (ho : Rb w ao no co (dg no N)) (hh : Rb w ah nh ch (dg nh Z)) (h1 : 1 ≤ n) (hn : n < no) (hno : no ≤ 4000) (hX : X < 10 ^ nl) (hX0 : X % 10 ≠ 0) (hN : N < 10 ^ (no - 1)) (hN0 : N % 10 ≠ 0) (hZ : Z < 10 ^ nh) (hZ0 : Z % 10 ≠ 0) :
    Calls Tryz.prog 82 #[.agg #[.slice al nl cl, .slice ao no co, .slice ah nh ch, .bool tk, .int .i64 T], .int .i64 (n : Int)] w fun e w' => ∃ a' c' R, R = nrR (inB tk nl X nh Z n (N / 10 ^ (no - n) + 1)) (inB tk nl X nh Z n (N / 10 ^ (no - n))) (up N (10 ^ (no - n))) (N / 10 ^ (no - n)) ∧ e = .returned (.tuple #[.slice a' n c', .bool (inB tk nl X nh Z n (N / 10 ^ (no - n) + 1) || inB tk nl X nh Z n (N / 10 ^ (no - n)))]) ∧ Rb w' a' n c' (dg n R) ∧ Below w.heap.size w w' := by
  have hba := alloc_below (w := w) (.cells #[.slice al nl cl, .slice ao no co, .slice ah nh ch, .bool tk, .int .i64 T] 84)
  have hse := se_new w (.slice al nl cl) (.slice ao no co) (.slice ah nh ch) (.bool tk) (.int .i64 T) 84
  have hl1 := hl.later hba
  have hh1 := hh.later hba
  have hC := cut13_any (ho.later hba) (n := n) (by omega)
  rw [dg_take (by omega), dg_drop (by omega)] at hC
  obtain ⟨k, hk⟩ : ∃ k, k = no - n := ⟨_, rfl⟩
  have hk1 : 1 ≤ k := by omega
  have hQ9 : N / 10 ^ k < 10 ^ (n - 1) := by
    apply Nat.div_lt_of_lt_mul
    rw [← Nat.pow_add, show k + (n - 1) = no - 1 by omega]
    exact hN
  have hQ8 : 10 ^ (n - 1) + 1 ≤ 10 ^ n := by
    obtain ⟨i, rfl⟩ : ∃ i, n = i + 1 := ⟨n - 1, by omega⟩
    have : 0 < 10 ^ i := Nat.pow_pos (by omega)
    rw [show i + 1 - 1 = i by omega, Nat.pow_succ]
    omega
  have hup := upL_row (N := N) (n := n) (k := k) hk1 hN0 (Nat.lt_of_lt_of_le hN (Nat.pow_le_pow_right (by omega) (by omega)))
  rw [← hk] at hC ⊢
  obtain ⟨Q, hQ⟩ : ∃ Q, Q = N / 10 ^ k := ⟨_, rfl⟩
  rw [← hQ] at hC hQ9 hup ⊢
  have hQn : Q + 1 < 10 ^ n := by omega
  have hnx : nxl n Q = n := by unfold nxl; rw [if_pos hQn]
  obtain ⟨u, hu⟩ : ∃ u, u = up N (10 ^ k) := ⟨_, rfl⟩
  rw [← hu] at hup ⊢
  obtain ⟨hA, hhA⟩ : ∃ hA, hA = inB tk nl X nh Z n (Q + 1) := ⟨_, rfl⟩
  obtain ⟨hB, hhB⟩ : ∃ hB, hB = inB tk nl X nh Z n Q := ⟨_, rfl⟩
  rw [← hhA, ← hhB]
  have HA : Hid (inB tk nl X nh Z n (Q + 1) = hA) := hhA.symm
  have HB : Hid (inB tk nl X nh Z n Q = hB) := hhB.symm
  obtain ⟨w1, hw1⟩ : ∃ w1, w1 = w.alloc (.cells #[.slice al nl cl, .slice ao no co, .slice ah nh ch, .bool tk, .int .i64 T] 84) := ⟨_, rfl⟩
  obtain ⟨G, hG⟩ : ∃ G, G = w.heap.size := ⟨_, rfl⟩
  rw [← hw1] at hba hse hl1 hh1 hC
  rw [← hG] at hse
  have z0 : (n : Int) ≤ 4000 := by omega
  obtain ⟨p0, p1, p2, p3, p4⟩ := hse.cells
  clear hl hh ho hk hQ hu hhA hhB
  go_enter Tryz.func82, Tryz.ntmps82
  go_wp2_with fail
  rw [← hw1, ← hG]
  clear hw1 hG
  refine hC.mono ?_
  rintro e w2 ⟨a1, a2, rfl, hR1, hR2, hb2⟩
  have hB2 := hba.trans (hb2.mono hba.size)
  have se2 := hse.later hb2
  have hl2 := hl1.later hb2
  have hh2 := hh1.later hb2
  have hNx := next13_any hR1 (by omega) (by omega)
  clear hC hba hse hl1 hh1 hb2 p0 p1 p2 p3 p4
  go_wp2_with fail
  refine hNx.mono ?_
  rintro e w3 ⟨a3, n3, c3, rfl, hn3, hR3, hb3⟩
  rw [hnx] at hn3
  rw [hn3] at hR3 ⊢
  clear hn3
  have hB3 := hB2.trans (hb3.mono hB2.size)
  have se3 := se2.later hb3
  have hl3 := hl2.later hb3
  have hh3 := hh2.later hb3
  have hR13 := hR1.later hb3
  have hR23 := hR2.later hb3
  have hHA := holds13_num (ao := ao) (no := no) (co := co) (tk := tk) (T := T) hl3 hh3 hR3 h1 (by omega) hX hX0 hZ hZ0 hQn
  rw [HA.out] at hHA
  obtain ⟨p0, p1, p2, p3, p4⟩ := se3.cells
  clear hNx hB2 se2 hl2 hh2 hb3 hR1 hR2
  go_wp2_with fail
  refine hHA.mono ?_
  rintro e w4 ⟨rfl, hb4⟩
  have hB4 := hB3.trans (hb4.mono hB3.size)
  have se4 := se3.later hb4
  have hR14 := hR13.later hb4
  have hR24 := hR23.later hb4
  have hR34 := hR3.later hb4
  have hHB := holds13_num (ao := ao) (no := no) (co := co) (tk := tk) (T := T) (hl3.later hb4) (hh3.later hb4) hR14 h1 (by omega) hX hX0 hZ hZ0 (Nat.lt_of_succ_lt hQn)
  rw [HB.out] at hHB
  obtain ⟨q0, q1, q2, q3, q4⟩ := se4.cells
  clear hHA hB3 se3 hl3 hh3 hb4 hR13 hR23 hR3 p0 p1 p2 p3 p4
  cases hA
  · go_wp2_with fail
    refine hHB.mono ?_
    rintro e w5 ⟨rfl, hb5⟩
    have hB5 := hB4.trans (hb5.mono hB4.size)
    have hR15 := hR14.later hb5
    clear hHB hb5 hB4 hR14 hR24 hR34 q0 q1 q2 q3 q4
    go_wp2
    go_ret2
    exact ⟨_, _, _, rfl, rfl, hR15, hB5⟩
  · go_wp2_with fail
    refine hHB.mono ?_
    rintro e w5 ⟨rfl, hb5⟩
    have hB5 := hB4.trans (hb5.mono hB4.size)
    have hR15 := hR14.later hb5
    have hR25 := hR24.later hb5
    have hR35 := hR34.later hb5
    have hGu := goesUp_any hR15 hR25
    rw [hup] at hGu
    clear hHB hb5 hB4 hR14 hR24 hR34 q0 q1 q2 q3 q4
    cases hB
    · go_wp2
      go_ret2
      exact ⟨_, _, _, rfl, rfl, hR35, hB5⟩
    · go_wp2_with fail
      refine hGu.mono ?_
      rintro e w6 ⟨rfl, hb6⟩
      have hB6 := hB5.trans (hb6.mono hB5.size)
      have hR16 := hR15.later hb6
      have hR36 := hR35.later hb6
      clear hGu hb6 hB5 hR15 hR25 hR35
      cases u
      · go_wp2
        go_ret2
        exact ⟨_, _, _, rfl, rfl, hR16, hB6⟩
      · go_wp2
        go_ret2
        exact ⟨_, _, _, rfl, rfl, hR36, hB6⟩
end Go.Proofs.YtceecgklgkiffabGreatDoor

/- Layer 13: a row's decimal; shortest. -/
namespace Go.Proofs.YtceecgklgkiffabGreatDoor
open Go.ChangeShapes Go.WideShapes Go.ChangeAt Go.RowKit
open Na Ar Ep
set_option linter.unusedVariables false
theorem rb_away {w : World} {B o n c g : Nat} {l : List UInt8} (h : Rb w (some ⟨B, o, none⟩) n c l) (hn : 0 < n) {t : TypeId} {x y : Value} (hs : Sd w g t x y) (hx : ∀ v, x ≠ .int .u8 v) (hy : ∀ v, y ≠ .int .u8 v) : B ≠ g := by
  rintro rfl
  obtain ⟨g', o', e, _, hc⟩ := h.cells hn
  cases e
  have h0 := hc 0 hn
  unfold Sd at hs
  rw [Nat.add_zero] at h0
  simp only [World.cell?, hs] at h0
  rcases o with _ | _ | o
  · simp at h0; exact hx _ h0
  · simp at h0; exact hy _ h0
  · simp at h0
set_option maxHeartbeats 3200000 in
set_option maxRecDepth 100000 in
theorem decimal13s_any {w : World} {al ao ah ar : Option Addr} {nl cl no co nh ch n c R : Nat} {tk : Bool} {T : Int} (hr : Rb w ar n c (dg n R)) (hn : n ≤ 4000) (hR0 : 0 < R) (hRn : R < 10 ^ n) (hT0 : -5000 ≤ T) (hT1 : T ≤ 5000) :
    Calls Tryz.prog 83 #[.agg #[.slice al nl cl, .slice ao no co, .slice ah nh ch, .bool tk, .int .i64 T], .slice ar n c] w fun e w' => ∃ a' m c', e = .returned (.agg #[.slice a' m c', .int .i64 (T - n)]) ∧ (1 ≤ m ∧ m ≤ n ∧ 10 ^ (m - 1) ≤ R ∧ R < 10 ^ m) ∧ Rb w' a' m c' (dg m R) ∧ Below w.heap.size w w' := by
  have hba := alloc_below (w := w) (.cells #[.slice al nl cl, .slice ao no co, .slice ah nh ch, .bool tk, .int .i64 T] 84)
  have hse := se_new w (.slice al nl cl) (.slice ao no co) (.slice ah nh ch) (.bool tk) (.int .i64 T) 84
  obtain ⟨w0, hw0⟩ : ∃ w0, w0 = w.alloc (.cells #[.slice al nl cl, .slice ao no co, .slice ah nh ch, .bool tk, .int .i64 T] 84) := ⟨_, rfl⟩
  obtain ⟨G, hG⟩ : ∃ G, G = w.heap.size := ⟨_, rfl⟩
  have hs0 : w0.heap.size = w.heap.size + 1 := by rw [hw0]; simp
  rw [← hw0] at hba hse
  rw [← hG] at hse
  have hbb := alloc_below (w := w0) (.cells #[.slice none 0 0, .int .i64 0] 53)
  have hsd := sd_new w0 (.slice none 0 0) (.int .i64 0) 53
  have hse1 := hse.later hbb
  have hr1 := (hr.later hba).later hbb
  have hB1 := hba.trans (hbb.mono hba.size)
  obtain ⟨w1, hw1⟩ : ∃ w1, w1 = w0.alloc (.cells #[.slice none 0 0, .int .i64 0] 53) := ⟨_, rfl⟩
  obtain ⟨G1, hG1⟩ : ∃ G1, G1 = w0.heap.size := ⟨_, rfl⟩
  have HG1 : Hid (w.heap.size + 1 = G1) := by show _ = _; omega
  rw [← hw1] at hsd hse1 hr1 hB1
  rw [← hG1] at hsd
  have hTL := fun (w9 : World) (hb : Below w1.heap.size w1 w9) => bTrimL_any (hr1.later hb) (by omega) hR0 hRn
  have hcl : ∀ w9, Below w1.heap.size w1 w9 → w9.cell? ⟨G, 4, none⟩ = some (.int .i64 T) ∧ (w9.cell? ⟨G1, 0, none⟩ = some (.slice none 0 0) ∧ w9.cell? ⟨G1, 1, none⟩ = some (.int .i64 0)) ∧ (w9.frozen? ⟨G1, 0, none⟩ = false ∧ w9.frozen? ⟨G1, 1, none⟩ = false) := fun w9 hb => ⟨(hse1.later hb).cells.2.2.2.2, (hsd.later hb).cells, (hsd.later hb).frozen⟩
  obtain ⟨x4, ⟨v0, v1⟩, ⟨f0, f1⟩⟩ := hcl w1 (Below.refl _ _)
  have z0 : (n : Int) ≤ 4000 := by omega
  have ng : ¬ G = G1 := by omega
  have ng' : ¬ G1 = G := by omega
  have HW : Hid ((w.alloc (.cells #[.slice al nl cl, .slice ao no co, .slice ah nh ch, .bool tk, .int .i64 T] 84)).alloc (.cells #[.slice none 0 0, .int .i64 0] 53) = w1) := by show _ = _; rw [hw1, hw0]
  have HG : Hid (w.heap.size = G) := hG.symm
  clear hr hr1 hba hbb hse hse1 hs0 hw0 hw1 hG hG1
  go_enter Tryz.func83, Tryz.ntmps83
  go_wp2_with fail
  rw [HW.out, HG1.out, HG.out]
  go_region_held3 (fun w' => w'.cell? ⟨G, 4, none⟩ = some (.int .i64 T)) (go_keep) (first | (go_at_call 114; refine (hTL _ (by first | exact Below.refl _ _ | exact below_drewN (Below.refl _ _) _)).mono ?_; rintro e wA ⟨a', m, c', rfl, hm, hRA, hbA⟩; clear x4 v0 v1 f0 f1; obtain ⟨x4, ⟨v0, v1⟩, ⟨f0, f1⟩⟩ := hcl wA (by first | exact hbA | exact (below_drewN (Below.refl _ _) _).trans (hbA.mono (Nat.le_refl _)))))
  have hbA' : Below w1.heap.size w1 wA := by first | exact hbA | exact (below_drewN (Below.refl _ _) _).trans (hbA.mono (Nat.le_refl _))
  have hsdA := hsd.later hbA'
  obtain ⟨B, o, rfl, _, _⟩ := hRA.cells (by omega)
  have hne := rb_away hRA (by omega) hsdA (by intro v e; cases e) (by intro v e; cases e)
  have hwr : IntKind.i64.wrap (T - (n : Int)) = T - (n : Int) := IntWalk.i64_in _ (by omega)
  rw [hwr]
  have sd9 := (hsdA.set (.slice (some ⟨B, o, none⟩) m c') (.int .i64 (T - (n : Int)))).cells
  have hin := in2 wA G1 (.slice (some ⟨B, o, none⟩) m c') (.int .i64 (T - (n : Int)))
  have hRR : Rb ((wA.setCell ⟨G1, 0, none⟩ (.slice (some ⟨B, o, none⟩) m c')).setCell ⟨G1, 1, none⟩ (.int .i64 (T - (n : Int)))) (some ⟨B, o, none⟩) m c' (dg m R) := ⟨hRA.1.inn hin (fun _ => off_of hne), hRA.2⟩
  have hBB : Below w.heap.size w ((wA.setCell ⟨G1, 0, none⟩ (.slice (some ⟨B, o, none⟩) m c')).setCell ⟨G1, 1, none⟩ (.int .i64 (T - (n : Int)))) := below_inn (hB1.trans (hbA'.mono hB1.size)) hin (by rw [← HG1.out]; omega) (Nat.le_refl _)
  clear hTL hcl hbA hbA' hsdA hRA hin hB1 x4 v0 v1 f0 f1 hsd
  go_wp2
  refine bodyPost_ret (v := .agg #[.slice (some ⟨B, o, none⟩) m c', .int .i64 (T - (n : Int))]) (by simp [results, Tryz.results83, go_sem, sd9]) rfl ?_
  exact ⟨_, m, c', rfl, hm, hRR, hBB⟩
namespace Ep
/-- whether a number of so many digits was found -/
def fnd (tk : Bool) (nl X nh Z no N n : Nat) : Bool := inB tk nl X nh Z n (N / 10 ^ (no - n) + 1) || inB tk nl X nh Z n (N / 10 ^ (no - n))
def nrN (tk : Bool) (nl X nh Z no N n : Nat) : Nat := nrR (inB tk nl X nh Z n (N / 10 ^ (no - n) + 1)) (inB tk nl X nh Z n (N / 10 ^ (no - n))) (up N (10 ^ (no - n))) (N / 10 ^ (no - n))
/-- what shortest finds -/
def ShF (tk : Bool) (nl X nh Z no N : Nat) (T : Int) (D : Nat) (E : Int) : Prop :=
  (∃ n, 1 ≤ n ∧ n < no ∧ (∀ i, 1 ≤ i → i < n → fnd tk nl X nh Z no N i = false) ∧ fnd tk nl X nh Z no N n = true ∧ D = nrN tk nl X nh Z no N n ∧ E = T - n) ∨ ((∀ i, 1 ≤ i → i < no → fnd tk nl X nh Z no N i = false) ∧ D = N ∧ E = T - no)
theorem inB_pos {tk : Bool} {a X c Z n Q : Nat} (hX : 0 < X) (h : inB tk a X c Z n Q = true) : 0 < Q := by
  have p : 0 < X * 10 ^ n := Nat.mul_pos hX (Nat.pow_pos (by omega))
  rcases Nat.eq_zero_or_pos Q with q | q
  · exfalso
    subst q
    unfold inB at h
    cases tk
    · simp at h
    · simp at h; omega
  · exact q
theorem nrN_pos {tk : Bool} {nl X nh Z no N n : Nat} (hX : 0 < X) (h : fnd tk nl X nh Z no N n = true) : 0 < nrN tk nl X nh Z no N n := by
  unfold fnd at h
  unfold nrN nrR
  generalize hA : inB tk nl X nh Z n (N / 10 ^ (no - n) + 1) = bA at *
  cases bA
  · rw [if_pos rfl]
    exact inB_pos hX (by simpa using h)
  · rw [if_neg (by simp)]
    split
    · rename_i q
      exact inB_pos hX (by simp at q; exact q.1)
    · exact Nat.succ_pos _
theorem nrN_lt {tk : Bool} {nl X nh Z no N n : Nat} (h1 : 1 ≤ n) (hn : n < no) (hN : N < 10 ^ (no - 1)) : nrN tk nl X nh Z no N n < 10 ^ n := by
  have hQ9 : N / 10 ^ (no - n) < 10 ^ (n - 1) := by
    apply Nat.div_lt_of_lt_mul
    rw [← Nat.pow_add, show no - n + (n - 1) = no - 1 by omega]
    exact hN
  have hQ8 : 10 ^ (n - 1) + 1 ≤ 10 ^ n := by
    obtain ⟨i, rfl⟩ : ∃ i, n = i + 1 := ⟨n - 1, by omega⟩
    have : 0 < 10 ^ i := Nat.pow_pos (by omega)
    rw [show i + 1 - 1 = i by omega, Nat.pow_succ]
    omega
  unfold nrN nrR
  split
  · omega
  · split <;> omega
end Ep
set_option maxHeartbeats 6400000 in
set_option maxRecDepth 100000 in
theorem shortest13s_any {w : World} {al ao ah : Option Addr} {nl cl no co nh ch X N Z : Nat} {tk : Bool} {T : Int} (hl : Rb w al nl cl (dg nl X)) (ho : Rb w ao no co (dg no N)) (hh : Rb w ah nh ch (dg nh Z)) (hno1 : 1 ≤ no) (hno : no ≤ 4000) (hX : X < 10 ^ nl) (hX0 : X % 10 ≠ 0) (hN : N < 10 ^ (no - 1)) (hN0 : N % 10 ≠ 0) (hZ : Z < 10 ^ nh) (hZ0 : Z % 10 ≠ 0) (hT0 : -5000 ≤ T) (hT1 : T ≤ 5000) :
    Calls Tryz.prog 46 #[.agg #[.slice al nl cl, .slice ao no co, .slice ah nh ch, .bool tk, .int .i64 T]] w fun e w' => ∃ a' m c' D E, e = .returned (.agg #[.slice a' m c', .int .i64 E]) ∧ (1 ≤ m ∧ m ≤ no ∧ 10 ^ (m - 1) ≤ D ∧ D < 10 ^ m) ∧ Rb w' a' m c' (dg m D) ∧ ShF tk nl X nh Z no N T D E ∧ Below w.heap.size w w' := by
  have hba := alloc_below (w := w) (.cells #[.slice al nl cl, .slice ao no co, .slice ah nh ch, .bool tk, .int .i64 T] 84)
  have hse := se_new w (.slice al nl cl) (.slice ao no co) (.slice ah nh ch) (.bool tk) (.int .i64 T) 84
  obtain ⟨w0, hw0⟩ : ∃ w0, w0 = w.alloc (.cells #[.slice al nl cl, .slice ao no co, .slice ah nh ch, .bool tk, .int .i64 T] 84) := ⟨_, rfl⟩
  obtain ⟨G, hG⟩ : ∃ G, G = w.heap.size := ⟨_, rfl⟩
  have hs0 : w0.heap.size = w.heap.size + 1 := by rw [hw0]; simp
  rw [← hw0] at hba hse
  rw [← hG] at hse
  have hbb := alloc_below (w := w0) (.cells #[.slice none 0 0, .int .i64 0] 53)
  have hsd := sd_new w0 (.slice none 0 0) (.int .i64 0) 53
  have hse1 := hse.later hbb
  have hl1 := (hl.later hba).later hbb
  have ho1 := (ho.later hba).later hbb
  have hh1 := (hh.later hba).later hbb
  have hB1 := hba.trans (hbb.mono hba.size)
  obtain ⟨w1, hw1⟩ : ∃ w1, w1 = w0.alloc (.cells #[.slice none 0 0, .int .i64 0] 53) := ⟨_, rfl⟩
  obtain ⟨G1, hG1⟩ : ∃ G1, G1 = w0.heap.size := ⟨_, rfl⟩
  have HG1 : Hid (w.heap.size + 1 = G1) := by show _ = _; omega
  rw [← hw1] at hsd hse1 hl1 ho1 hh1 hB1
  rw [← hG1] at hsd
  have hNe := fun (n : Nat) (h1 : 1 ≤ n) (hn : n < no) (w9 : World) (hb : Below w1.heap.size w1 w9) => nearest13_any (tk := tk) (T := T) (hl1.later hb) (ho1.later hb) (hh1.later hb) h1 hn hno hX hX0 hN hN0 hZ hZ0
  have HW : Hid ((w.alloc (.cells #[.slice al nl cl, .slice ao no co, .slice ah nh ch, .bool tk, .int .i64 T] 84)).alloc (.cells #[.slice none 0 0, .int .i64 0] 53) = w1) := by show _ = _; rw [hw1, hw0]
  have HG : Hid (w.heap.size = G) := hG.symm
  have z0 : (no : Int) ≤ 4000 := by omega
  clear hl ho hh hl1 hh1 hba hbb hse hs0 hw0 hw1 hG hG1
  go_enter Tryz.func46, Tryz.ntmps46
  go_wp2_with fail
  rw [HW.out, HG1.out, HG.out]
  go_loopg [3] no (fun k s3 wr => ∃ n : Nat, s3 = .int .i64 (n : Int) ∧ 1 ≤ n ∧ n ≤ no ∧ no - n ≤ k ∧ Hid (∀ i, 1 ≤ i → i < n → fnd tk nl X nh Z no N i = false) ∧ Below w1.heap.size w1 wr)
  case atStart => exact ⟨1, rfl, Nat.le_refl _, hno1, by omega, (fun i h h' => by omega), Below.refl _ _⟩
  case round =>
    obtain ⟨n, rfl, h1, hnn, hk, HF, hBr⟩ := hrel
    obtain ⟨p0, p1, p2, p3, p4⟩ := (hse1.later hBr).cells
    by_cases hlt : n < no
    · have hN1 := hNe n h1 hlt wr hBr
      have q1 : (n : Int) < (no : Int) := by omega
      clear hNe
      go_wp2_with fail
      refine hN1.mono ?_
      rintro e w3 ⟨a3, c3, R, hR, rfl, hR3, hb3⟩
      have HB3 := hBr.trans (hb3.mono hBr.size)
      have hsd3 := hsd.later HB3
      have HR : Hid (R = nrN tk nl X nh Z no N n) := hR
      obtain ⟨ff, hff⟩ : ∃ ff, ff = (inB tk nl X nh Z n (N / 10 ^ (no - n) + 1) || inB tk nl X nh Z n (N / 10 ^ (no - n))) := ⟨_, rfl⟩
      rw [← hff]
      have HFn : Hid (fnd tk nl X nh Z no N n = ff) := hff.symm
      clear p0 p1 p2 p3 p4 hN1 hb3 hff hR
      obtain ⟨p0, p1, p2, p3, p4⟩ := (hse1.later HB3).cells
      clear hBr
      cases ff
      · have HF2 : Hid (∀ i, 1 ≤ i → i < n + 1 → fnd tk nl X nh Z no N i = false) := fun i h h' => by
          rcases Nat.lt_or_ge i n with q | q
          · exact HF.out i h q
          · rw [show i = n by omega]; exact HFn.out
        go_wp2
        go_roundg (no - (n + 1))
        case measure => omega
        case rel => exact ⟨n + 1, by go_num, by omega, by omega, by omega, HF2.out, HB3⟩
      · have hDc := decimal13s_any (al := al) (ao := ao) (ah := ah) (nl := nl) (cl := cl) (no := no) (co := co) (nh := nh) (ch := ch) (tk := tk) (T := T) hR3 (by omega) (by rw [HR.out]; exact nrN_pos (by omega) HFn.out) (by rw [HR.out]; exact nrN_lt h1 hlt hN) hT0 hT1
        clear hR3
        go_wp2_with fail
        refine hDc.mono ?_
        rintro e w4 ⟨a4, m4, c4, rfl, hm4, hR4, hb4⟩
        have hB4 := HB3.trans (hb4.mono HB3.size)
        have hsd4 := hsd3.later hb4
        obtain ⟨B, o, rfl, _, _⟩ := hR4.cells (by omega)
        have hne := rb_away hR4 (by omega) hsd4 (by intro v e; cases e) (by intro v e; cases e)
        obtain ⟨q0, q1⟩ := hsd4.cells
        obtain ⟨f0, f1⟩ := hsd4.frozen
        have sd9 := (hsd4.set (.slice (some ⟨B, o, none⟩) m4 c4) (.int .i64 (T - (n : Int)))).cells
        have hin := in2 w4 G1 (.slice (some ⟨B, o, none⟩) m4 c4) (.int .i64 (T - (n : Int)))
        have hRR : Rb ((w4.setCell ⟨G1, 0, none⟩ (.slice (some ⟨B, o, none⟩) m4 c4)).setCell ⟨G1, 1, none⟩ (.int .i64 (T - (n : Int)))) (some ⟨B, o, none⟩) m4 c4 (dg m4 R) := ⟨hR4.1.inn hin (fun _ => off_of hne), hR4.2⟩
        have hBB : Below w.heap.size w ((w4.setCell ⟨G1, 0, none⟩ (.slice (some ⟨B, o, none⟩) m4 c4)).setCell ⟨G1, 1, none⟩ (.int .i64 (T - (n : Int)))) := below_inn (hB1.trans (hB4.mono hB1.size)) hin (by rw [← HG1.out]; omega) (Nat.le_refl _)
        clear hDc hb4 hB4 hsd4 hR4 hin hsd3 HB3
        go_wp2
        refine bodyPost_ret (v := .agg #[.slice (some ⟨B, o, none⟩) m4 c4, .int .i64 (T - (n : Int))]) (by simp [results, Tryz.results46, go_sem, sd9]) rfl ?_
        exact ⟨_, m4, c4, R, _, rfl, ⟨hm4.1, by omega, hm4.2.2⟩, hRR, Or.inl ⟨n, h1, hlt, HF.out, HFn.out, HR.out, rfl⟩, hBB⟩
    · have hnn2 : n = no := by omega
      rw [hnn2] at HF
      have HB3 := hBr
      have hsd3 := hsd.later hBr
      have hNn : N < 10 ^ no := Nat.lt_of_lt_of_le hN (Nat.pow_le_pow_right (by omega) (by omega))
      have hDc := decimal13s_any (al := al) (ao := ao) (ah := ah) (nl := nl) (cl := cl) (no := no) (co := co) (nh := nh) (ch := ch) (tk := tk) (T := T) (ho1.later hBr) (by omega) (by omega) hNn hT0 hT1
      have q1 : ¬ (n : Int) < (no : Int) := by omega
      clear hNe hBr hnn2 hNn
      go_wp2_with fail
      refine hDc.mono ?_
      rintro e w4 ⟨a4, m4, c4, rfl, hm4, hR4, hb4⟩
      have hB4 := HB3.trans (hb4.mono HB3.size)
      have hsd4 := hsd3.later hb4
      obtain ⟨B, o, rfl, _, _⟩ := hR4.cells (by omega)
      have hne := rb_away hR4 (by omega) hsd4 (by intro v e; cases e) (by intro v e; cases e)
      obtain ⟨q0, q1⟩ := hsd4.cells
      obtain ⟨f0, f1⟩ := hsd4.frozen
      have sd9 := (hsd4.set (.slice (some ⟨B, o, none⟩) m4 c4) (.int .i64 (T - (no : Int)))).cells
      have hin := in2 w4 G1 (.slice (some ⟨B, o, none⟩) m4 c4) (.int .i64 (T - (no : Int)))
      have hRR : Rb ((w4.setCell ⟨G1, 0, none⟩ (.slice (some ⟨B, o, none⟩) m4 c4)).setCell ⟨G1, 1, none⟩ (.int .i64 (T - (no : Int)))) (some ⟨B, o, none⟩) m4 c4 (dg m4 N) := ⟨hR4.1.inn hin (fun _ => off_of hne), hR4.2⟩
      have hBB : Below w.heap.size w ((w4.setCell ⟨G1, 0, none⟩ (.slice (some ⟨B, o, none⟩) m4 c4)).setCell ⟨G1, 1, none⟩ (.int .i64 (T - (no : Int)))) := below_inn (hB1.trans (hB4.mono hB1.size)) hin (by rw [← HG1.out]; omega) (Nat.le_refl _)
      clear hDc hb4 hB4 hsd4 hR4 hin hsd3 HB3
      go_wp2
      refine bodyPost_ret (v := .agg #[.slice (some ⟨B, o, none⟩) m4 c4, .int .i64 (T - (no : Int))]) (by simp [results, Tryz.results46, go_sem, sd9]) rfl ?_
      exact ⟨_, m4, c4, N, _, rfl, ⟨hm4.1, by omega, hm4.2.2⟩, hRR, Or.inr ⟨HF.out, rfl, rfl⟩, hBB⟩
end Go.Proofs.YtceecgklgkiffabGreatDoor

/- Layer 13: the ends of a span. -/
namespace Go.Proofs.YtceecgklgkiffabGreatDoor
open Go.ChangeShapes Go.WideShapes Go.ChangeAt Go.RowKit
open Na Ar Ry Ep
set_option linter.unusedVariables false
set_option maxHeartbeats 6400000 in
set_option maxRecDepth 100000 in
theorem ends_fin {p : Int} (h0 : 0 < p) (h1 : p < mostP) (w : World) :
    Calls Tryz.prog 80 #[.int .u64 p] w fun r w' => ∃ s1 a1 n1 c1 b1 m1 d1 s2 a2 n2 c2 b2 m2 d2, r = .returned (.tuple #[.agg #[.bool s1, .slice a1 n1 c1, .slice b1 m1 d1], .agg #[.bool s2, .slice a2 n2 c2, .slice b2 m2 d2]]) ∧ Rt w' s1 a1 n1 c1 b1 m1 d1 (lowR p) ∧ Rt w' s2 a2 n2 c2 b2 m2 d2 (highR p) ∧ Below w.heap.size w w' := by
  obtain ⟨u, f, _⟩ := size_fin (p := p) (by omega) (by omega)
  obtain ⟨up, fp, np, ep, hmp⟩ := prv_is (s := p) (by omega) (by omega)
  have hP := fun w => f6Prev_any u w
  rw [ep] at hP
  have hM1 := fun w => nearMid_fin up fp np w
  rw [hmp] at hM1
  have hM2 := fun w => nearMid_fin u f (by omega) w
  rw [mid_high (by omega) h1] at hM2
  generalize highR p = QH at *
  generalize lowR p = QL at *
  generalize prvP p = pp at *
  generalize nxE (negW p) = pe at *
  obtain ⟨t1, t2, hb0⟩ := st_two w (.bool false) (.slice none 0 0) (.slice none 0 0) (.bool false) (.slice none 0 0) (.slice none 0 0) 36 36
  obtain ⟨w0, hw0⟩ : ∃ w0, w0 = (w.alloc (.cells #[.bool false, .slice none 0 0, .slice none 0 0] 36)).alloc (.cells #[.bool false, .slice none 0 0, .slice none 0 0] 36) := ⟨_, rfl⟩
  obtain ⟨g, hg⟩ : ∃ g, g = w.heap.size := ⟨_, rfl⟩
  have HG : Hid (w.heap.size = g) := hg.symm
  rw [← hw0] at t1 t2 hb0
  rw [← hg] at t1 t2
  have hlt0 := t2.lt
  have hlt1 := t1.lt
  clear up fp np ep hmp f u
  go_enter Tryz.func80, Tryz.ntmps80
  go_wp2_with fail
  rw [← hw0, ← hg]
  clear hw0 hg
  refine (hP _).mono ?_
  rintro r wP ⟨rfl, hwP⟩
  subst hwP
  clear hP
  go_wp2_with fail
  refine (hM1 _).mono ?_
  rintro r w1 ⟨s1, v1, v2, rfl, R1, hb1⟩
  obtain ⟨a1, n1, c1, b1, m1, d1, rfl, rfl, -⟩ := R1.opens
  have ha1 := alloc_below (w := w1) (.cells #[.bool s1, .slice a1 n1 c1, .slice b1 m1 d1] 36)
  have u1 := st_new w1 (.bool s1) (.slice a1 n1 c1) (.slice b1 m1 d1) 36
  have H1 := hb1.trans (ha1.mono hb1.size)
  have R1' := R1.later ha1
  have hs1 := hb1.size
  obtain ⟨z1, hz1⟩ : ∃ z, z = w1.alloc (.cells #[.bool s1, .slice a1 n1 c1, .slice b1 m1 d1] 36) := ⟨_, rfl⟩
  obtain ⟨g5, hg5⟩ : ∃ z, z = w1.heap.size := ⟨_, rfl⟩
  rw [← hz1] at ha1 H1 u1 R1'
  rw [← hg5] at u1
  have T1 := t1.later H1
  have T2 := t2.later H1
  have B1 := hb0.trans (H1.mono hb0.size)
  have hg5' : g + 1 < g5 := by omega
  clear hM1 t1 t2 R1 hb1 ha1 H1
  go_wp2_with fail
  rw [← hz1, ← hg5]
  clear hz1 hg5
  refine (hM2 _).mono ?_
  rintro r w2 ⟨s2, v1, v2, rfl, R2, hb2⟩
  obtain ⟨a2, n2, c2, b2, m2, d2, rfl, rfl, -⟩ := R2.opens
  have ha2 := alloc_below (w := w2) (.cells #[.bool s2, .slice a2 n2 c2, .slice b2 m2 d2] 36)
  have u2 := st_new w2 (.bool s2) (.slice a2 n2 c2) (.slice b2 m2 d2) 36
  have H2 := hb2.trans (ha2.mono hb2.size)
  have R2' := R2.later ha2
  have hs2 := hb2.size
  have hz9 := u1.lt
  obtain ⟨z2, hz2⟩ : ∃ z, z = w2.alloc (.cells #[.bool s2, .slice a2 n2 c2, .slice b2 m2 d2] 36) := ⟨_, rfl⟩
  obtain ⟨g7, hg7⟩ : ∃ z, z = w2.heap.size := ⟨_, rfl⟩
  rw [← hz2] at ha2 H2 u2 R2'
  rw [← hg7] at u2
  have T3 := T1.later H2
  have T4 := T2.later H2
  have u3 := u1.later H2
  have R3 := R1'.later H2
  have B2 := B1.trans (H2.mono B1.size)
  have hg7' : g5 < g7 := by omega
  clear hM2 T1 T2 R2 hb2 ha2 H2 u1 R1' B1
  obtain ⟨x0, x1, x2⟩ := u3.cells
  obtain ⟨y0, y1, y2⟩ := u2.cells
  obtain ⟨p0, p1, p2⟩ := T3.cells
  obtain ⟨q0, q1, q2⟩ := T4.cells
  obtain ⟨e0, e1, e2⟩ := T3.frozen
  obtain ⟨f0, f1, f2⟩ := T4.frozen
  have ng1 : ¬ g = g + 1 := by omega
  have ng2 : ¬ g + 1 = g := by omega
  have ng3 : ¬ g = g5 := by omega
  have ng4 : ¬ g = g7 := by omega
  have ng5 : ¬ g + 1 = g5 := by omega
  have ng6 : ¬ g + 1 = g7 := by omega
  have ng7 : ¬ g5 = g := by omega
  have ng8 : ¬ g7 = g := by omega
  have ng9 : ¬ g5 = g + 1 := by omega
  have ng0 : ¬ g7 = g + 1 := by omega
  go_wp2_with fail
  rw [← hz2, ← hg7]
  clear hz2 hg7
  go_region_held3 (fun w' => (w'.cell? ⟨g5, 0, none⟩ = some (.bool s1) ∧ w'.cell? ⟨g5, 1, none⟩ = some (.slice a1 n1 c1) ∧ w'.cell? ⟨g5, 2, none⟩ = some (.slice b1 m1 d1)) ∧ (w'.cell? ⟨g7, 0, none⟩ = some (.bool s2) ∧ w'.cell? ⟨g7, 1, none⟩ = some (.slice a2 n2 c2) ∧ w'.cell? ⟨g7, 2, none⟩ = some (.slice b2 m2 d2))) (go_keep) (fail)
  have I1 := in3 z2 g (.bool s1) (.slice a1 n1 c1) (.slice b1 m1 d1)
  have I2 := in3 (((z2.setCell ⟨g, 0, none⟩ (.bool s1)).setCell ⟨g, 1, none⟩ (.slice a1 n1 c1)).setCell ⟨g, 2, none⟩ (.slice b1 m1 d1)) (g + 1) (.bool s2) (.slice a2 n2 c2) (.slice b2 m2 d2)
  have V1 := (T3.set (.bool s1) (.slice a1 n1 c1) (.slice b1 m1 d1)).inn I2 ng1
  have V2 := (T4.inn I1 ng2).set (.bool s2) (.slice a2 n2 c2) (.slice b2 m2 d2)
  have W1 := (R3.inn I1 (by omega)).inn I2 (by omega)
  have W2 := (R2'.inn I1 (by omega)).inn I2 (by omega)
  have B3 := below_in (below_in B2 I1 (by have := HG.out; omega) (Nat.le_refl _)) I2 (by have := HG.out; omega) (Nat.le_refl _)
  obtain ⟨z3, hz3⟩ : ∃ z, z = ((((((z2.setCell ⟨g, 0, none⟩ (.bool s1)).setCell ⟨g, 1, none⟩ (.slice a1 n1 c1)).setCell ⟨g, 2, none⟩ (.slice b1 m1 d1)).setCell ⟨g + 1, 0, none⟩ (.bool s2)).setCell ⟨g + 1, 1, none⟩ (.slice a2 n2 c2)).setCell ⟨g + 1, 2, none⟩ (.slice b2 m2 d2)) := ⟨_, rfl⟩
  rw [← hz3] at V1 V2 W1 W2 B3 ⊢
  have hdr : Below z3.heap.size z3 z3.drew := ⟨rfl, rfl, rfl, Nat.le_refl _, fun _ _ => rfl⟩
  have Y1 := (V1.later hdr).cells
  have Y2 := (V2.later hdr).cells
  obtain ⟨a1', n1', c1', b1', m1', d1', e1', e2', X1⟩ := (W1.later hdr).opens
  obtain ⟨a2', n2', c2', b2', m2', d2', e3', e4', X2⟩ := (W2.later hdr).opens
  injection e1' with i1 i2 i3
  injection e2' with j1 j2 j3
  injection e3' with k1 k2 k3
  injection e4' with l1 l2 l3
  subst i1 i2 i3 j1 j2 j3 k1 k2 k3 l1 l2 l3
  have B4 := B3.trans (hdr.mono B3.size)
  clear I1 I2 V1 V2 W1 W2 B3 hdr R3 R2' B2 T3 T4 u2 u3 x0 x1 x2 y0 y1 y2 p0 p1 p2 q0 q1 q2 e0 e1 e2 f0 f1 f2
  go_wp2
  refine bodyPost_ret (v := .tuple #[.agg #[.bool s1, .slice a1 n1 c1, .slice b1 m1 d1], .agg #[.bool s2, .slice a2 n2 c2, .slice b2 m2 d2]]) (by simp [results, Tryz.results80, go_sem, Y1, Y2]) rfl ?_
  exact ⟨_, _, _, _, _, _, _, _, _, _, _, _, _, _, rfl, X1, X2, B4⟩
set_option maxHeartbeats 6400000 in
set_option maxRecDepth 100000 in
theorem ends_most (w : World) :
    Calls Tryz.prog 80 #[.int .u64 9218868437227405311] w fun r w' => ∃ s1 a1 n1 c1 b1 m1 d1 s2 a2 n2 c2 b2 m2 d2, r = .returned (.tuple #[.agg #[.bool s1, .slice a1 n1 c1, .slice b1 m1 d1], .agg #[.bool s2, .slice a2 n2 c2, .slice b2 m2 d2]]) ∧ Rt w' s1 a1 n1 c1 b1 m1 d1 (lowR mostP) ∧ Rt w' s2 a2 n2 c2 b2 m2 d2 (highR mostP) ∧ Below w.heap.size w w' := by
  have u : U mostP := by unfold U mostP; omega
  have f : ef mostP ≠ 2047 := by decide
  obtain ⟨up, fp, np, ep, hmp⟩ := prv_is (s := mostP) (by decide) (Int.le_refl _)
  have hP : ∀ w, Calls Tryz.prog 110 #[.int .u64 9218868437227405311] w fun e w' => e = .returned (.tuple #[.int .u64 (pvW mostP), .int .i64 (nxE (negW mostP))]) ∧ w = w' := fun w => f6Prev_any u w
  rw [ep] at hP
  have hM1 := fun w => nearMid_fin up fp np w
  rw [hmp] at hM1
  have hM2 := fun w => nearMid_most w
  have hV : ∀ w, Calls Tryz.prog 11 #[.int .u64 9218868437227405311] w fun e w' => ∃ s v1 v2, e = .returned (.tuple #[.agg #[.bool s, v1, v2], .int .i64 0]) ∧ RtO w' w.heap.size s v1 v2 (valR mostP) ∧ Below w.heap.size w w' := fun w => nearValue_fin u f w
  have zV := value_size u f
  have zL := low_size (s := mostP) (by decide) (Int.le_refl _)
  rw [← most_high]
  generalize lowR mostP = QL at *
  generalize valR mostP = V at *
  generalize prvP mostP = pp at *
  generalize nxE (negW mostP) = pe at *
  obtain ⟨t1, t2, hb0⟩ := st_two w (.bool false) (.slice none 0 0) (.slice none 0 0) (.bool false) (.slice none 0 0) (.slice none 0 0) 36 36
  obtain ⟨w0, hw0⟩ : ∃ w0, w0 = (w.alloc (.cells #[.bool false, .slice none 0 0, .slice none 0 0] 36)).alloc (.cells #[.bool false, .slice none 0 0, .slice none 0 0] 36) := ⟨_, rfl⟩
  obtain ⟨g, hg⟩ : ∃ g, g = w.heap.size := ⟨_, rfl⟩
  have HG : Hid (w.heap.size = g) := hg.symm
  rw [← hw0] at t1 t2 hb0
  rw [← hg] at t1 t2
  have hlt0 := t2.lt
  have hlt1 := t1.lt
  clear up fp np ep hmp f u
  go_enter Tryz.func80, Tryz.ntmps80
  go_wp2_with fail
  rw [← hw0, ← hg]
  clear hw0 hg
  refine (hP _).mono ?_
  rintro r wP ⟨rfl, hwP⟩
  subst hwP
  clear hP
  go_wp2_with fail
  refine (hM1 _).mono ?_
  rintro r w1 ⟨s1, v1, v2, rfl, R1, hb1⟩
  obtain ⟨a1, n1, c1, b1, m1, d1, rfl, rfl, -⟩ := R1.opens
  have ha1 := alloc_below (w := w1) (.cells #[.bool s1, .slice a1 n1 c1, .slice b1 m1 d1] 36)
  have u1 := st_new w1 (.bool s1) (.slice a1 n1 c1) (.slice b1 m1 d1) 36
  have H1 := hb1.trans (ha1.mono hb1.size)
  have R1' := R1.later ha1
  have hs1 := hb1.size
  obtain ⟨z1, hz1⟩ : ∃ z, z = w1.alloc (.cells #[.bool s1, .slice a1 n1 c1, .slice b1 m1 d1] 36) := ⟨_, rfl⟩
  obtain ⟨g5, hg5⟩ : ∃ z, z = w1.heap.size := ⟨_, rfl⟩
  rw [← hz1] at ha1 H1 u1 R1'
  rw [← hg5] at u1
  have T1 := t1.later H1
  have T2 := t2.later H1
  have B1 := hb0.trans (H1.mono hb0.size)
  have hg5' : g + 1 < g5 := by omega
  clear hM1 t1 t2 R1 hb1 ha1 H1
  go_wp2_with fail
  rw [← hz1, ← hg5]
  clear hz1 hg5
  refine (hM2 _).mono ?_
  rintro r w2 ⟨rfl, hb2⟩
  have ha2 := alloc_below (w := w2) (.cells #[.bool false, .slice none 0 0, .slice none 0 0] 36)
  have u2 := st_new w2 (.bool false) (.slice none 0 0) (.slice none 0 0) 36
  have H2 := hb2.trans (ha2.mono hb2.size)
  have hs2 := hb2.size
  have hz9 := u1.lt
  obtain ⟨z2, hz2⟩ : ∃ z, z = w2.alloc (.cells #[.bool false, .slice none 0 0, .slice none 0 0] 36) := ⟨_, rfl⟩
  obtain ⟨g7, hg7⟩ : ∃ z, z = w2.heap.size := ⟨_, rfl⟩
  rw [← hz2] at ha2 H2 u2
  rw [← hg7] at u2
  have T3 := T1.later H2
  have T4 := T2.later H2
  have u3 := u1.later H2
  have R3 := R1'.later H2
  have B2 := B1.trans (H2.mono B1.size)
  have hg7' : g5 < g7 := by omega
  have BZ2 := H2
  have gz : z1.heap.size ≤ g7 := by omega
  clear hM2 T1 T2 hb2 ha2 H2 u1 B1
  go_wp2_with fail
  rw [← hz2, ← hg7]
  clear hz2 hg7
  refine (hV _).mono ?_
  rintro r w3 ⟨s3, v1, v2, rfl, RV, hb3⟩
  obtain ⟨a3, n3, c3, b3, m3, d3, rfl, rfl, RV'⟩ := RV.opens
  clear hV RV
  have ha3 := alloc_below (w := w3) (.cells #[.bool s3, .slice a3 n3 c3, .slice b3 m3 d3] 36)
  have u9 := st_new w3 (.bool s3) (.slice a3 n3 c3) (.slice b3 m3 d3) 36
  have H3 := hb3.trans (ha3.mono hb3.size)
  have RV3 := RV'.later ha3
  have hs3 := hb3.size
  have hz7 := u2.lt
  obtain ⟨z3, hz3⟩ : ∃ z, z = w3.alloc (.cells #[.bool s3, .slice a3 n3 c3, .slice b3 m3 d3] 36) := ⟨_, rfl⟩
  obtain ⟨g9, hg9⟩ : ∃ z, z = w3.heap.size := ⟨_, rfl⟩
  rw [← hz3] at ha3 H3 u9 RV3
  rw [← hg9] at u9
  have T5 := T3.later H3
  have T6 := T4.later H3
  have u4 := u3.later H3
  have u5 := u2.later H3
  have R4 := R3.later H3
  have B3 := B2.trans (H3.mono B2.size)
  have BZ3 := BZ2.trans (H3.mono BZ2.size)
  obtain ⟨aL, nL, cL, bL, mL, dL, eL1, eL2, QL4⟩ := R4.opens
  injection eL1 with i1 i2 i3
  injection eL2 with j1 j2 j3
  subst i1 i2 i3 j1 j2 j3
  have hS := rSub_ok RV3 QL4 zV zL (by omega)
  obtain ⟨x0, x1, x2⟩ := u9.cells
  obtain ⟨y0, y1, y2⟩ := u4.cells
  clear T3 T4 u3 u2 R3 B2 hb3 ha3 H3 RV' QL4
  go_upto_region 7 with fail
  rw [← hz3, ← hg9]
  clear hz3 hg9
  go_wp2_with fail
  refine hS.mono ?_
  rintro r w4 ⟨s4, v1, v2, rfl, RD, zD, hb4⟩
  obtain ⟨a4, n4, c4, b4, m4, d4, rfl, rfl, RD'⟩ := RD.opens
  clear hS RD x0 x1 x2 y0 y1 y2
  have ha4 := alloc_below (w := w4) (.cells #[.bool s4, .slice a4 n4 c4, .slice b4 m4 d4] 36)
  have u10 := st_new w4 (.bool s4) (.slice a4 n4 c4) (.slice b4 m4 d4) 36
  have H4 := hb4.trans (ha4.mono hb4.size)
  have RD4 := RD'.later ha4
  have RV4 := RV3.later H4
  obtain ⟨z4, hz4⟩ : ∃ z, z = w4.alloc (.cells #[.bool s4, .slice a4 n4 c4, .slice b4 m4 d4] 36) := ⟨_, rfl⟩
  obtain ⟨g11, hg11⟩ : ∃ z, z = w4.heap.size := ⟨_, rfl⟩
  rw [← hz4] at ha4 H4 u10 RD4 RV4
  rw [← hg11] at u10
  have T7 := T5.later H4
  have T8 := T6.later H4
  have u6 := u4.later H4
  have u7 := u5.later H4
  have u8 := u9.later H4
  have R5 := R4.later H4
  have B4 := B3.trans (H4.mono B3.size)
  have BZ4 := BZ3.trans (H4.mono BZ3.size)
  have hA := rAdd_ok RV4 RD4 zV zD (by omega)
  have hz8 := u7.lt
  obtain ⟨x0, x1, x2⟩ := u8.cells
  obtain ⟨y0, y1, y2⟩ := u10.cells
  clear T5 T6 u4 u5 u9 R4 B3 hb4 ha4 H4 RD' RV3 RD4 RV4
  go_upto_region 8 with fail
  rw [← hz4, ← hg11]
  clear hz4 hg11
  go_wp2_with fail
  refine hA.mono ?_
  rintro r w5 ⟨s2, v1, v2, rfl, R2, -, hb5⟩
  obtain ⟨a2, n2, c2, b2, m2, d2, rfl, rfl, -⟩ := R2.opens
  clear hA x0 x1 x2 y0 y1 y2
  have T9 := T7.later hb5
  have T10 := T8.later hb5
  have v6 := u6.later hb5
  have v7 := u7.later hb5
  have R6 := R5.later hb5
  have B5 := B4.trans (hb5.mono B4.size)
  have BZ5 := BZ4.trans (hb5.mono BZ4.size)
  have I7 := in3 w5 g7 (.bool s2) (.slice a2 n2 c2) (.slice b2 m2 d2)
  have T3 := T9.inn I7 (by omega)
  have T4 := T10.inn I7 (by omega)
  have u3 := v6.inn I7 (by omega)
  have u2 := v7.set (.bool s2) (.slice a2 n2 c2) (.slice b2 m2 d2)
  have R2' := R2.inn I7 hz8
  have B2 := below_in B5 I7 (by have := HG.out; omega) (Nat.le_refl _)
  obtain ⟨r0, r1, r2⟩ := v7.cells
  obtain ⟨k0, k1, k2⟩ := v7.frozen
  have R3 := R1'.later (below_in BZ5 I7 gz (Nat.le_refl _))
  obtain ⟨z6, hz6⟩ : ∃ z, z = ((w5.setCell ⟨g7, 0, none⟩ (.bool s2)).setCell ⟨g7, 1, none⟩ (.slice a2 n2 c2)).setCell ⟨g7, 2, none⟩ (.slice b2 m2 d2) := ⟨_, rfl⟩
  rw [← hz6] at T3 T4 u3 u2 R2' B2 R3
  clear T9 T10 v6 v7 R6 B5 I7 BZ5 BZ4 BZ3 BZ2 R1' T7 T8 u6 u7 u8 u10 R5 B4 hb5 R2
  obtain ⟨x0, x1, x2⟩ := u3.cells
  obtain ⟨y0, y1, y2⟩ := u2.cells
  obtain ⟨p0, p1, p2⟩ := T3.cells
  obtain ⟨q0, q1, q2⟩ := T4.cells
  obtain ⟨e0, e1, e2⟩ := T3.frozen
  obtain ⟨f0, f1, f2⟩ := T4.frozen
  have ng1 : ¬ g = g + 1 := by omega
  have ng2 : ¬ g + 1 = g := by omega
  have ng3 : ¬ g = g5 := by omega
  have ng4 : ¬ g = g7 := by omega
  have ng5 : ¬ g + 1 = g5 := by omega
  have ng6 : ¬ g + 1 = g7 := by omega
  have ng7 : ¬ g5 = g := by omega
  have ng8 : ¬ g7 = g := by omega
  have ng9 : ¬ g5 = g + 1 := by omega
  have ng0 : ¬ g7 = g + 1 := by omega
  go_wp2_with fail
  rw [← hz6]
  clear hz6
  go_region_held3 (fun w' => (w'.cell? ⟨g5, 0, none⟩ = some (.bool s1) ∧ w'.cell? ⟨g5, 1, none⟩ = some (.slice a1 n1 c1) ∧ w'.cell? ⟨g5, 2, none⟩ = some (.slice b1 m1 d1)) ∧ (w'.cell? ⟨g7, 0, none⟩ = some (.bool s2) ∧ w'.cell? ⟨g7, 1, none⟩ = some (.slice a2 n2 c2) ∧ w'.cell? ⟨g7, 2, none⟩ = some (.slice b2 m2 d2))) (go_keep) (fail)
  have I1 := in3 z6 g (.bool s1) (.slice a1 n1 c1) (.slice b1 m1 d1)
  have I2 := in3 (((z6.setCell ⟨g, 0, none⟩ (.bool s1)).setCell ⟨g, 1, none⟩ (.slice a1 n1 c1)).setCell ⟨g, 2, none⟩ (.slice b1 m1 d1)) (g + 1) (.bool s2) (.slice a2 n2 c2) (.slice b2 m2 d2)
  have V1 := (T3.set (.bool s1) (.slice a1 n1 c1) (.slice b1 m1 d1)).inn I2 ng1
  have V2 := (T4.inn I1 ng2).set (.bool s2) (.slice a2 n2 c2) (.slice b2 m2 d2)
  have W1 := (R3.inn I1 (by omega)).inn I2 (by omega)
  have W2 := (R2'.inn I1 (by omega)).inn I2 (by omega)
  have B3 := below_in (below_in B2 I1 (by have := HG.out; omega) (Nat.le_refl _)) I2 (by have := HG.out; omega) (Nat.le_refl _)
  obtain ⟨z3, hz3⟩ : ∃ z, z = ((((((z6.setCell ⟨g, 0, none⟩ (.bool s1)).setCell ⟨g, 1, none⟩ (.slice a1 n1 c1)).setCell ⟨g, 2, none⟩ (.slice b1 m1 d1)).setCell ⟨g + 1, 0, none⟩ (.bool s2)).setCell ⟨g + 1, 1, none⟩ (.slice a2 n2 c2)).setCell ⟨g + 1, 2, none⟩ (.slice b2 m2 d2)) := ⟨_, rfl⟩
  rw [← hz3] at V1 V2 W1 W2 B3 ⊢
  have hdr : Below z3.heap.size z3 z3.drew := ⟨rfl, rfl, rfl, Nat.le_refl _, fun _ _ => rfl⟩
  have Y1 := (V1.later hdr).cells
  have Y2 := (V2.later hdr).cells
  obtain ⟨a1', n1', c1', b1', m1', d1', e1', e2', X1⟩ := (W1.later hdr).opens
  obtain ⟨a2', n2', c2', b2', m2', d2', e3', e4', X2⟩ := (W2.later hdr).opens
  injection e1' with i1 i2 i3
  injection e2' with j1 j2 j3
  injection e3' with k1 k2 k3
  injection e4' with l1 l2 l3
  subst i1 i2 i3 j1 j2 j3 k1 k2 k3 l1 l2 l3
  have B4 := B3.trans (hdr.mono B3.size)
  clear I1 I2 V1 V2 W1 W2 B3 hdr R3 R2' B2 T3 T4 u2 u3 x0 x1 x2 y0 y1 y2 p0 p1 p2 q0 q1 q2 e0 e1 e2 f0 f1 f2
  go_wp2
  refine bodyPost_ret (v := .tuple #[.agg #[.bool s1, .slice a1 n1 c1, .slice b1 m1 d1], .agg #[.bool s2, .slice a2 n2 c2, .slice b2 m2 d2]]) (by simp [results, Tryz.results80, go_sem, Y1, Y2]) rfl ?_
  exact ⟨_, _, _, _, _, _, _, _, _, _, _, _, _, _, rfl, X1, X2, B4⟩
end Go.Proofs.YtceecgklgkiffabGreatDoor

/- Layer 13: Fixed. -/
namespace Go.Proofs.YtceecgklgkiffabGreatDoor
open Go.ChangeShapes Go.WideShapes Go.ChangeAt Go.RowKit
open Na Ar Ep
set_option linter.unusedVariables false
namespace Ep
theorem fxR_zero (n : Nat) : fxR 0 n = 0 := by
  unfold fxR rq up
  rw [Nat.zero_mul, Nat.zero_mod, Nat.zero_div, decide_eq_false (by omega), decide_eq_false (p := 2 * 0 = dT) (by have := dT_pos; omega)]
  rfl
/-- how Fixed rounds: which row, how long -/
theorem fix_plan {A N L n : Nat} {x : Int} (h : Dz A N L x) (hL : 1 ≤ L ∧ L ≤ 1300 ∧ -1100 ≤ x ∧ x ≤ 1300) (hn : n ≤ 1100) :
    ∃ l, l ≤ 4000 ∧ fxR A n < 10 ^ l ∧ Mok (fxR A n) n (max l (n + 1)) ∧ (((L : Int) + x + n < 0 ∧ l = 0 ∧ fxR A n = 0) ∨ ∃ T : Nat, T ≤ 4000 ∧ (L : Int) + x + n = T ∧ rw13 L N T = dg l (fxR A n) ∧ N < 10 ^ L ∧ (N % 10 ≠ 0 ∨ L ≤ T)) := by
  rcases h with ⟨rfl, rfl, rfl, rfl⟩ | ⟨h0, hd⟩
  · rw [fxR_zero]
    have p := Nat.pow_pos (n := n + 1) (show 0 < 10 by omega)
    refine ⟨n + 1, by omega, p, Or.inl ⟨by omega, p⟩, Or.inr ⟨n + 1, by omega, by omega, ?_, by omega, Or.inr (by omega)⟩⟩
    unfold rw13
    have : rn 1 0 (n + 1) = 0 := by unfold rn; rw [if_pos (by omega), Nat.zero_mul]
    rw [this, if_pos p]
  · obtain ⟨f1, f2⟩ := dec_fixed (n := n) hd
    by_cases hneg : (L : Int) + x + n < 0
    · have := f2 hneg
      rw [this]
      exact ⟨0, by omega, by omega, Or.inl ⟨by omega, Nat.pow_pos (by omega)⟩, Or.inl ⟨hneg, rfl, rfl⟩⟩
    · obtain ⟨T, hT⟩ : ∃ T : Nat, (L : Int) + x + n = T := ⟨((L : Int) + x + n).toNat, by omega⟩
      have hr := f1 T hT
      have hf := rl_fits (t := T) hd.hi
      have hm := mok_of (t := T) (n := n) hd.L1 hd.lo hd.hi
      rw [hr] at hf hm
      refine ⟨rl L N T, by omega, hf.1, hm, Or.inr ⟨T, by omega, hT, ?_, hd.hi, Or.inl hd.last⟩⟩
      unfold rw13 rl
      rw [hr]
theorem ptL_len {M W n : Nat} (h : n + 1 ≤ M) : (ptL M W n).length ≤ M + 1 := by
  unfold ptL
  split
  · rw [dg_len]; omega
  · rw [List.length_append, List.length_cons, dg_len, dg_len]; omega
def sgL (s : Bool) : List UInt8 := if s = true then [45] else []
theorem minus_app (l : List UInt8) : (⟨#[45]⟩ : ByteArray) ++ ⟨l.toArray⟩ = ⟨(sgL true ++ l).toArray⟩ := by
  apply ByteArray.ext
  simp [sgL]
end Ep
set_option maxHeartbeats 3200000 in
set_option maxRecDepth 100000 in
theorem fixed_fin {b : Int} {n : Nat} (hu : U b) (hf : ef b ≠ 2047) (hn : n ≤ 1100) (w : World) :
    Calls Tryz.prog 15 #[.int .u64 b, .int .i64 (n : Int)] w fun e w' => ∃ M, Mok (fxR (szA b) n) n M ∧ M ≤ 4000 ∧ e = .returned (.tuple #[.string ⟨(sgL (spS b) ++ ptL M (fxR (szA b) n) n).toArray⟩, .int .i64 0]) ∧ Below w.heap.size w w' := by
  have hS := fun w => sizeOf_fin hu hf w
  have hSp := fun w => f6Split_any hu w
  have z0 : (n : Int) ≤ 1100 := by omega
  have hE : fiE b = 0 := by unfold fiE; rw [if_neg hf]
  rw [hE] at hSp
  generalize szA b = A at *
  generalize spS b = sS at *
  clear hf hE
  go_enter Tryz.func15, Tryz.ntmps15
  go_wp2_with fail
  refine (hS w).mono ?_
  rintro e w1 ⟨B, c, N, L, x, rfl, hBg, hR, hD, hbd, hb1⟩
  obtain ⟨l, hl, hRl, hM, hrow⟩ := fix_plan hD hbd hn
  have hba := alloc_below (w := w1) (.cells #[.slice (some ⟨B, 0, none⟩) L c, .int .i64 x] 53)
  have sd := sd_new w1 (.slice (some ⟨B, 0, none⟩) L c) (.int .i64 x) 53
  have hR1 := hR.later hba
  have hB1 := hb1.trans (hba.mono hb1.size)
  obtain ⟨g, hg⟩ : ∃ g, g = w1.heap.size := ⟨_, rfl⟩
  obtain ⟨W, hW⟩ : ∃ W, W = w1.alloc (.cells #[.slice (some ⟨B, 0, none⟩) L c, .int .i64 x] 53) := ⟨_, rfl⟩
  rw [← hW] at sd hR1 hB1
  rw [← hg] at sd
  obtain ⟨R, hRR⟩ : ∃ R, R = fxR A n := ⟨_, rfl⟩
  rw [← hRR] at hM hRl hrow
  have HRR : Hid (fxR A n = R) := hRR.symm
  have hT : ∀ {w9 : World}, Below W.heap.size W w9 → Calls Tryz.prog 21 #[.agg #[.slice (some ⟨B, 0, none⟩) L c, .int .i64 x]] w9 fun e w' => e = .returned (.int .i64 ((L : Int) + x)) ∧ Below W.heap.size W w' := fun {w9} hb => (top13_any (by omega) (by omega) (by omega) w9).mono fun e w' h => ⟨h.1, hb.trans (h.2.mono hb.size)⟩
  have hRd : ∀ {w9 : World}, Below W.heap.size W w9 → Calls Tryz.prog 20 #[.slice (some ⟨B, 0, none⟩) L c, .int .i64 ((L : Int) + x + (n : Int))] w9 fun e w' => ∃ a' c', e = .returned (.slice a' l c') ∧ Rb w' a' l c' (dg l R) ∧ Below W.heap.size W w' := fun {w9} hb => by
    rcases hrow with ⟨t1, t2, t3⟩ | ⟨T, t1, t2, t3, t4, t5⟩
    · refine (rounded13_neg t1 w9).mono ?_
      rintro e w' ⟨rfl, rfl⟩
      subst t2
      exact ⟨none, 0, rfl, Rb.nil _ _ _ (by omega), hb⟩
    · rw [t2]
      refine (rounded13_any (hR1.later hb) hbd.1 (by omega) t1 t4 t5).mono ?_
      rintro e w' ⟨a', n', c', rfl, hr, hb'⟩
      rw [t3] at hr
      have := hr.len
      rw [dg_len] at this
      subst this
      exact ⟨a', c', rfl, hr, hb.trans (hb'.mono hb.size)⟩
  rw [show (L : Int) + x + (n : Int) = IntKind.i64.wrap ((L : Int) + x + (n : Int)) from (IntWalk.i64_in _ (by omega)).symm] at hRd
  have hPt : ∀ {w9 : World} {a : Option Addr} {c : Nat}, Rb w9 a l c (dg l R) → Below W.heap.size W w9 → Calls Tryz.prog 44 #[.slice a l c, .int .i64 (n : Int)] w9 fun e w' => e = .returned (.string ⟨(ptL (max l (n + 1)) R n).toArray⟩) ∧ Below W.heap.size W w' := fun {w9 a c} hr hb => (pointed13_any hr hRl hl (by omega) rfl).mono fun e w' h => ⟨h.1, hb.trans (h.2.mono hb.size)⟩
  have hcl : ∀ w', Below W.heap.size W w' → w'.cell? ⟨g, 0, none⟩ = some (.slice (some ⟨B, 0, none⟩) L c) ∧ w'.cell? ⟨g, 1, none⟩ = some (.int .i64 x) := fun w' hb => (sd.later hb).cells
  obtain ⟨p0, p1⟩ := hcl W (Below.refl _ _)
  have q1 : (L : Int) ≤ 1300 := by omega
  have q2 : -1100 ≤ x := by omega
  have q3 : x ≤ 1300 := by omega
  have HMok : Hid (Mok (fxR A n) n (max l (n + 1))) := by show Mok _ _ _; rw [HRR.out]; exact hM
  have hlen : (ptL (max l (n + 1)) R n).length ≤ 5000 := by have := ptL_len (W := R) (n := n) (M := max l (n + 1)) (by omega); omega
  generalize hPP : ptL (max l (n + 1)) R n = PP at hPt hlen
  have HPP : Hid (ptL (max l (n + 1)) (fxR A n) n = PP) := by show _ = _; rw [HRR.out]; exact hPP
  have hg0 : g < W.heap.size := sd.lt
  clear hS hR hR1 hba hb1 sd hrow hRl hM hRR hPP hbd
  go_wp2_with fail
  rw [← hW, ← hg]
  clear hW hg
  go_region_held3 (fun w' => w'.cell? ⟨g, 0, none⟩ = some (.slice (some ⟨B, 0, none⟩) L c) ∧ w'.cell? ⟨g, 1, none⟩ = some (.int .i64 x)) (go_keep) (first | (go_at_call 21; refine (hT (by first | exact Below.refl _ _ | exact below_drewN (Below.refl _ _) _)).mono ?_; rintro r wA ⟨rfl, hbA⟩; obtain ⟨z1, z2⟩ := hcl wA hbA) | (go_at_call 20; refine (hRd (by first | exact hbA | exact below_drewN hbA _)).mono ?_; rintro r wB ⟨aB, cB, rfl, rB, hbB⟩; obtain ⟨z1, z2⟩ := hcl wB hbB) | (go_at_call 44; refine (hPt rB hbB).mono ?_; rintro r wC ⟨rfl, hbC⟩; obtain ⟨z1, z2⟩ := hcl wC hbC; have hBC := hB1.trans (hbC.mono hB1.size)))
  cases sS
  · have HPQ : Hid (sgL false ++ ptL (max l (n + 1)) (fxR A n) n = PP) := by show _ = _; rw [HPP.out]; rfl
    go_wp2_with (first | (go_at_call 33; refine (hSp _).mono ?_; rintro e w' ⟨rfl, rfl⟩))
    refine bodyPost_ret (v := .tuple #[.string ⟨PP.toArray⟩, .int .i64 0]) (by simp [results, Tryz.results15, go_sem]) rfl ?_
    exact ⟨_, HMok.out, by omega, by rw [HPQ.out], hBC⟩
  · have HPQ : Hid (sgL true ++ ptL (max l (n + 1)) (fxR A n) n = sgL true ++ PP) := by show _ = _; rw [HPP.out]
    have hmin := minus_app PP
    have hsz : ((⟨PP.toArray⟩ : ByteArray).size : Int) ≤ 5000 := by
      have : (⟨PP.toArray⟩ : ByteArray).size = PP.length := by rw [Lib.size_eq]
      omega
    have hsz2 : PP.toArray.size ≤ 5000 := by simpa using hlen
    generalize sgL true ++ PP = QQ at hmin HPQ
    go_wp2_with (first | (go_at_call 33; refine (hSp _).mono ?_; rintro e w' ⟨rfl, rfl⟩))
    refine bodyPost_ret (v := .tuple #[.string ⟨QQ.toArray⟩, .int .i64 0]) (by simp [results, Tryz.results15, go_sem]) rfl ?_
    exact ⟨_, HMok.out, by omega, by rw [HPQ.out], hBC⟩
end Go.Proofs.YtceecgklgkiffabGreatDoor

/- Layer 13: Precise. -/
namespace Go.Proofs.YtceecgklgkiffabGreatDoor
open Go.ChangeShapes Go.WideShapes Go.ChangeAt Go.RowKit
open Na Ar Ep
set_option linter.unusedVariables false
namespace Ep
/-- what Precise tells: n digits and the exponent -/
def Pz (A n D : Nat) (X : Int) : Prop := (A = 0 ∧ D = 0 ∧ X = 0) ∨ ∃ N L x, 0 < A ∧ Dec A N L x ∧ ((rn L N n < 10 ^ n ∧ D = rn L N n ∧ X = (L : Int) + x - n) ∨ (rn L N n = 10 ^ n ∧ D = 10 ^ (n - 1) ∧ X = (L : Int) + x - n + 1))
theorem pz_uniq {A n D D' : Nat} {X X' : Int} (h : Pz A n D X) (h' : Pz A n D' X') : D = D' ∧ X = X' := by
  rcases h with ⟨a, b, c⟩ | ⟨N, L, x, a, b, c⟩ <;> rcases h' with ⟨a', b', c'⟩ | ⟨N', L', x', a', b', c'⟩
  · exact ⟨by omega, by omega⟩
  · omega
  · omega
  · obtain ⟨rfl, rfl, rfl⟩ := dec_uniq b b'
    rcases c with ⟨c1, c2, c3⟩ | ⟨c1, c2, c3⟩ <;> rcases c' with ⟨d1, d2, d3⟩ | ⟨d1, d2, d3⟩
    · exact ⟨by omega, by omega⟩
    · omega
    · omega
    · exact ⟨by omega, by omega⟩
theorem szA_zero {b : Int} (hu : U b) (hf : ef b ≠ 2047) : (clsW b == 0) = decide (szA b = 0) := by
  obtain ⟨P, e1, e2', e3, e4, e5, e6, e7⟩ := num_parts hu hf
  have hA : szA b = 0 ↔ spM b = 0 := by
    unfold szA
    rw [e7]
    have p2 : (0 : Int) < 2 ^ P := Int.pow_pos (by omega)
    refine ⟨fun h => ?_, fun h => by rw [h, Int.zero_mul]; rfl⟩
    have : spM b * 2 ^ P ≤ 0 := by omega
    rcases Int.lt_or_eq_of_le e3 with q | q
    · have := Int.mul_pos q p2
      omega
    · exact q.symm
  have hfr := fr_bd b
  have hef := ef_bd b
  have hM : spM b = 0 ↔ clsW b = 0 := by
    unfold spM clsW
    rw [if_neg hf, if_neg hf]
    by_cases h0 : ef b = 0
    · rw [if_pos h0, if_pos h0]
      by_cases h1 : fr b = 0
      · rw [if_pos h1, h1]
      · rw [if_neg h1]
        exact ⟨fun q => absurd q h1, fun q => by omega⟩
    · rw [if_neg h0, if_neg h0]
      exact ⟨fun q => by omega, fun q => by omega⟩
  by_cases q : clsW b = 0
  · rw [q, decide_eq_true (hA.2 (hM.2 q))]
    rfl
  · rw [decide_eq_false (fun h => q (hM.1 (hA.1 h)))]
    exact beq_eq_false_iff_ne.2 q
end Ep
set_option maxHeartbeats 3200000 in
set_option maxRecDepth 100000 in
theorem precise_fin {b : Int} {n : Nat} (hu : U b) (hf : ef b ≠ 2047) (h1 : 1 ≤ n) (hn : n ≤ 1100) (w : World) :
    Calls Tryz.prog 5 #[.int .u64 b, .int .i64 (n : Int)] w fun e w' => ∃ (D : Nat) (X : Int), Pz (szA b) n D X ∧ D < 10 ^ n ∧ e = .returned (.tuple #[.string ⟨(dg n D).toArray⟩, .int .i64 X, .int .i64 0]) ∧ Below w.heap.size w w' := by
  have hS := fun w => sizeOf_fin hu hf w
  have hK := fun w => f6Class_any hu w
  have hz := szA_zero hu hf
  have z0 : (n : Int) ≤ 1100 := by omega
  have z1 : (1 : Int) ≤ n := by omega
  generalize szA b = A at *
  generalize clsW b = K at *
  clear hf
  go_enter Tryz.func5, Tryz.ntmps5
  go_wp2_with fail
  refine (hS w).mono ?_
  rintro e w1 ⟨B, c, N, L, x, rfl, hBg, hR, hD, hbd, hb1⟩
  have hba := alloc_below (w := w1) (.cells #[.slice (some ⟨B, 0, none⟩) L c, .int .i64 x] 53)
  have sd := sd_new w1 (.slice (some ⟨B, 0, none⟩) L c) (.int .i64 x) 53
  have hR1 := hR.later hba
  have hB1 := hb1.trans (hba.mono hb1.size)
  obtain ⟨g, hg⟩ : ∃ g, g = w1.heap.size := ⟨_, rfl⟩
  obtain ⟨W, hW⟩ : ∃ W, W = w1.alloc (.cells #[.slice (some ⟨B, 0, none⟩) L c, .int .i64 x] 53) := ⟨_, rfl⟩
  rw [← hW] at sd hR1 hB1
  rw [← hg] at sd
  have hhi : N < 10 ^ L ∧ (N % 10 ≠ 0 ∨ L ≤ n) := by
    rcases hD with ⟨_, rfl, rfl, _⟩ | ⟨_, hd⟩
    · exact ⟨by omega, Or.inr h1⟩
    · exact ⟨hd.hi, Or.inl hd.last⟩
  have hRd := rounded13_any hR1 hbd.1 (by omega) (n := n) (by omega) hhi.1 hhi.2
  have hrl := rl_fits (t := n) hhi.1
  have hrn := rn_le (n := n) hhi.1
  have hrow : rw13 L N n = dg (rl L N n) (rn L N n) := rfl
  rw [hrow] at hRd
  obtain ⟨p0, p1⟩ := sd.cells
  have HR1 : Hid (N < 10 ^ L) := hhi.1
  clear hS hR hR1 hba hb1 hhi hrow
  go_wp2_with fail
  rw [← hW, ← hg]
  clear hW hg
  refine hRd.mono ?_
  rintro e w2 ⟨a2, n2, c2, rfl, hR2, hb2⟩
  have hl2 := hR2.len
  rw [dg_len] at hl2
  subst hl2
  have sd2 := sd.later hb2
  have hB2 := hB1.trans (hb2.mono hB1.size)
  obtain ⟨p0, p1⟩ := sd2.cells
  have hT := top13_any (a := some ⟨B, 0, none⟩) (c := c) (L := L) (x := x) (by omega) (by omega) (by omega) w2
  clear hRd sd hb2 hB1
  go_wp2_with fail
  refine hT.mono ?_
  rintro e w3 ⟨rfl, hb3⟩
  have hR3 := hR2.later hb3
  have hB3 := hB2.trans (hb3.mono hB2.size)
  have q1 : (L : Int) ≤ 1300 := by omega
  have q2 : -1100 ≤ x := by omega
  have q3 : x ≤ 1300 := by omega
  clear hT hR2 sd2 hb3 hB2 p0 p1
  go_wp2_with fail
  refine (hK w3).mono ?_
  rintro e w4 ⟨rfl, rfl⟩
  by_cases hA : A = 0
  · have hk : (K == 0) = true := by rw [hz]; exact decide_eq_true hA
    have hNL : N = 0 ∧ L = 1 ∧ x = 0 := by
      rcases hD with ⟨_, a, b, c⟩ | ⟨a, _⟩
      · exact ⟨a, b, c⟩
      · omega
    obtain ⟨rfl, rfl, rfl⟩ := hNL
    have hr0 : rn 1 0 n = 0 := by unfold rn; rw [if_pos h1, Nat.zero_mul]
    have hp := Nat.pow_pos (n := n) (show 0 < 10 by omega)
    have hl0 : rl 1 0 n = n := by unfold rl; rw [hr0, if_pos hp]
    rw [hr0, hl0] at hR3
    have hcv := conv8 hR3
    have HZ : Hid (Pz A n 0 0 ∧ 0 < 10 ^ n) := ⟨Or.inl ⟨hA, rfl, rfl⟩, hp⟩
    rw [hl0]
    obtain ⟨DL, hDL⟩ : ∃ DL, DL = dg n 0 := ⟨_, rfl⟩
    rw [← hDL] at hcv
    have HDL : Hid (dg n 0 = DL) := hDL.symm
    have hk0 : K = 0 := by simpa using hk
    clear hrl hrn hD hK hz hbd hr0 hp hl0 hR3 hDL hk
    subst hk0
    go_wp2
    refine bodyPost_ret (v := .tuple #[.string ⟨DL.toArray⟩, .int .i64 0, .int .i64 0]) (by simp [results, Tryz.results5, go_sem]) rfl ?_
    exact ⟨0, 0, HZ.out.1, HZ.out.2, by rw [HDL.out], hB3⟩
  · have hk : (K == 0) = false := by rw [hz]; exact decide_eq_false hA
    have hd : Dec A N L x := by
      rcases hD with ⟨a, _⟩ | ⟨_, a⟩
      · exact absurd a hA
      · exact a
    by_cases hlt : rn L N n < 10 ^ n
    · have hl0 : rl L N n = n := by unfold rl; rw [if_pos hlt]
      rw [hl0] at hR3
      have hcv := conv8 hR3
      have HZ : Hid (Pz A n (rn L N n) ((L : Int) + x - n) ∧ rn L N n < 10 ^ n) := ⟨Or.inr ⟨N, L, x, by omega, hd, Or.inl ⟨hlt, rfl, rfl⟩⟩, hlt⟩
      rw [hl0]
      obtain ⟨DL, hDL⟩ : ∃ DL, DL = dg n (rn L N n) := ⟨_, rfl⟩
      rw [← hDL] at hcv
      have HDL : Hid (dg n (rn L N n) = DL) := hDL.symm
      clear hrl hrn hD hK hz hd hlt hl0 hR3 hDL
      go_wp2
      refine bodyPost_ret (v := .tuple #[.string ⟨DL.toArray⟩, .int .i64 ((L : Int) + x - n), .int .i64 0]) (by simp [results, Tryz.results5, go_sem]) rfl ?_
      exact ⟨_, _, HZ.out.1, HZ.out.2, by rw [HDL.out], hB3⟩
    · have hl0 : rl L N n = n + 1 := by unfold rl; rw [if_neg hlt]
      have hr0 : rn L N n = 10 ^ n := by omega
      rw [hl0, hr0] at hR3
      have hC := cut13_any hR3 (n := n) (by omega)
      have h10 : (10 : Nat) ^ n / 10 ^ (n + 1 - n) = 10 ^ (n - 1) := by
        rw [Nat.add_sub_cancel_left, Nat.pow_one]
        obtain ⟨j, rfl⟩ : ∃ j, n = j + 1 := ⟨n - 1, by omega⟩
        rw [Nat.pow_succ, Nat.mul_div_cancel _ (by omega)]
        rfl
      rw [dg_take (by omega), h10] at hC
      have hlt2 : 10 ^ (n - 1) < 10 ^ n := Nat.pow_lt_pow_right (by omega) (by omega)
      have HZ : Hid (Pz A n (10 ^ (n - 1)) ((L : Int) + x - n + 1) ∧ 10 ^ (n - 1) < 10 ^ n) := ⟨Or.inr ⟨N, L, x, by omega, hd, Or.inr ⟨hr0, rfl, rfl⟩⟩, hlt2⟩
      rw [hl0]
      have q4 : ((n : Int) < ((n + 1 : Nat) : Int)) := by omega
      obtain ⟨DL, hDL⟩ : ∃ DL, DL = dg n (10 ^ (n - 1)) := ⟨_, rfl⟩
      rw [← hDL] at hC
      have HDL : Hid (dg n (10 ^ (n - 1)) = DL) := hDL.symm
      clear hrl hrn hD hK hz hd hlt hl0 hR3 hDL hr0 h10 hlt2
      go_wp2_with fail
      refine hC.mono ?_
      rintro e w5 ⟨a5, a6, rfl, r5, r6, hb5⟩
      have hB5 := hB3.trans (hb5.mono hB3.size)
      have hcv := conv8 r5
      clear hC r5 r6 hb5
      go_wp2
      refine bodyPost_ret (v := .tuple #[.string ⟨DL.toArray⟩, .int .i64 ((L : Int) + x - n + 1), .int .i64 0]) (by simp [results, Tryz.results5, go_sem]) rfl ?_
      exact ⟨_, _, HZ.out.1, HZ.out.2, by rw [HDL.out], hB5⟩
end Go.Proofs.YtceecgklgkiffabGreatDoor

/- Layer 13: what the statements ask first: three numbers. -/
namespace Go.Proofs.YtceecgklgkiffabGreatDoor
open Go.ChangeShapes Go.WideShapes Go.ChangeAt Go.RowKit
open Na Ar Ep
set_option linter.unusedVariables false
namespace Ep
theorem al_u (b : Int) (h : decide (0 ≤ b ∧ b < 18446744073709551616) = true) : U b := by
  have := of_decide_eq_true (p := 0 ≤ b ∧ b < 18446744073709551616) h
  exact ⟨this.1, this.2⟩
theorem pos_of {X : Nat} (h : Nat.ble 1 X = true) : 0 < X := Nat.le_of_ble_eq_true h
theorem al_dec1 : Dec (szA 4609434218613702656) 15 2 (-1) :=
  ⟨Nat.eq_of_beq_eq_true (by kernel_rfl), by omega, by decide, by decide, by decide⟩
theorem al_pos1 : 0 < szA 4609434218613702656 := pos_of (by kernel_rfl)
theorem al_fix : fxR (szA 4591870180066957722) 20 = 10000000000000000555 := Nat.eq_of_beq_eq_true (by kernel_rfl)
theorem al_dec3 : Dec (szA 4652002910794678272) 9995 4 (-1) :=
  ⟨Nat.eq_of_beq_eq_true (by kernel_rfl), by omega, by decide, by decide, by decide⟩
theorem al_pos3 : 0 < szA 4652002910794678272 := pos_of (by kernel_rfl)
theorem al_pz : Pz (szA 4652002910794678272) 3 100 1 := Or.inr ⟨9995, 4, -1, al_pos3, al_dec3, Or.inr ⟨by decide, by decide, by decide⟩⟩
end Ep
set_option maxHeartbeats 1600000 in
set_option maxRecDepth 100000 in
theorem alive13_any (w : World) : Calls Tryz.prog 6 #[] w fun e w' => e = .returned (.bool true) ∧ Below w.heap.size w w' := by
  have h1 : ∀ w, Calls Tryz.prog 8 #[.int .u64 4609434218613702656] w fun e w' => e = .returned (.tuple #[.string ⟨#[49, 53]⟩, .int .i64 (-1), .int .i64 0]) ∧ Below w.heap.size w w' := fun w => by
    refine (digits_fin (al_u _ (by decide)) (by decide) w).mono ?_
    rintro e w' ⟨N, L, x, rfl, hD, _, hb⟩
    obtain ⟨rfl, rfl, rfl⟩ := dz_uniq hD (Or.inr ⟨al_pos1, al_dec1⟩)
    exact ⟨rfl, hb⟩
  have h2 : ∀ w, Calls Tryz.prog 15 #[.int .u64 4591870180066957722, .int .i64 20] w fun e w' => e = .returned (.tuple #[.string ⟨#[48, 46, 49, 48, 48, 48, 48, 48, 48, 48, 48, 48, 48, 48, 48, 48, 48, 48, 48, 53, 53, 53]⟩, .int .i64 0]) ∧ Below w.heap.size w w' := fun w => by
    refine (fixed_fin (n := 20) (al_u 4591870180066957722 (by decide)) (by decide) (by decide) w).mono ?_
    rintro e w' ⟨M, hM, _, rfl, hb⟩
    rw [al_fix] at hM ⊢
    have := mok_uniq hM (Or.inl ⟨rfl, by decide⟩ : Mok 10000000000000000555 20 21)
    subst this
    exact ⟨rfl, hb⟩
  have h3 : ∀ w, Calls Tryz.prog 5 #[.int .u64 4652002910794678272, .int .i64 3] w fun e w' => e = .returned (.tuple #[.string ⟨#[49, 48, 48]⟩, .int .i64 1, .int .i64 0]) ∧ Below w.heap.size w w' := fun w => by
    refine (precise_fin (n := 3) (al_u 4652002910794678272 (by decide)) (by decide) (by decide) (by decide) w).mono ?_
    rintro e w' ⟨D, X, hP, _, rfl, hb⟩
    obtain ⟨rfl, rfl⟩ := pz_uniq hP al_pz
    exact ⟨rfl, hb⟩
  go_enter Tryz.func6, Tryz.ntmps6
  go_wp2_with fail
  refine (h1 w).mono ?_
  rintro e w1 ⟨rfl, hb1⟩
  go_wp2_with fail
  refine (h2 w1).mono ?_
  rintro e w2 ⟨rfl, hb2⟩
  have hB2 := hb1.trans (hb2.mono hb1.size)
  go_wp2_with fail
  refine (h3 w2).mono ?_
  rintro e w3 ⟨rfl, hb3⟩
  have hB3 := hB2.trans (hb3.mono hB2.size)
  clear h1 h2 h3 hb1 hb2 hb3 hB2
  go_wp2
  go_ret
  exact ⟨rfl, hB3⟩
end Go.Proofs.YtceecgklgkiffabGreatDoor


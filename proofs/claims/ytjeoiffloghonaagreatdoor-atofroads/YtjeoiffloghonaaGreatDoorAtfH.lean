/- package atof: Bits, Slow. -/
import Derived.Test.YtjeoiffloghonaaGreatDoorAtfG
namespace Go.Proofs.YtjeoiffloghonaaGreatDoor
open Go.ChangeShapes Go.WideShapes Go.ChangeAt Go.RowKit
open Na Ar Lx
set_option linter.unusedVariables false
namespace Lx
set_option maxRecDepth 100000 in
theorem smal_fin : ∀ b : Fin 256, smal9.contains (UInt8.ofNat b.val) = true → valN ((UInt8.ofNat b.val).toNat : Int) < 16 := by decide
theorem smal_val {c : UInt8} (h : smal9.contains c = true) : valN (c.toNat : Int) < 16 := by
  have := smal_fin ⟨c.toNat, c.toNat_lt⟩
  simp only [UInt8.ofNat_toNat] at this
  exact this h
set_option maxRecDepth 100000 in
theorem digs_fin : ∀ b : Fin 256, digs9.contains (UInt8.ofNat b.val) = true → isD (UInt8.ofNat b.val) = true := by decide
theorem digs_isD {c : UInt8} (h : digs9.contains c = true) : isD c = true := by
  have := digs_fin ⟨c.toNat, c.toNat_lt⟩
  simp only [UInt8.ofNat_toNat] at this
  exact this h
theorem lead_of {l : B} (h : fst [48] l = false) (hn : l ≠ []) : lead l := by
  cases l with
  | nil => exact absurd rfl hn
  | cons c r =>
    refine ⟨c, r, rfl, fun hc => ?_⟩
    subst hc
    simp [fst] at h
theorem kept_dec {l : B} (h : keptB digs9 l = true) (hn : l ≠ []) : l.length ≤ 65536 ∧ lead l ∧ (∀ c ∈ l, isD c = true) ∧ 0 < l.length := by
  unfold keptB at h
  simp only [Bool.and_eq_true, decide_eq_true_eq, Bool.not_eq_true', List.all_eq_true] at h
  exact ⟨h.1, lead_of h.2.1 hn, fun c hc => digs_isD (h.2.2 c hc), List.length_pos_iff.mpr hn⟩
theorem kept_hex {l : B} (h : keptB smal9 l = true) (hn : l ≠ []) : l.length ≤ 65536 ∧ lead l ∧ okB 16 l ∧ 0 < l.length := by
  unfold keptB at h
  simp only [Bool.and_eq_true, decide_eq_true_eq, Bool.not_eq_true', List.all_eq_true] at h
  exact ⟨h.1, lead_of h.2.1 hn, fun c hc => smal_val (h.2.2 c hc), List.length_pos_iff.mpr hn⟩
theorem with_bd {e : Int} (h : withB e = true) : -1073741824 ≤ e ∧ e ≤ 1073741824 := by
  unfold withB at h
  simpa using h
/-- the three kinds of right numerals -/
theorem right_kinds {k e : Int} {num den : B} (h : rightB k num e den = true) :
    (k = 1 ∧ keptB digs9 num = true ∧ den = [] ∧ withB e = true) ∨ (k = 2 ∧ keptB smal9 num = true ∧ den = [] ∧ withB e = true) ∨ (k = 3 ∧ keptB digs9 num = true ∧ keptB digs9 den = true ∧ e = 0) := by
  unfold rightB at h
  by_cases h1 : k = 1
  · rw [if_pos h1] at h
    simp only [Bool.and_eq_true, List.isEmpty_iff] at h
    exact Or.inl ⟨h1, h.1, h.2.1, h.2.2⟩
  · rw [if_neg h1] at h
    by_cases h2 : k = 2
    · rw [if_pos h2] at h
      simp only [Bool.and_eq_true, List.isEmpty_iff] at h
      exact Or.inr (Or.inl ⟨h2, h.1, h.2.1, h.2.2⟩)
    · rw [if_neg h2] at h
      by_cases h3 : k = 3
      · rw [if_pos h3] at h
        simp only [Bool.and_eq_true, decide_eq_true_eq] at h
        exact Or.inr (Or.inr ⟨h3, h.1, h.2.1, h.2.2⟩)
      · rw [if_neg h3] at h
        cases h
end Lx
/-- what Bits and Slow tell -/
def BitsIs (k : Int) (ng : Bool) (num : B) (e : Int) (den : B) (b E : Int) : Prop :=
  (refE k num e den ≠ 0 ∧ b = 0 ∧ E = refE k num e den) ∨ (refE k num e den = 0 ∧ num = [] ∧ b = sgB ng ∧ E = 0) ∨ (refE k num e den = 0 ∧ num ≠ [] ∧ PatIs (ValIs k num e den) ng b E)
theorem refE_right {k e : Int} {num den : B} (h : refE k num e den = 0) : rightB k num e den = true ∧ ¬ (k = 3 ∧ den = []) := by
  unfold refE at h
  cases hr : rightB k num e den
  · rw [hr, if_neg (by decide)] at h; exact absurd h (by decide)
  · rw [hr, if_pos rfl] at h
    refine ⟨rfl, fun q => ?_⟩
    rw [if_pos q] at h
    exact absurd h (by decide)
theorem val_pos_den {den : B} (h : keptB digs9 den = true) (hn : den ≠ []) : 0 < nv 10 den := by
  have := (kept_dec h hn).2.1.ge (b := 10) (by omega)
  have p : (0 : Int) < 10 ^ (den.length - 1) := Int.pow_pos (by omega)
  omega
/-- the answer is an error by its number, or a pattern without a sign -/
theorem val_over {k e m F : Int} {num den : B} (h : refE k num e den = 0) (q : ValIs k num e den m F) : (F = 70 ∧ m = 0) ∨ (F = 0 ∧ 0 ≤ m ∧ m ≤ mostP) := by
  obtain ⟨hr, h3⟩ := refE_right h
  have key : ∀ {A B : Int}, 0 < B → RoundIs A B false false 0 m F → (F = 70 ∧ m = 0) ∨ (F = 0 ∧ 0 ≤ m ∧ m ≤ mostP) := fun hB hq => by
    rcases round_over hB hq with ⟨a, b, _⟩ | ⟨a, b, c, _⟩
    · exact Or.inl ⟨a, b⟩
    · exact Or.inr ⟨a, b, c⟩
  unfold ValIs at q
  rcases right_kinds hr with ⟨rfl, _⟩ | ⟨rfl, _⟩ | ⟨rfl, _, hd, _⟩
  · rw [if_pos rfl] at q
    exact key (scB_pos' (exD_pos e)) q
  · rw [if_neg (by decide), if_pos rfl] at q
    exact key (scB_pos' (by omega)) q
  · rw [if_neg (by decide), if_neg (by decide)] at q
    exact key (scB_pos' (val_pos_den hd (fun q => h3 ⟨rfl, q⟩))) q
theorem val_uniq {k e m F m' F' : Int} {num den : B} (h : refE k num e den = 0) (q : ValIs k num e den m F) (q' : ValIs k num e den m' F') : m = m' ∧ F = F' := by
  obtain ⟨hr, h3⟩ := refE_right h
  unfold ValIs at q q'
  rcases right_kinds hr with ⟨rfl, _⟩ | ⟨rfl, _⟩ | ⟨rfl, _, hd, _⟩
  · rw [if_pos rfl] at q q'
    exact ex_uniq q q'
  · rw [if_neg (by decide), if_pos rfl] at q q'
    exact roundIs_uniq (scB_pos' (by omega)) q q'
  · rw [if_neg (by decide), if_neg (by decide)] at q q'
    exact roundIs_uniq (scB_pos' (val_pos_den hd (fun q => h3 ⟨rfl, q⟩))) q q'
theorem bits_uniq {k e b E b' E' : Int} {ng : Bool} {num den : B} (h : BitsIs k ng num e den b E) (h' : BitsIs k ng num e den b' E') : b = b' ∧ E = E' := by
  rcases h with ⟨a1, a2, a3⟩ | ⟨a1, a2, a3, a4⟩ | ⟨a1, a2, m, F, a3, a4⟩ <;> rcases h' with ⟨c1, c2, c3⟩ | ⟨c1, c2, c3, c4⟩ | ⟨c1, c2, m', F', c3, c4⟩
  · exact ⟨a2.trans c2.symm, a3.trans c3.symm⟩
  · exact absurd c1 a1
  · exact absurd c1 a1
  · exact absurd a1 c1
  · exact ⟨a3.trans c3.symm, a4.trans c4.symm⟩
  · exact absurd a2 c2
  · exact absurd a1 c1
  · exact absurd c2 a2
  · obtain ⟨rfl, rfl⟩ := val_uniq a1 a3 c3
    rcases a4 with ⟨x1, x2, x3⟩ | ⟨x1, x2, x3⟩ <;> rcases c4 with ⟨y1, y2, y3⟩ | ⟨y1, y2, y3⟩
    · exact ⟨x2.trans y2.symm, x3.trans y3.symm⟩
    · exact absurd y1 x1
    · exact absurd x1 y1
    · exact ⟨x3.trans y3.symm, x2.trans y2.symm⟩
theorem BitsIs.codes {k e b E : Int} {ng : Bool} {num den : B} (h : BitsIs k ng num e den b E) (hr : refE k num e den = 0) : (E = 0 ∨ E = 70) ∧ (E = 70 → b = 0) := by
  rcases h with ⟨a1, _⟩ | ⟨_, _, _, a4⟩ | ⟨a1, a2, m, F, a3, a4⟩
  · exact absurd hr a1
  · exact ⟨Or.inl a4, fun q => by omega⟩
  · rcases val_over a1 a3 with ⟨rfl, rfl⟩ | ⟨rfl, _⟩
    · rcases a4 with ⟨_, x2, x3⟩ | ⟨x1, _⟩
      · exact ⟨Or.inr x3, fun _ => x2⟩
      · exact absurd x1 (by decide)
    · rcases a4 with ⟨x1, _⟩ | ⟨_, x2, _⟩
      · exact absurd rfl x1
      · exact ⟨Or.inl x2, fun q => by omega⟩
/-- the pattern's answer, by the slow road -/
theorem pat_slow_all (k : Int) (ng : Bool) (num : ByteArray) (e : Int) (den : ByteArray) (hn : num.size ≤ 9223372036854775807) (hd : den.size ≤ 9223372036854775807) {w : World} (hG : GrVar w) :
    Calls Tryz.prog 32 #[.agg (numC k ng num e den), .func (.func 34) #[] #[]] w fun r w' => ∃ b E, r = .returned (.tuple #[.int .u64 b, .int .i64 E]) ∧ BitsIs k ng num.data.toList e den.data.toList b E ∧ U b ∧ Below w.heap.size w w' := by
  by_cases hE : refE k num.data.toList e den.data.toList = 0
  · by_cases hz : num.data.toList = []
    · refine (pat_zero_slow k ng num e den hn hd hE hz w).mono ?_
      rintro r w' ⟨rfl, hb⟩
      exact ⟨_, _, rfl, Or.inr (Or.inl ⟨hE, hz, rfl, rfl⟩), by unfold U; cases ng <;> decide, hb⟩
    · obtain ⟨hr, h3⟩ := refE_right hE
      have fin : ∀ {r : Ending} {w' : World}, (∃ b E, r = .returned (.tuple #[.int .u64 b, .int .i64 E]) ∧ PatIs (ValIs k num.data.toList e den.data.toList) ng b E ∧ U b ∧ Below w.heap.size w w') → ∃ b E, r = .returned (.tuple #[.int .u64 b, .int .i64 E]) ∧ BitsIs k ng num.data.toList e den.data.toList b E ∧ U b ∧ Below w.heap.size w w' := fun {r w'} ⟨b, E, q1, q2, q3, q4⟩ => ⟨b, E, q1, Or.inr (Or.inr ⟨hE, hz, q2⟩), q3, q4⟩
      refine (pat_slow k ng num e den hn hd hE hz num e (fun m F q => val_over hE q) (fun w => slowRoad_any k ng num e den w) w (fun g w1 hb1 B => ?_)).mono fun r w' q => fin q
      have sz : num.size = num.data.toList.length := Lib.size_eq num
      have sd : den.size = den.data.toList.length := Lib.size_eq den
      rcases right_kinds hr with ⟨rfl, q1, q2, q3⟩ | ⟨rfl, q1, q2, q3⟩ | ⟨rfl, q1, q2, q3⟩
      · obtain ⟨k1, k2, k3, k4⟩ := kept_dec q1 hz
        obtain ⟨x0, x1⟩ := with_bd q3
        have hge := k2.ge (b := 10) (by omega)
        rw [← sz] at hge
        refine (slow1_any B (by omega) (by omega) (okB_ten k3) hge (by omega) (by omega) (hG.later hb1)).mono ?_
        rintro r w' ⟨b, E, rfl, h1, h2, h3⟩
        exact ⟨b, E, rfl, by unfold ValIs; rw [if_pos rfl]; exact h1, h2, h3⟩
      · obtain ⟨k1, k2, k3, k4⟩ := kept_hex q1 hz
        obtain ⟨x0, x1⟩ := with_bd q3
        refine (slow2_any B (by omega) (by omega) k3 (by omega) (by omega) (hG.later hb1)).mono ?_
        rintro r w' ⟨b, E, rfl, h1, h2, h3⟩
        exact ⟨b, E, rfl, by unfold ValIs; rw [if_neg (by decide), if_pos rfl]; exact h1, h2, h3⟩
      · obtain ⟨k1, k2, k3, k4⟩ := kept_dec q1 hz
        have dn : den.data.toList ≠ [] := fun q => h3 ⟨rfl, q⟩
        obtain ⟨l1, l2, l3, l4⟩ := kept_dec q2 dn
        refine (slow3_any B (by omega) (by omega) (okB_ten k3) (by omega) (by omega) (okB_ten l3) (val_pos_den q2 dn) (hG.later hb1)).mono ?_
        rintro r w' ⟨b, E, rfl, h1, h2, h3⟩
        exact ⟨b, E, rfl, by unfold ValIs; rw [if_neg (by decide), if_neg (by decide)]; exact h1, h2, h3⟩
  · refine (pat_refused_slow k ng num e den hn hd hE w).mono ?_
    rintro r w' ⟨rfl, hb⟩
    exact ⟨_, _, rfl, Or.inl ⟨hE, rfl, rfl⟩, U_zero, hb⟩
theorem shN_dec {l : B} (h : ∀ c ∈ l, isD c = true) (k : Int) : ∀ c ∈ shN k l, isD c = true := fun c hc => by
  unfold shN at hc
  split at hc
  · exact h c hc
  · split at hc
    · exact h c (List.mem_of_mem_take hc)
    · rcases List.mem_append.mp hc with hc | hc
      · exact h c (List.mem_of_mem_take hc)
      · rw [List.mem_singleton.mp hc]; rfl
theorem shN_hex {l : B} (h : okB 16 l) (k : Int) : okB 16 (shN k l) := fun c hc => by
  unfold shN at hc
  split at hc
  · exact h c hc
  · split at hc
    · exact h c (List.mem_of_mem_take hc)
    · rcases List.mem_append.mp hc with hc | hc
      · exact h c (List.mem_of_mem_take hc)
      · rw [List.mem_singleton.mp hc]; decide
theorem shN_lead {l : B} (h : lead l) (k : Int) : lead (shN k l) := by
  unfold shN
  split
  · exact h
  · have := h.take (n := 768) (by omega)
    split
    · exact this
    · obtain ⟨c, r, e, hc⟩ := this
      exact ⟨c, r ++ [49], by rw [e]; rfl, hc⟩
theorem shN_len {l : B} (h : l.length ≤ 65536) (k : Int) : (shN k l).length ≤ 65536 := by
  unfold shN
  split
  · exact h
  · split
    · rw [List.length_take]; omega
    · rw [List.length_append, List.length_take, List.length_singleton]; omega
theorem shE_bd {l : B} (h : l.length ≤ 65536) {k e : Int} (h0 : -1073741824 ≤ e) (h1 : e ≤ 1073741824) : -2000000000 ≤ shE k l e ∧ shE k l e ≤ 2000000000 := by
  have hp : 0 ≤ perD k ∧ perD k ≤ 4 := by unfold perD; split <;> omega
  have key : ∀ n : Nat, n ≤ 65536 → 0 ≤ (n : Int) * perD k ∧ (n : Int) * perD k ≤ 65536 * 4 := fun n hn => ⟨Int.mul_nonneg (by omega) hp.1, Int.mul_le_mul (by omega) hp.2 hp.1 (by omega)⟩
  unfold shE
  split
  · omega
  · split
    · have := key (l.length - 768) (by omega); omega
    · have := key (l.length - 769) (by omega); omega
/-- the pattern's answer, by the three roads -/
theorem pat_roads_all (k : Int) (ng : Bool) (num : ByteArray) (e : Int) (den : ByteArray) (hn : num.size ≤ 9223372036854775807) (hd : den.size ≤ 9223372036854775807) {w : World} (hG : GrVar w) (hT : TenVar w) :
    Calls Tryz.prog 32 #[.agg (numC k ng num e den), .func (.func 33) #[] #[]] w fun r w' => ∃ b E, r = .returned (.tuple #[.int .u64 b, .int .i64 E]) ∧ BitsIs k ng num.data.toList e den.data.toList b E ∧ U b ∧ Below w.heap.size w w' := by
  by_cases hE : refE k num.data.toList e den.data.toList = 0
  · by_cases hz : num.data.toList = []
    · refine (pat_zero_roads k ng num e den hn hd hE hz w).mono ?_
      rintro r w' ⟨rfl, hb⟩
      exact ⟨_, _, rfl, Or.inr (Or.inl ⟨hE, hz, rfl, rfl⟩), by unfold U; cases ng <;> decide, hb⟩
    · obtain ⟨hr, h3⟩ := refE_right hE
      have fin : ∀ {r : Ending} {w' : World}, (∃ b E, r = .returned (.tuple #[.int .u64 b, .int .i64 E]) ∧ PatIs (ValIs k num.data.toList e den.data.toList) ng b E ∧ U b ∧ Below w.heap.size w w') → ∃ b E, r = .returned (.tuple #[.int .u64 b, .int .i64 E]) ∧ BitsIs k ng num.data.toList e den.data.toList b E ∧ U b ∧ Below w.heap.size w w' := fun {r w'} ⟨b, E, q1, q2, q3, q4⟩ => ⟨b, E, q1, Or.inr (Or.inr ⟨hE, hz, q2⟩), q3, q4⟩
      have sz : num.size = num.data.toList.length := Lib.size_eq num
      have sd : den.size = den.data.toList.length := Lib.size_eq den
      have vo := fun m F q => val_over (m := m) (F := F) hE q
      rcases right_kinds hr with ⟨rfl, q1, q2, q3⟩ | ⟨rfl, q1, q2, q3⟩ | ⟨rfl, q1, q2, q3⟩
      · obtain ⟨k1, k2, k3, k4⟩ := kept_dec q1 hz
        obtain ⟨x0, x1⟩ := with_bd q3
        obtain ⟨y0, y1⟩ := shE_bd k1 (k := 1) x0 x1
        obtain ⟨t, n1, n2, n3, n4, n5, n6⟩ := quick_num k3
        have VI : ∀ b E, ValIs 1 num.data.toList e den.data.toList b E ↔ ExIs (nv 10 num.data.toList) e b E := fun b E => by unfold ValIs; rw [if_pos rfl]
        refine (pat_dec 1 ng num e den hn hd hE hz (Q := ValIs 1 num.data.toList e den.data.toList) (Q1 := Road1 (cutV (trimR [48] num.data.toList)) (e + num.data.toList.length - cutN (trimR [48] num.data.toList)) (cutMr (trimR [48] num.data.toList))) (Q2 := Road2 (cutV (trimR [48] num.data.toList)) (e + num.data.toList.length - cutN (trimR [48] num.data.toList)) (cutMr (trimR [48] num.data.toList))) (str (shN 1 num.data.toList)) (shE 1 num.data.toList e) (cutV (trimR [48] num.data.toList)) (e + num.data.toList.length - cutN (trimR [48] num.data.toList)) (cutMr (trimR [48] num.data.toList)) vo (fun w => roads_dec ng num e den (by omega) (by omega) x0 x1 k3 w) w (fun g w1 hb1 B => ?_) (fun gm ge gr w1 hb1 c1 c2 c3 => ?_) (fun gm ge gr w1 hb1 c1 c2 c3 => ?_) (fun b E h hE => ?_) (fun b E h hE => ?_)).mono fun r w' q => fin q
        · have hge := (shN_lead k2 1).ge (b := 10) (by omega)
          refine (slow1_any B (by rw [str_size]; exact (shN_lead k2 1).pos) (by rw [str_size]; exact shN_len k1 1) (by rw [str_list]; exact okB_ten (shN_dec k3 1)) (by rw [str_size, str_list]; exact hge) y0 y1 (hG.later hb1)).mono ?_
          rintro r w' ⟨b, E, rfl, h1, h2, h3⟩
          rw [str_list, short_dec (okB_ten k3) k2] at h1
          exact ⟨b, E, rfl, (VI b E).mpr h1, h2, h3⟩
        · exact road1_any c1 c2 c3 (by unfold U; omega) (by omega) (by omega) (hT.later hb1)
        · exact road2_any c1 c2 c3 n5 n6 (by omega) (by omega)
        · rcases h with h | ⟨h, h'⟩
          · exact absurd h hE
          · exact (VI b E).mpr (quick_ex k3 h' (fun q => by rw [h] at q; cases q))
        · rcases h with h | ⟨h, h'⟩
          · exact absurd h hE
          · exact (VI b E).mpr (quick_ex k3 h h')
      · obtain ⟨k1, k2, k3, k4⟩ := kept_hex q1 hz
        obtain ⟨x0, x1⟩ := with_bd q3
        obtain ⟨y0, y1⟩ := shE_bd k1 (k := 2) x0 x1
        refine (pat_other 2 ng num e den hn hd hE hz (str (shN 2 num.data.toList)) (shE 2 num.data.toList e) vo (fun w => roads_other 2 ng num e den (by omega) (by omega) x0 x1 w) w (fun g w1 hb1 B => ?_)).mono fun r w' q => fin q
        refine (slow2_any B (by rw [str_size]; exact (shN_lead k2 2).pos) (by rw [str_size]; exact shN_len k1 2) (by rw [str_list]; exact shN_hex k3 2) y0 y1 (hG.later hb1)).mono ?_
        rintro r w' ⟨b, E, rfl, h1, h2, h3⟩
        rw [str_list, short_hex k3 k2] at h1
        exact ⟨b, E, rfl, by unfold ValIs; rw [if_neg (by decide), if_pos rfl]; exact h1, h2, h3⟩
      · obtain ⟨k1, k2, k3, k4⟩ := kept_dec q1 hz
        have dn : den.data.toList ≠ [] := fun q => h3 ⟨rfl, q⟩
        obtain ⟨l1, l2, l3, l4⟩ := kept_dec q2 dn
        have s1 : shN 3 num.data.toList = num.data.toList := by unfold shN; rw [if_pos (Or.inl rfl)]
        refine (pat_other 3 ng num e den hn hd hE hz (str (shN 3 num.data.toList)) (shE 3 num.data.toList e) vo (fun w => roads_other 3 ng num e den (by omega) (by omega) (by omega) (by omega) w) w (fun g w1 hb1 B => ?_)).mono fun r w' q => fin q
        rw [s1, str_of] at B
        refine (slow3_any B (by omega) (by omega) (okB_ten k3) (by omega) (by omega) (okB_ten l3) (val_pos_den q2 dn) (hG.later hb1)).mono ?_
        rintro r w' ⟨b, E, rfl, h1, h2, h3⟩
        exact ⟨b, E, rfl, by unfold ValIs; rw [if_neg (by decide), if_neg (by decide)]; exact h1, h2, h3⟩
  · refine (pat_refused_roads k ng num e den hn hd hE w).mono ?_
    rintro r w' ⟨rfl, hb⟩
    exact ⟨_, _, rfl, Or.inl ⟨hE, rfl, rfl⟩, U_zero, hb⟩
set_option maxHeartbeats 1600000 in
set_option maxRecDepth 100000 in
theorem slow11_any (k : Int) (ng : Bool) (num : ByteArray) (e : Int) (den : ByteArray) (hn : num.size ≤ 9223372036854775807) (hd : den.size ≤ 9223372036854775807) {w : World} (hG : GrVar w) :
    Calls Tryz.prog 12 #[.agg (numC k ng num e den)] w fun r w' => ∃ b E, r = .returned (.tuple #[.int .u64 b, .int .i64 E]) ∧ BitsIs k ng num.data.toList e den.data.toList b E ∧ U b ∧ Below w.heap.size w w' := by
  have hb0 : Below w.heap.size w (w.alloc (.cells (numC k ng num e den) 23)) := (Below.refl _ w).alloc (Nat.le_refl _) _
  have hP := pat_slow_all k ng num e den hn hd (hG.later hb0)
  generalize BitsIs k ng num.data.toList e den.data.toList = Q at *
  unfold numC at hP hb0 ⊢
  go_enter Tryz.func12, Tryz.ntmps12
  go_wp2_with fail
  refine hP.mono ?_
  rintro r w1 ⟨b, E, rfl, hq, ub, hb1⟩
  have HQ : Hid (Q b E) := hq
  have B := hb0.trans (hb1.mono hb0.size)
  clear hq hP
  go_wp2
  go_ret2
  exact ⟨_, _, rfl, HQ.out, ub, B⟩
set_option maxHeartbeats 1600000 in
set_option maxRecDepth 100000 in
theorem bits11_any (k : Int) (ng : Bool) (num : ByteArray) (e : Int) (den : ByteArray) (hn : num.size ≤ 9223372036854775807) (hd : den.size ≤ 9223372036854775807) {w : World} (hG : GrVar w) (hT : TenVar w) :
    Calls Tryz.prog 11 #[.agg (numC k ng num e den)] w fun r w' => ∃ b E, r = .returned (.tuple #[.int .u64 b, .int .i64 E]) ∧ BitsIs k ng num.data.toList e den.data.toList b E ∧ U b ∧ Below w.heap.size w w' := by
  have hb0 : Below w.heap.size w (w.alloc (.cells (numC k ng num e den) 23)) := (Below.refl _ w).alloc (Nat.le_refl _) _
  have hP := pat_roads_all k ng num e den hn hd (hG.later hb0) (hT.later hb0)
  generalize BitsIs k ng num.data.toList e den.data.toList = Q at *
  unfold numC at hP hb0 ⊢
  go_enter Tryz.func11, Tryz.ntmps11
  go_wp2_with fail
  refine hP.mono ?_
  rintro r w1 ⟨b, E, rfl, hq, ub, hb1⟩
  have HQ : Hid (Q b E) := hq
  have B := hb0.trans (hb1.mono hb0.size)
  clear hq hP
  go_wp2
  go_ret2
  exact ⟨_, _, rfl, HQ.out, ub, B⟩
end Go.Proofs.YtjeoiffloghonaaGreatDoor

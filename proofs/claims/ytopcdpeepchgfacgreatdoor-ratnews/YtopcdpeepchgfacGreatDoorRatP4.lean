/- plumbref05.Parse, of texts of at most 4000 bytes. -/
import Derived.Test.YtopcdpeepchgfacGreatDoorRatP3
import Derived.Test.YtopcdpeepchgfacGreatDoorBaseF
import Derived.Test.YtopcdpeepchgfacGreatDoorRatKb
namespace Go.Proofs.YtopcdpeepchgfacGreatDoor
open Go.ChangeShapes Go.WideShapes Go.ChangeAt Go.RowKit
open Na Ar
set_option linter.unusedVariables false
set_option linter.unusedSimpArgs false
namespace Na
theorem pow10 (n : Nat) : (10 : Int) ^ n ≤ 18446744073709551616 ^ n := by
  induction n with
  | zero => simp
  | succ n ih =>
    rw [Int.pow_succ, Int.pow_succ]
    have h1 := wpow_pos n
    exact Int.mul_le_mul ih (by omega) (by omega) (by omega)
theorem small10 {s : ByteArray} (hs : s.size ≤ 4000) (hd : ∀ i, i < s.size → dgt s i < 10) : (words (numB s 10 s.size)).length ≤ 4096 := by
  have h1 := numB_lt (s := s) (b := 10) (by omega) hd
  have h2 := pow10 s.size
  have h3 := wpow_mono (show s.size ≤ 4096 by omega)
  exact words_short (numB_nonneg10 s) (by omega)
theorem code_digits {s : ByteArray} {c p : Int} (h0 : 0 < s.size) (hs : s.size ≤ 4000) (hd : ∀ i, i < s.size → dgt s i < 10) (h : PCode s 10 c p) : c = 0 ∧ p = -1 :=
  pcode_uniq h (Or.inr (Or.inr (Or.inr (Or.inr ⟨⟨by omega, by omega⟩, ⟨h0, hd⟩, small10 hs hd, rfl, rfl⟩))))
theorem dgt_nonneg (s : ByteArray) (i : Nat) : 0 ≤ dgt s i := (valN_bd _).1
theorem numB_none {s : ByteArray} (n : Nat) : numB s 10 n = 0 ↔ ∀ j, j < n → s.get! j = 48 := by
  constructor
  · intro h
    induction n with
    | zero => intro j hj; omega
    | succ n ih =>
      have e : numB s 10 (n + 1) = numB s 10 n * 10 + dgt s n := rfl
      have h1 := numB_nonneg (s := s) (b := 10) (by omega) n
      have h2 := dgt_nonneg s n
      intro j hj
      by_cases q : j < n
      · exact ih (by omega) j q
      · have : j = n := by omega
        subst this
        apply Decidable.byContradiction
        intro hc
        have := dgt_pos hc
        omega
  · exact numB_zeros
theorem ext_dgt (z : ByteArray) {i j k : Nat} (hk : k < j - i) : dgt (z.extract i j) k = dgt z (i + k) := by unfold dgt; rw [ext_get z hk]
theorem one_num : numB (⟨#[49]⟩ : ByteArray) 10 (⟨#[49]⟩ : ByteArray).size = 1 := by decide
/-- where the sign ends -/
def FromIs (s : ByteArray) (f : Nat) (neg : Bool) : Prop := (f = 1 ∧ neg = true ∧ 0 < s.size ∧ s.get! 0 = 45) ∨ (f = 0 ∧ neg = false ∧ (0 < s.size → s.get! 0 ≠ 45))
theorem fromIs_any (s : ByteArray) : ∃ f neg, FromIs s f neg ∧ f ≤ s.size := by
  by_cases h : 0 < s.size ∧ s.get! 0 = 45
  · exact ⟨1, true, Or.inl ⟨rfl, rfl, h.1, h.2⟩, by omega⟩
  · exact ⟨0, false, Or.inr ⟨rfl, rfl, fun h0 e => h ⟨h0, e⟩⟩, by omega⟩
/-- what the document's Parse makes of a text -/
def RSpec (s : ByteArray) (f : Nat) (code p N D : Int) : Prop := ∃ e1 : Nat, DigEnd s f e1 ∧
  ((e1 = f ∧ code = 41 ∧ p = f) ∨
   (f < e1 ∧ e1 < s.size ∧ s.get! e1 ≠ 47 ∧ code = 41 ∧ p = e1) ∨
   (f < e1 ∧ e1 = s.size ∧ code = 0 ∧ p = -1 ∧ N = numB (s.extract f e1) 10 (s.extract f e1).size ∧ D = 1) ∨
   (f < e1 ∧ e1 < s.size ∧ s.get! e1 = 47 ∧ ∃ e2 : Nat, DigEnd s (e1 + 1) e2 ∧
     ((e2 = e1 + 1 ∧ code = 41 ∧ p = e2) ∨ (e1 + 1 < e2 ∧ e2 < s.size ∧ code = 41 ∧ p = e2) ∨
      (e1 + 1 < e2 ∧ e2 = s.size ∧ numB (s.extract (e1 + 1) e2) 10 (s.extract (e1 + 1) e2).size = 0 ∧ code = 50 ∧ p = e1 + 1) ∨
      (e1 + 1 < e2 ∧ e2 = s.size ∧ numB (s.extract (e1 + 1) e2) 10 (s.extract (e1 + 1) e2).size ≠ 0 ∧ code = 0 ∧ p = -1 ∧ N = numB (s.extract f e1) 10 (s.extract f e1).size ∧ D = numB (s.extract (e1 + 1) e2) 10 (s.extract (e1 + 1) e2).size))))
end Na
/-- what the document's Parse answers -/
def RRes (w : World) (neg : Bool) (N D code p : Int) (e : Ending) (w' : World) : Prop :=
  ((code = 0 ∧ ∃ s v1 v2, e = .returned (.tuple #[.agg #[.bool s, v1, v2], .int .i64 0, .int .i64 p]) ∧ RtO w' w.heap.size s v1 v2 (mkR neg N D)) ∨
   (code ≠ 0 ∧ e = .returned (.tuple #[.agg #[.bool false, .slice none 0 0, .slice none 0 0], .int .i64 code, .int .i64 p]))) ∧ Below w.heap.size w w'
set_option maxHeartbeats 12800000 in
set_option maxRecDepth 100000 in
theorem r5Parse_any (s : ByteArray) {f : Nat} {neg : Bool} (hF : FromIs s f neg) (hs : s.size ≤ 4000) (w : World) :
    Calls Tryz.prog 53 #[.string s] w fun e w' => ∃ code p N D, RSpec s f code p N D ∧ RRes w neg N D code p e w' := by
  have hb0 := alloc_below (w := w) (.cells #[.bool false, .slice none 0 0, .slice none 0 0] 25)
  have st0 := st_new w (.bool false) (.slice none 0 0) (.slice none 0 0) 25
  obtain ⟨x0, x1, x2⟩ := st0.cells
  obtain ⟨y0, y1, y2⟩ := st0.frozen
  have HI := fun (x y z : Value) => in3 (w.alloc (.cells #[.bool false, .slice none 0 0, .slice none 0 0] 25)) w.heap.size x y z
  have hdig := fun (a : Nat) (w : World) (ha : a ≤ s.size) => digEnd_any s a (by omega) ha w
  rcases hF with ⟨rfl, rfl, h0, h1⟩ | ⟨rfl, rfl, h1⟩
  · have hb := get_byte h0
    have q0 : (0 : Int) < (s.size : Int) := by omega
    have q1 : ((((s[0]'h0).toNat : Nat) : Int) == 45) = true := beq_of (by rw [← hb, h1]; rfl)
    clear hb
    go_enter Tryz.func53, Tryz.ntmps53
    go_wp2_with fail
    refine (hdig 1 _ (by omega)).mono ?_
    rintro e w' ⟨e1, rfl, hD1, rfl⟩
    obtain ⟨d1, d2, d3, d4⟩ := hD1
    have HD1 : Hid (DigEnd s 1 e1) := ⟨d1, d2, d3, d4⟩
    by_cases a1 : e1 = 1
    · subst a1
      go_wp2_with fail
      have st9 := (st0.set (.bool false) (.slice none 0 0) (.slice none 0 0)).cells
      refine bodyPost_ret (v := .tuple #[.agg #[.bool false, .slice none 0 0, .slice none 0 0], .int .i64 (41), _]) (by simp [results, Tryz.results53, go_sem, st9]; rfl) rfl ?_
      exact ⟨41, _, 0, 1, ⟨_, HD1.out, (Or.inl ⟨rfl, rfl, rfl⟩)⟩, Or.inr ⟨by omega, rfl⟩, hb0⟩
    · have a1' : (((e1 : Nat) : Int) == 1) = false := beq_no (by omega)
      have t1 : 1 < e1 := by omega
      have u1 : ((1 : Nat) : Int) ≤ (e1 : Int) := by omega
      have u2 : (e1 : Int) ≤ (s.size : Int) := by omega
      by_cases b1 : e1 < s.size
      · have b2 : (e1 : Int) < (s.size : Int) := by omega
        have hb := get_byte b1
        by_cases c1 : s.get! e1 = 47
        · have c2 : ((((s[e1]'b1).toNat : Nat) : Int) == 47) = true := beq_of (by rw [← hb, c1]; rfl)
          go_wp2_with fail
          refine (hdig (e1 + 1) _ (by omega)).mono ?_
          rintro e w' ⟨e2, rfl, hD2, rfl⟩
          obtain ⟨g1, g2, g3, g4⟩ := hD2
          have HD2 : Hid (DigEnd s (e1 + 1) e2) := ⟨g1, g2, g3, g4⟩
          by_cases a3 : e2 = e1 + 1
          · subst a3
            go_wp2_with fail
            have st9 := (st0.set (.bool false) (.slice none 0 0) (.slice none 0 0)).cells
            refine bodyPost_ret (v := .tuple #[.agg #[.bool false, .slice none 0 0, .slice none 0 0], .int .i64 (41), _]) (by simp [results, Tryz.results53, go_sem, st9]; rfl) rfl ?_
            exact ⟨41, _, 0, 1, ⟨_, HD1.out, (Or.inr (Or.inr (Or.inr ⟨t1, b1, c1, _, HD2.out, Or.inl ⟨rfl, rfl, rfl⟩⟩)))⟩, Or.inr ⟨by omega, rfl⟩, hb0⟩
          · have a3' : (((e2 : Nat) : Int) == (e1 : Int) + 1) = false := beq_no (by omega)
            have u3 : (e1 : Int) + 1 ≤ (e2 : Int) := by omega
            have u4 : (e2 : Int) ≤ (s.size : Int) := by omega
            by_cases b3 : e2 < s.size
            · have b4 : (e2 : Int) < (s.size : Int) := by omega
              go_wp2_with fail
              have st9 := (st0.set (.bool false) (.slice none 0 0) (.slice none 0 0)).cells
              refine bodyPost_ret (v := .tuple #[.agg #[.bool false, .slice none 0 0, .slice none 0 0], .int .i64 (41), _]) (by simp [results, Tryz.results53, go_sem, st9]; rfl) rfl ?_
              exact ⟨41, _, 0, 1, ⟨_, HD1.out, (Or.inr (Or.inr (Or.inr ⟨t1, b1, c1, _, HD2.out, Or.inr (Or.inl ⟨by omega, b3, rfl, rfl⟩)⟩)))⟩, Or.inr ⟨by omega, rfl⟩, hb0⟩
            · have b4 : ¬ (e2 : Int) < (s.size : Int) := by omega
              have HB5 : Hid (e2 = s.size) := by show _ = _; omega
              go_wp2_with fail
              have ts : (s.extract 1 e1).size = e1 - 1 := ext_size s (by omega) (by omega)
              have td : ∀ i, i < (s.extract 1 e1).size → dgt (s.extract 1 e1) i < 10 := fun i hi => by rw [ext_dgt s (by omega)]; exact d3 _ (by omega) (by omega)
              have ls : (s.extract (e1 + 1) e2).size = e2 - (e1 + 1) := ext_size s (by omega) (by omega)
              have ld : ∀ i, i < (s.extract (e1 + 1) e2).size → dgt (s.extract (e1 + 1) e2) i < 10 := fun i hi => by rw [ext_dgt s (by omega)]; exact g3 _ (by omega) (by omega)
              generalize htop : s.extract 1 e1 = top at *
              generalize hlow : s.extract (e1 + 1) e2 = low at *
              have HT : Hid (s.extract 1 e1 = top) := htop
              have HL : Hid (s.extract (e1 + 1) e2 = low) := hlow
              have lp : 0 < low.size := by omega
              have l4 : low.size ≤ 4000 := by omega
              have tp : 0 < top.size := by omega
              have t4 : top.size ≤ 4000 := by omega
              clear htop hlow ls ts d3 d4 g3 g4
              go_loop [10, 11] (fun zv iv => ∃ (Z : Bool) (i : Nat), zv = .bool Z ∧ iv = .int .i64 (i : Int) ∧ i ≤ low.size ∧ Hid (Z = true ↔ ∀ j, j < i → low.get! j = 48)) (fun _ iv => low.size - (intOf iv).toNat)
              case atStart => exact ⟨true, 0, rfl, rfl, by omega, by simp [Hid]⟩
              case round =>
                obtain ⟨Z, i, rfl, rfl, i1, i2⟩ := hrel
                by_cases hi : i < low.size
                · have hl : (i : Int) < (low.size : Int) := by omega
                  have hb := get_byte hi
                  cases Z
                  · have H2 : Hid (false = true ↔ ∀ j, j < i + 1 → low.get! j = 48) := by
                      show _ ↔ _
                      have := i2.out
                      constructor
                      · intro h; cases h
                      · intro h; exact this.mpr fun j hj => h j (by omega)
                    clear i2 hb
                    go_wp2_with fail
                    go_round
                    case rel => exact ⟨false, i + 1, rfl, rfl, by omega, H2⟩
                    case measure => simp [intOf]; omega
                  · by_cases qz : low.get! i = 48
                    · have qz' : ((((low[i]'hi).toNat : Nat) : Int) == 48) = true := beq_of (by rw [← hb, qz]; rfl)
                      have H2 : Hid (true = true ↔ ∀ j, j < i + 1 → low.get! j = 48) := by
                        show _ ↔ _
                        have := i2.out.mp rfl
                        refine ⟨fun _ j hj => ?_, fun _ => rfl⟩
                        by_cases e : j < i
                        · exact this j e
                        · have : j = i := by omega
                          rw [this]; exact qz
                      clear i2 hb qz
                      go_wp2_with fail
                      go_round
                      case rel => exact ⟨true, i + 1, rfl, rfl, by omega, H2⟩
                      case measure => simp [intOf]; omega
                    · have qz' : ((((low[i]'hi).toNat : Nat) : Int) == 48) = false := beq_no (by
                        intro e
                        apply qz
                        rw [hb]
                        exact UInt8.toNat_inj.1 (by show (low[i]'hi).toNat = 48; omega))
                      have H2 : Hid (false = true ↔ ∀ j, j < i + 1 → low.get! j = 48) := by
                        show _ ↔ _
                        exact ⟨fun h => (by cases h), fun h => absurd (h i (by omega)) qz⟩
                      clear i2 hb qz
                      go_wp2_with fail
                      go_round
                      case rel => exact ⟨false, i + 1, rfl, rfl, by omega, H2⟩
                      case measure => simp [intOf]; omega
                · have hl : ¬ (i : Int) < (low.size : Int) := by omega
                  have ie : i = low.size := by omega
                  cases Z
                  · have HZ : Hid (numB low 10 low.size ≠ 0) := fun h => by
                      have := i2.out.mpr (fun j hj => (numB_none _).mp h j (by omega))
                      cases this
                    clear i2 ie
                    go_wp2_with fail
                    refine (refParse_any top 10 (by omega) _).mono ?_
                    rintro e wA ⟨va, la, ca, code1, p1, rfl, ⟨hc1, hr1⟩, hbA⟩
                    obtain ⟨z1, z2⟩ := code_digits tp t4 td hc1
                    subst z1 z2
                    have r1 : RowC wA va la ca (words (numB top 10 top.size)) := hr1
                    have stA := st0.later hbA
                    have la9 : la ≤ 4096 := by have := r1.1.1; have := small10 t4 td; omega
                    clear hr1 hc1
                    go_wp2_with fail
                    refine (refParse_any low 10 (by omega) _).mono ?_
                    rintro e wB ⟨vb, lb, cb, code2, p2, rfl, ⟨hc2, hr2⟩, hbB⟩
                    obtain ⟨z1, z2⟩ := code_digits lp l4 ld hc2
                    subst z1 z2
                    have r2 : RowC wB vb lb cb (words (numB low 10 low.size)) := hr2
                    have stB := stA.later hbB
                    have lb9 : lb ≤ 4096 := by have := r2.1.1; have := small10 (s := low) l4 ld; omega
                    have hBB := hb0.trans ((hbA.trans (hbB.mono hbA.size)).mono hb0.size)
                    have low5 := ref5Low_any (neg := true) (r1.later hbB) r2 ⟨Dg_words _, num_words (numB_nonneg10 top), by have := small10 t4 td; omega⟩ ⟨Dg_words _, num_words (numB_nonneg10 low), by have := small10 (s := low) l4 ld; omega⟩ (by have := numB_nonneg10 low; have := HZ.out; omega) (by omega) (by omega)
                    clear hr2 hc2
                    go_wp2_with fail
                    refine low5.mono ?_
                    rintro e wE ⟨s9, v1, v2, rfl, hR, hbE⟩
                    obtain ⟨a9, n9, c9, b9, m9, d9, rfl, rfl, _⟩ := hR.opens
                    have tE := stB.later hbE
                    obtain ⟨x0, x1, x2⟩ := tE.cells
                    obtain ⟨y0, y1, y2⟩ := tE.frozen
                    clear low5
                    go_wp2_with fail
                    have st9 := (tE.set (.bool s9) (.slice a9 n9 c9) (.slice b9 m9 d9)).cells
                    refine bodyPost_ret (v := .tuple #[.agg #[.bool s9, .slice a9 n9 c9, .slice b9 m9 d9], .int .i64 0, .int .i64 (-1)]) (by simp [results, Tryz.results53, go_sem, st9]) rfl ?_
                    have hlt := stB.lt
                    exact ⟨0, -1, _, _, ⟨_, HD1.out, Or.inr (Or.inr (Or.inr ⟨t1, b1, c1, _, HD2.out, Or.inr (Or.inr (Or.inr ⟨by omega, HB5.out, by rw [HL.out]; exact HZ.out, rfl, rfl, by rw [HT.out], by rw [HL.out]⟩))⟩))⟩, Or.inl ⟨rfl, _, _, _, rfl, (hR.inn (in3 _ _ _ _ _) hlt).lower hBB.size⟩, below_in (hBB.trans (hbE.mono hBB.size)) (in3 _ _ _ _ _) (Nat.le_refl _) (Nat.le_refl _)⟩
                  · have HZ : Hid (numB low 10 low.size = 0) := (numB_none _).mpr fun j hj => i2.out.mp rfl j (by omega)
                    clear i2 ie
                    go_wp2_with fail
                    have st9 := (st0.set (.bool false) (.slice none 0 0) (.slice none 0 0)).cells
                    refine bodyPost_ret (v := .tuple #[.agg #[.bool false, .slice none 0 0, .slice none 0 0], .int .i64 50, _]) (by simp [results, Tryz.results53, go_sem, st9]; rfl) rfl ?_
                    exact ⟨50, _, 0, 1, ⟨_, HD1.out, Or.inr (Or.inr (Or.inr ⟨t1, b1, c1, _, HD2.out, Or.inr (Or.inr (Or.inl ⟨by omega, HB5.out, by rw [HL.out]; exact HZ.out, rfl, rfl⟩))⟩))⟩, Or.inr ⟨by omega, rfl⟩, hb0⟩
        · have c2 : ((((s[e1]'b1).toNat : Nat) : Int) == 47) = false := beq_no (by
            intro e
            apply c1
            rw [hb]
            exact UInt8.toNat_inj.1 (by show (s[e1]'b1).toNat = 47; omega))
          go_wp2_with fail
          have st9 := (st0.set (.bool false) (.slice none 0 0) (.slice none 0 0)).cells
          refine bodyPost_ret (v := .tuple #[.agg #[.bool false, .slice none 0 0, .slice none 0 0], .int .i64 (41), _]) (by simp [results, Tryz.results53, go_sem, st9]; rfl) rfl ?_
          exact ⟨41, _, 0, 1, ⟨_, HD1.out, (Or.inr (Or.inl ⟨t1, b1, c1, rfl, rfl⟩))⟩, Or.inr ⟨by omega, rfl⟩, hb0⟩
      · have b2 : ¬ (e1 : Int) < (s.size : Int) := by omega
        have HB5 : Hid (e1 = s.size) := by show _ = _; omega
        have ts : (s.extract 1 e1).size = e1 - 1 := ext_size s (by omega) (by omega)
        have td : ∀ i, i < (s.extract 1 e1).size → dgt (s.extract 1 e1) i < 10 := fun i hi => by rw [ext_dgt s (by omega)]; exact d3 _ (by omega) (by omega)
        go_wp2_with fail
        generalize htop : s.extract 1 e1 = top at *
        have HT : Hid (s.extract 1 e1 = top) := htop
        have tp : 0 < top.size := by omega
        have t4 : top.size ≤ 4000 := by omega
        clear htop ts d3 d4
        generalize hlow : (⟨#[49]⟩ : ByteArray) = low at *
        have HL : Hid ((⟨#[49]⟩ : ByteArray) = low) := hlow
        have lp : 0 < low.size := by rw [← hlow]; decide
        have l4 : low.size ≤ 4000 := by rw [← hlow]; decide
        have ld : ∀ i, i < low.size → dgt low i < 10 := by rw [← hlow]; decide
        clear hlow
        go_loop [10, 11] (fun zv iv => ∃ (Z : Bool) (i : Nat), zv = .bool Z ∧ iv = .int .i64 (i : Int) ∧ i ≤ low.size ∧ Hid (Z = true ↔ ∀ j, j < i → low.get! j = 48)) (fun _ iv => low.size - (intOf iv).toNat)
        case atStart => exact ⟨true, 0, rfl, rfl, by omega, by simp [Hid]⟩
        case round =>
          obtain ⟨Z, i, rfl, rfl, i1, i2⟩ := hrel
          by_cases hi : i < low.size
          · have hl : (i : Int) < (low.size : Int) := by omega
            have hb := get_byte hi
            cases Z
            · have H2 : Hid (false = true ↔ ∀ j, j < i + 1 → low.get! j = 48) := by
                show _ ↔ _
                have := i2.out
                constructor
                · intro h; cases h
                · intro h; exact this.mpr fun j hj => h j (by omega)
              clear i2 hb
              go_wp2_with fail
              go_round
              case rel => exact ⟨false, i + 1, rfl, rfl, by omega, H2⟩
              case measure => simp [intOf]; omega
            · by_cases qz : low.get! i = 48
              · have qz' : ((((low[i]'hi).toNat : Nat) : Int) == 48) = true := beq_of (by rw [← hb, qz]; rfl)
                have H2 : Hid (true = true ↔ ∀ j, j < i + 1 → low.get! j = 48) := by
                  show _ ↔ _
                  have := i2.out.mp rfl
                  refine ⟨fun _ j hj => ?_, fun _ => rfl⟩
                  by_cases e : j < i
                  · exact this j e
                  · have : j = i := by omega
                    rw [this]; exact qz
                clear i2 hb qz
                go_wp2_with fail
                go_round
                case rel => exact ⟨true, i + 1, rfl, rfl, by omega, H2⟩
                case measure => simp [intOf]; omega
              · have qz' : ((((low[i]'hi).toNat : Nat) : Int) == 48) = false := beq_no (by
                  intro e
                  apply qz
                  rw [hb]
                  exact UInt8.toNat_inj.1 (by show (low[i]'hi).toNat = 48; omega))
                have H2 : Hid (false = true ↔ ∀ j, j < i + 1 → low.get! j = 48) := by
                  show _ ↔ _
                  exact ⟨fun h => (by cases h), fun h => absurd (h i (by omega)) qz⟩
                clear i2 hb qz
                go_wp2_with fail
                go_round
                case rel => exact ⟨false, i + 1, rfl, rfl, by omega, H2⟩
                case measure => simp [intOf]; omega
          · have hl : ¬ (i : Int) < (low.size : Int) := by omega
            have ie : i = low.size := by omega
            cases Z
            · have HZ : Hid (numB low 10 low.size ≠ 0) := fun h => by
                have := i2.out.mpr (fun j hj => (numB_none _).mp h j (by omega))
                cases this
              clear i2 ie
              go_wp2_with fail
              refine (refParse_any top 10 (by omega) _).mono ?_
              rintro e wA ⟨va, la, ca, code1, p1, rfl, ⟨hc1, hr1⟩, hbA⟩
              obtain ⟨z1, z2⟩ := code_digits tp t4 td hc1
              subst z1 z2
              have r1 : RowC wA va la ca (words (numB top 10 top.size)) := hr1
              have stA := st0.later hbA
              have la9 : la ≤ 4096 := by have := r1.1.1; have := small10 t4 td; omega
              clear hr1 hc1
              go_wp2_with fail
              refine (refParse_any low 10 (by omega) _).mono ?_
              rintro e wB ⟨vb, lb, cb, code2, p2, rfl, ⟨hc2, hr2⟩, hbB⟩
              obtain ⟨z1, z2⟩ := code_digits lp l4 ld hc2
              subst z1 z2
              have r2 : RowC wB vb lb cb (words (numB low 10 low.size)) := hr2
              have stB := stA.later hbB
              have lb9 : lb ≤ 4096 := by have := r2.1.1; have := small10 (s := low) l4 ld; omega
              have hBB := hb0.trans ((hbA.trans (hbB.mono hbA.size)).mono hb0.size)
              have low5 := ref5Low_any (neg := true) (r1.later hbB) r2 ⟨Dg_words _, num_words (numB_nonneg10 top), by have := small10 t4 td; omega⟩ ⟨Dg_words _, num_words (numB_nonneg10 low), by have := small10 (s := low) l4 ld; omega⟩ (by have := numB_nonneg10 low; have := HZ.out; omega) (by omega) (by omega)
              clear hr2 hc2
              go_wp2_with fail
              refine low5.mono ?_
              rintro e wE ⟨s9, v1, v2, rfl, hR, hbE⟩
              obtain ⟨a9, n9, c9, b9, m9, d9, rfl, rfl, _⟩ := hR.opens
              have tE := stB.later hbE
              obtain ⟨x0, x1, x2⟩ := tE.cells
              obtain ⟨y0, y1, y2⟩ := tE.frozen
              clear low5
              go_wp2_with fail
              have st9 := (tE.set (.bool s9) (.slice a9 n9 c9) (.slice b9 m9 d9)).cells
              refine bodyPost_ret (v := .tuple #[.agg #[.bool s9, .slice a9 n9 c9, .slice b9 m9 d9], .int .i64 0, .int .i64 (-1)]) (by simp [results, Tryz.results53, go_sem, st9]) rfl ?_
              have hlt := stB.lt
              exact ⟨0, -1, _, _, ⟨_, HD1.out, Or.inr (Or.inr (Or.inl ⟨t1, HB5.out, rfl, rfl, by rw [HT.out], by rw [← HL.out]; exact one_num⟩))⟩, Or.inl ⟨rfl, _, _, _, rfl, (hR.inn (in3 _ _ _ _ _) hlt).lower hBB.size⟩, below_in (hBB.trans (hbE.mono hBB.size)) (in3 _ _ _ _ _) (Nat.le_refl _) (Nat.le_refl _)⟩
            · have HZ : Hid (numB low 10 low.size = 0) := (numB_none _).mpr fun j hj => i2.out.mp rfl j (by omega)
              have h9 := HZ.out
              rw [← HL.out, one_num] at h9
              omega
  · by_cases h0 : 0 < s.size
    · have hb := get_byte h0
      have q0 : (0 : Int) < (s.size : Int) := by omega
      have q1 : ((((s[0]'h0).toNat : Nat) : Int) == 45) = false := beq_no (by
        intro e
        apply h1 h0
        rw [hb]
        exact UInt8.toNat_inj.1 (by show (s[0]'h0).toNat = 45; omega))
      clear hb
      go_enter Tryz.func53, Tryz.ntmps53
      go_wp2_with fail
      refine (hdig 0 _ (by omega)).mono ?_
      rintro e w' ⟨e1, rfl, hD1, rfl⟩
      obtain ⟨d1, d2, d3, d4⟩ := hD1
      have HD1 : Hid (DigEnd s 0 e1) := ⟨d1, d2, d3, d4⟩
      by_cases a1 : e1 = 0
      · subst a1
        go_wp2_with fail
        have st9 := (st0.set (.bool false) (.slice none 0 0) (.slice none 0 0)).cells
        refine bodyPost_ret (v := .tuple #[.agg #[.bool false, .slice none 0 0, .slice none 0 0], .int .i64 (41), _]) (by simp [results, Tryz.results53, go_sem, st9]; rfl) rfl ?_
        exact ⟨41, _, 0, 1, ⟨_, HD1.out, (Or.inl ⟨rfl, rfl, rfl⟩)⟩, Or.inr ⟨by omega, rfl⟩, hb0⟩
      · have a1' : (((e1 : Nat) : Int) == 0) = false := beq_no (by omega)
        have t1 : 0 < e1 := by omega
        have u1 : ((0 : Nat) : Int) ≤ (e1 : Int) := by omega
        have u2 : (e1 : Int) ≤ (s.size : Int) := by omega
        by_cases b1 : e1 < s.size
        · have b2 : (e1 : Int) < (s.size : Int) := by omega
          have hb := get_byte b1
          by_cases c1 : s.get! e1 = 47
          · have c2 : ((((s[e1]'b1).toNat : Nat) : Int) == 47) = true := beq_of (by rw [← hb, c1]; rfl)
            go_wp2_with fail
            refine (hdig (e1 + 1) _ (by omega)).mono ?_
            rintro e w' ⟨e2, rfl, hD2, rfl⟩
            obtain ⟨g1, g2, g3, g4⟩ := hD2
            have HD2 : Hid (DigEnd s (e1 + 1) e2) := ⟨g1, g2, g3, g4⟩
            by_cases a3 : e2 = e1 + 1
            · subst a3
              go_wp2_with fail
              have st9 := (st0.set (.bool false) (.slice none 0 0) (.slice none 0 0)).cells
              refine bodyPost_ret (v := .tuple #[.agg #[.bool false, .slice none 0 0, .slice none 0 0], .int .i64 (41), _]) (by simp [results, Tryz.results53, go_sem, st9]; rfl) rfl ?_
              exact ⟨41, _, 0, 1, ⟨_, HD1.out, (Or.inr (Or.inr (Or.inr ⟨t1, b1, c1, _, HD2.out, Or.inl ⟨rfl, rfl, rfl⟩⟩)))⟩, Or.inr ⟨by omega, rfl⟩, hb0⟩
            · have a3' : (((e2 : Nat) : Int) == (e1 : Int) + 1) = false := beq_no (by omega)
              have u3 : (e1 : Int) + 1 ≤ (e2 : Int) := by omega
              have u4 : (e2 : Int) ≤ (s.size : Int) := by omega
              by_cases b3 : e2 < s.size
              · have b4 : (e2 : Int) < (s.size : Int) := by omega
                go_wp2_with fail
                have st9 := (st0.set (.bool false) (.slice none 0 0) (.slice none 0 0)).cells
                refine bodyPost_ret (v := .tuple #[.agg #[.bool false, .slice none 0 0, .slice none 0 0], .int .i64 (41), _]) (by simp [results, Tryz.results53, go_sem, st9]; rfl) rfl ?_
                exact ⟨41, _, 0, 1, ⟨_, HD1.out, (Or.inr (Or.inr (Or.inr ⟨t1, b1, c1, _, HD2.out, Or.inr (Or.inl ⟨by omega, b3, rfl, rfl⟩)⟩)))⟩, Or.inr ⟨by omega, rfl⟩, hb0⟩
              · have b4 : ¬ (e2 : Int) < (s.size : Int) := by omega
                have HB5 : Hid (e2 = s.size) := by show _ = _; omega
                go_wp2_with fail
                have ts : (s.extract 0 e1).size = e1 - 0 := ext_size s (by omega) (by omega)
                have td : ∀ i, i < (s.extract 0 e1).size → dgt (s.extract 0 e1) i < 10 := fun i hi => by rw [ext_dgt s (by omega)]; exact d3 _ (by omega) (by omega)
                have ls : (s.extract (e1 + 1) e2).size = e2 - (e1 + 1) := ext_size s (by omega) (by omega)
                have ld : ∀ i, i < (s.extract (e1 + 1) e2).size → dgt (s.extract (e1 + 1) e2) i < 10 := fun i hi => by rw [ext_dgt s (by omega)]; exact g3 _ (by omega) (by omega)
                generalize htop : s.extract 0 e1 = top at *
                generalize hlow : s.extract (e1 + 1) e2 = low at *
                have HT : Hid (s.extract 0 e1 = top) := htop
                have HL : Hid (s.extract (e1 + 1) e2 = low) := hlow
                have lp : 0 < low.size := by omega
                have l4 : low.size ≤ 4000 := by omega
                have tp : 0 < top.size := by omega
                have t4 : top.size ≤ 4000 := by omega
                clear htop hlow ls ts d3 d4 g3 g4
                go_loop [10, 11] (fun zv iv => ∃ (Z : Bool) (i : Nat), zv = .bool Z ∧ iv = .int .i64 (i : Int) ∧ i ≤ low.size ∧ Hid (Z = true ↔ ∀ j, j < i → low.get! j = 48)) (fun _ iv => low.size - (intOf iv).toNat)
                case atStart => exact ⟨true, 0, rfl, rfl, by omega, by simp [Hid]⟩
                case round =>
                  obtain ⟨Z, i, rfl, rfl, i1, i2⟩ := hrel
                  by_cases hi : i < low.size
                  · have hl : (i : Int) < (low.size : Int) := by omega
                    have hb := get_byte hi
                    cases Z
                    · have H2 : Hid (false = true ↔ ∀ j, j < i + 1 → low.get! j = 48) := by
                        show _ ↔ _
                        have := i2.out
                        constructor
                        · intro h; cases h
                        · intro h; exact this.mpr fun j hj => h j (by omega)
                      clear i2 hb
                      go_wp2_with fail
                      go_round
                      case rel => exact ⟨false, i + 1, rfl, rfl, by omega, H2⟩
                      case measure => simp [intOf]; omega
                    · by_cases qz : low.get! i = 48
                      · have qz' : ((((low[i]'hi).toNat : Nat) : Int) == 48) = true := beq_of (by rw [← hb, qz]; rfl)
                        have H2 : Hid (true = true ↔ ∀ j, j < i + 1 → low.get! j = 48) := by
                          show _ ↔ _
                          have := i2.out.mp rfl
                          refine ⟨fun _ j hj => ?_, fun _ => rfl⟩
                          by_cases e : j < i
                          · exact this j e
                          · have : j = i := by omega
                            rw [this]; exact qz
                        clear i2 hb qz
                        go_wp2_with fail
                        go_round
                        case rel => exact ⟨true, i + 1, rfl, rfl, by omega, H2⟩
                        case measure => simp [intOf]; omega
                      · have qz' : ((((low[i]'hi).toNat : Nat) : Int) == 48) = false := beq_no (by
                          intro e
                          apply qz
                          rw [hb]
                          exact UInt8.toNat_inj.1 (by show (low[i]'hi).toNat = 48; omega))
                        have H2 : Hid (false = true ↔ ∀ j, j < i + 1 → low.get! j = 48) := by
                          show _ ↔ _
                          exact ⟨fun h => (by cases h), fun h => absurd (h i (by omega)) qz⟩
                        clear i2 hb qz
                        go_wp2_with fail
                        go_round
                        case rel => exact ⟨false, i + 1, rfl, rfl, by omega, H2⟩
                        case measure => simp [intOf]; omega
                  · have hl : ¬ (i : Int) < (low.size : Int) := by omega
                    have ie : i = low.size := by omega
                    cases Z
                    · have HZ : Hid (numB low 10 low.size ≠ 0) := fun h => by
                        have := i2.out.mpr (fun j hj => (numB_none _).mp h j (by omega))
                        cases this
                      clear i2 ie
                      go_wp2_with fail
                      refine (refParse_any top 10 (by omega) _).mono ?_
                      rintro e wA ⟨va, la, ca, code1, p1, rfl, ⟨hc1, hr1⟩, hbA⟩
                      obtain ⟨z1, z2⟩ := code_digits tp t4 td hc1
                      subst z1 z2
                      have r1 : RowC wA va la ca (words (numB top 10 top.size)) := hr1
                      have stA := st0.later hbA
                      have la9 : la ≤ 4096 := by have := r1.1.1; have := small10 t4 td; omega
                      clear hr1 hc1
                      go_wp2_with fail
                      refine (refParse_any low 10 (by omega) _).mono ?_
                      rintro e wB ⟨vb, lb, cb, code2, p2, rfl, ⟨hc2, hr2⟩, hbB⟩
                      obtain ⟨z1, z2⟩ := code_digits lp l4 ld hc2
                      subst z1 z2
                      have r2 : RowC wB vb lb cb (words (numB low 10 low.size)) := hr2
                      have stB := stA.later hbB
                      have lb9 : lb ≤ 4096 := by have := r2.1.1; have := small10 (s := low) l4 ld; omega
                      have hBB := hb0.trans ((hbA.trans (hbB.mono hbA.size)).mono hb0.size)
                      have low5 := ref5Low_any (neg := false) (r1.later hbB) r2 ⟨Dg_words _, num_words (numB_nonneg10 top), by have := small10 t4 td; omega⟩ ⟨Dg_words _, num_words (numB_nonneg10 low), by have := small10 (s := low) l4 ld; omega⟩ (by have := numB_nonneg10 low; have := HZ.out; omega) (by omega) (by omega)
                      clear hr2 hc2
                      go_wp2_with fail
                      refine low5.mono ?_
                      rintro e wE ⟨s9, v1, v2, rfl, hR, hbE⟩
                      obtain ⟨a9, n9, c9, b9, m9, d9, rfl, rfl, _⟩ := hR.opens
                      have tE := stB.later hbE
                      obtain ⟨x0, x1, x2⟩ := tE.cells
                      obtain ⟨y0, y1, y2⟩ := tE.frozen
                      clear low5
                      go_wp2_with fail
                      have st9 := (tE.set (.bool s9) (.slice a9 n9 c9) (.slice b9 m9 d9)).cells
                      refine bodyPost_ret (v := .tuple #[.agg #[.bool s9, .slice a9 n9 c9, .slice b9 m9 d9], .int .i64 0, .int .i64 (-1)]) (by simp [results, Tryz.results53, go_sem, st9]) rfl ?_
                      have hlt := stB.lt
                      exact ⟨0, -1, _, _, ⟨_, HD1.out, Or.inr (Or.inr (Or.inr ⟨t1, b1, c1, _, HD2.out, Or.inr (Or.inr (Or.inr ⟨by omega, HB5.out, by rw [HL.out]; exact HZ.out, rfl, rfl, by rw [HT.out], by rw [HL.out]⟩))⟩))⟩, Or.inl ⟨rfl, _, _, _, rfl, (hR.inn (in3 _ _ _ _ _) hlt).lower hBB.size⟩, below_in (hBB.trans (hbE.mono hBB.size)) (in3 _ _ _ _ _) (Nat.le_refl _) (Nat.le_refl _)⟩
                    · have HZ : Hid (numB low 10 low.size = 0) := (numB_none _).mpr fun j hj => i2.out.mp rfl j (by omega)
                      clear i2 ie
                      go_wp2_with fail
                      have st9 := (st0.set (.bool false) (.slice none 0 0) (.slice none 0 0)).cells
                      refine bodyPost_ret (v := .tuple #[.agg #[.bool false, .slice none 0 0, .slice none 0 0], .int .i64 50, _]) (by simp [results, Tryz.results53, go_sem, st9]; rfl) rfl ?_
                      exact ⟨50, _, 0, 1, ⟨_, HD1.out, Or.inr (Or.inr (Or.inr ⟨t1, b1, c1, _, HD2.out, Or.inr (Or.inr (Or.inl ⟨by omega, HB5.out, by rw [HL.out]; exact HZ.out, rfl, rfl⟩))⟩))⟩, Or.inr ⟨by omega, rfl⟩, hb0⟩
          · have c2 : ((((s[e1]'b1).toNat : Nat) : Int) == 47) = false := beq_no (by
              intro e
              apply c1
              rw [hb]
              exact UInt8.toNat_inj.1 (by show (s[e1]'b1).toNat = 47; omega))
            go_wp2_with fail
            have st9 := (st0.set (.bool false) (.slice none 0 0) (.slice none 0 0)).cells
            refine bodyPost_ret (v := .tuple #[.agg #[.bool false, .slice none 0 0, .slice none 0 0], .int .i64 (41), _]) (by simp [results, Tryz.results53, go_sem, st9]; rfl) rfl ?_
            exact ⟨41, _, 0, 1, ⟨_, HD1.out, (Or.inr (Or.inl ⟨t1, b1, c1, rfl, rfl⟩))⟩, Or.inr ⟨by omega, rfl⟩, hb0⟩
        · have b2 : ¬ (e1 : Int) < (s.size : Int) := by omega
          have HB5 : Hid (e1 = s.size) := by show _ = _; omega
          have ts : (s.extract 0 e1).size = e1 - 0 := ext_size s (by omega) (by omega)
          have td : ∀ i, i < (s.extract 0 e1).size → dgt (s.extract 0 e1) i < 10 := fun i hi => by rw [ext_dgt s (by omega)]; exact d3 _ (by omega) (by omega)
          go_wp2_with fail
          generalize htop : s.extract 0 e1 = top at *
          have HT : Hid (s.extract 0 e1 = top) := htop
          have tp : 0 < top.size := by omega
          have t4 : top.size ≤ 4000 := by omega
          clear htop ts d3 d4
          generalize hlow : (⟨#[49]⟩ : ByteArray) = low at *
          have HL : Hid ((⟨#[49]⟩ : ByteArray) = low) := hlow
          have lp : 0 < low.size := by rw [← hlow]; decide
          have l4 : low.size ≤ 4000 := by rw [← hlow]; decide
          have ld : ∀ i, i < low.size → dgt low i < 10 := by rw [← hlow]; decide
          clear hlow
          go_loop [10, 11] (fun zv iv => ∃ (Z : Bool) (i : Nat), zv = .bool Z ∧ iv = .int .i64 (i : Int) ∧ i ≤ low.size ∧ Hid (Z = true ↔ ∀ j, j < i → low.get! j = 48)) (fun _ iv => low.size - (intOf iv).toNat)
          case atStart => exact ⟨true, 0, rfl, rfl, by omega, by simp [Hid]⟩
          case round =>
            obtain ⟨Z, i, rfl, rfl, i1, i2⟩ := hrel
            by_cases hi : i < low.size
            · have hl : (i : Int) < (low.size : Int) := by omega
              have hb := get_byte hi
              cases Z
              · have H2 : Hid (false = true ↔ ∀ j, j < i + 1 → low.get! j = 48) := by
                  show _ ↔ _
                  have := i2.out
                  constructor
                  · intro h; cases h
                  · intro h; exact this.mpr fun j hj => h j (by omega)
                clear i2 hb
                go_wp2_with fail
                go_round
                case rel => exact ⟨false, i + 1, rfl, rfl, by omega, H2⟩
                case measure => simp [intOf]; omega
              · by_cases qz : low.get! i = 48
                · have qz' : ((((low[i]'hi).toNat : Nat) : Int) == 48) = true := beq_of (by rw [← hb, qz]; rfl)
                  have H2 : Hid (true = true ↔ ∀ j, j < i + 1 → low.get! j = 48) := by
                    show _ ↔ _
                    have := i2.out.mp rfl
                    refine ⟨fun _ j hj => ?_, fun _ => rfl⟩
                    by_cases e : j < i
                    · exact this j e
                    · have : j = i := by omega
                      rw [this]; exact qz
                  clear i2 hb qz
                  go_wp2_with fail
                  go_round
                  case rel => exact ⟨true, i + 1, rfl, rfl, by omega, H2⟩
                  case measure => simp [intOf]; omega
                · have qz' : ((((low[i]'hi).toNat : Nat) : Int) == 48) = false := beq_no (by
                    intro e
                    apply qz
                    rw [hb]
                    exact UInt8.toNat_inj.1 (by show (low[i]'hi).toNat = 48; omega))
                  have H2 : Hid (false = true ↔ ∀ j, j < i + 1 → low.get! j = 48) := by
                    show _ ↔ _
                    exact ⟨fun h => (by cases h), fun h => absurd (h i (by omega)) qz⟩
                  clear i2 hb qz
                  go_wp2_with fail
                  go_round
                  case rel => exact ⟨false, i + 1, rfl, rfl, by omega, H2⟩
                  case measure => simp [intOf]; omega
            · have hl : ¬ (i : Int) < (low.size : Int) := by omega
              have ie : i = low.size := by omega
              cases Z
              · have HZ : Hid (numB low 10 low.size ≠ 0) := fun h => by
                  have := i2.out.mpr (fun j hj => (numB_none _).mp h j (by omega))
                  cases this
                clear i2 ie
                go_wp2_with fail
                refine (refParse_any top 10 (by omega) _).mono ?_
                rintro e wA ⟨va, la, ca, code1, p1, rfl, ⟨hc1, hr1⟩, hbA⟩
                obtain ⟨z1, z2⟩ := code_digits tp t4 td hc1
                subst z1 z2
                have r1 : RowC wA va la ca (words (numB top 10 top.size)) := hr1
                have stA := st0.later hbA
                have la9 : la ≤ 4096 := by have := r1.1.1; have := small10 t4 td; omega
                clear hr1 hc1
                go_wp2_with fail
                refine (refParse_any low 10 (by omega) _).mono ?_
                rintro e wB ⟨vb, lb, cb, code2, p2, rfl, ⟨hc2, hr2⟩, hbB⟩
                obtain ⟨z1, z2⟩ := code_digits lp l4 ld hc2
                subst z1 z2
                have r2 : RowC wB vb lb cb (words (numB low 10 low.size)) := hr2
                have stB := stA.later hbB
                have lb9 : lb ≤ 4096 := by have := r2.1.1; have := small10 (s := low) l4 ld; omega
                have hBB := hb0.trans ((hbA.trans (hbB.mono hbA.size)).mono hb0.size)
                have low5 := ref5Low_any (neg := false) (r1.later hbB) r2 ⟨Dg_words _, num_words (numB_nonneg10 top), by have := small10 t4 td; omega⟩ ⟨Dg_words _, num_words (numB_nonneg10 low), by have := small10 (s := low) l4 ld; omega⟩ (by have := numB_nonneg10 low; have := HZ.out; omega) (by omega) (by omega)
                clear hr2 hc2
                go_wp2_with fail
                refine low5.mono ?_
                rintro e wE ⟨s9, v1, v2, rfl, hR, hbE⟩
                obtain ⟨a9, n9, c9, b9, m9, d9, rfl, rfl, _⟩ := hR.opens
                have tE := stB.later hbE
                obtain ⟨x0, x1, x2⟩ := tE.cells
                obtain ⟨y0, y1, y2⟩ := tE.frozen
                clear low5
                go_wp2_with fail
                have st9 := (tE.set (.bool s9) (.slice a9 n9 c9) (.slice b9 m9 d9)).cells
                refine bodyPost_ret (v := .tuple #[.agg #[.bool s9, .slice a9 n9 c9, .slice b9 m9 d9], .int .i64 0, .int .i64 (-1)]) (by simp [results, Tryz.results53, go_sem, st9]) rfl ?_
                have hlt := stB.lt
                exact ⟨0, -1, _, _, ⟨_, HD1.out, Or.inr (Or.inr (Or.inl ⟨t1, HB5.out, rfl, rfl, by rw [HT.out], by rw [← HL.out]; exact one_num⟩))⟩, Or.inl ⟨rfl, _, _, _, rfl, (hR.inn (in3 _ _ _ _ _) hlt).lower hBB.size⟩, below_in (hBB.trans (hbE.mono hBB.size)) (in3 _ _ _ _ _) (Nat.le_refl _) (Nat.le_refl _)⟩
              · have HZ : Hid (numB low 10 low.size = 0) := (numB_none _).mpr fun j hj => i2.out.mp rfl j (by omega)
                have h9 := HZ.out
                rw [← HL.out, one_num] at h9
                omega
    · have q0 : ¬ (0 : Int) < (s.size : Int) := by omega
      go_enter Tryz.func53, Tryz.ntmps53
      go_wp2_with fail
      refine (hdig 0 _ (by omega)).mono ?_
      rintro e w' ⟨e1, rfl, hD1, rfl⟩
      obtain ⟨d1, d2, d3, d4⟩ := hD1
      have HD1 : Hid (DigEnd s 0 e1) := ⟨d1, d2, d3, d4⟩
      have a1 : e1 = 0 := by omega
      subst a1
      go_wp2_with fail
      have st9 := (st0.set (.bool false) (.slice none 0 0) (.slice none 0 0)).cells
      refine bodyPost_ret (v := .tuple #[.agg #[.bool false, .slice none 0 0, .slice none 0 0], .int .i64 (41), _]) (by simp [results, Tryz.results53, go_sem, st9]; rfl) rfl ?_
      exact ⟨41, _, 0, 1, ⟨_, HD1.out, (Or.inl ⟨rfl, rfl, rfl⟩)⟩, Or.inr ⟨by omega, rfl⟩, hb0⟩
end Go.Proofs.YtopcdpeepchgfacGreatDoor

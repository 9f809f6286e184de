/- radix.strip, radix.Trim. -/
import Derived.Test.YtmenhfnakcdnnabDoorRadixTrim
namespace Go.Proofs.YtmenhfnakcdnnabDoor
open Go.ChangeShapes Go.WideShapes Go.ChangeAt Go.RowKit
open Na Ar
set_option linter.unusedVariables false
namespace Na
/-- C tens are taken off -/
def Off10 (X U : Int) (n C : Nat) : Prop := 0 < U ∧ X = U * 10 ^ C ∧ ∃ k, C = k * n
theorem off_next {X U : Int} {n C : Nat} (h : Off10 X U n C) (hd : dv U n = true) : Off10 X (U / 10 ^ n) n (C + n) := by
  obtain ⟨h1, h2, k, h3⟩ := h
  obtain ⟨d1, d2, d3⟩ := dv_quot hd
  refine ⟨d2, ?_, k + 1, by rw [h3, Nat.succ_mul]⟩
  rw [h2, Nat.add_comm, Int.pow_add, ← Int.mul_assoc, ← d1]
theorem off_first {X U : Int} {n k : Nat} (hd : dv X n = true) (hU : 0 ≤ U) (h : X / 10 ^ n = U * 10 ^ (k * (2 * n))) : Off10 X U n (k * (2 * n) + n) := by
  obtain ⟨d1, d2, d3⟩ := dv_quot hd
  refine ⟨?_, ?_, 2 * k + 1, by rw [Nat.add_mul, Nat.one_mul, Nat.mul_comm 2 k, Nat.mul_assoc]⟩
  · by_cases q : U = 0
    · rw [q, Int.zero_mul] at h; omega
    · omega
  · rw [d1, h, Int.pow_add, Int.mul_assoc]
theorem off_bound {X U : Int} {n C : Nat} (h : Off10 X U n C) (h0 : 0 ≤ X) (hL : (words X).length ≤ 3000000) : C ≤ 192000000 := by
  have a := zeros_ge h.1 h.2.1
  have b := zeros_le (X := X) (L := 3000000) h0 hL
  omega
theorem off_le {X U : Int} {n C : Nat} (h : Off10 X U n C) : U ≤ X := by
  have p : (1 : Int) ≤ 10 ^ C := Int.pow_pos (by omega)
  have := Int.mul_le_mul_of_nonneg_left p (Int.le_of_lt h.1)
  rw [← h.2.1] at this
  omega
/-- not too many words -/
def Fits (X : Int) : Prop := (words X).length ≤ 3000000
end Na
set_option maxHeartbeats 3200000 in
set_option maxRecDepth 100000 in
theorem strip_step {n : Nat} (hn : 1 ≤ n) (hn9 : n ≤ 200000000) (ih : 2 * n ≤ 200000000 → StripC (2 * n)) : StripC n := by
  intro X base w v pa pl pc h0 hL hbase ho hp hpl
  obtain ⟨a, c, rfl, hr⟩ := ho.readsC
  have dc := divided_any h0 hr hL hp hpl hn (by omega)
  have HLX : Fits X := hL
  have hlx : 0 ≤ (words X).length := Nat.zero_le _
  cases hd : dv X n with
  | false =>
    have HF : ∀ w', Below w.heap.size w w' → StripIs X n base w (.returned (.tuple #[.slice a (words X).length c, .int .i64 0])) w' := fun w' hb =>
      ⟨_, X, 0, by rw [Nat.zero_mul]; rfl, h0, by simp, fun _ => rfl, fun q => dv_false hd q, ho.later hb, hb⟩
    rw [hd] at dc
    generalize (words X).length = lx at *
    go_enter Tryd.func37, Tryd.ntmps37
    go_wp2_with fail
    refine dc.mono ?_
    rintro e w1 ⟨v1, rfl, _, hb1⟩
    clear dc
    go_wp2
    go_ret2
    exact HF _ hb1
  | true =>
    obtain ⟨d1, d2, d3⟩ := dv_quot hd
    have hX0 := (dv_true hd).1
    rw [hd] at dc
    have hL1 : (words (X / 10 ^ n)).length ≤ 3000000 := Nat.le_trans (words_mono (Int.le_of_lt d2) d3) hL
    have HD : Hid (dv X n = true) := hd
    obtain ⟨Y, hY⟩ : ∃ Y, Y = X / 10 ^ n := ⟨_, rfl⟩
    have HY : Hid (X / 10 ^ n = Y) := hY.symm
    rw [← hY] at dc hL1 d2
    clear d1 d3 hd hY
    have hn0 : (0 : Int) ≤ (n : Int) := by omega
    generalize hlxx : (words X).length = lx at *
    clear hlxx hr ho hlx
    go_enter Tryd.func37, Tryd.ntmps37
    go_wp2_with fail
    refine dc.mono ?_
    rintro e w1 ⟨v1, rfl, ho1', hb1⟩
    have ho1 := (ho1' (by simp)).wider hbase
    have hp1 := hp.later hb1
    have sc := square_any hn hn9 ih (Int.le_of_lt d2) hL1 (Nat.le_trans hbase hb1.size) ho1 hp1 hpl
    obtain ⟨qa, qc, rfl, _⟩ := ho1.readsC
    clear dc ho1' hp ho1
    generalize (words Y).length = ly at *
    go_wp2_with fail
    refine sc.mono ?_
    rintro e w2 ⟨v2, U, k, rfl, hU, hUX, ho2, hb2⟩
    have hoff := off_first HD.out hU (HY.out.trans hUX)
    have hp2 := hp1.later hb2
    have hB2 := hb1.trans (hb2.mono hb1.size)
    have hcb := off_bound hoff h0 HLX
    obtain ⟨C, hC⟩ : ∃ C : Nat, C = k * (2 * n) := ⟨_, rfl⟩
    rw [← hC] at hoff hcb ⊢
    have hUL : (words U).length ≤ 3000000 := Nat.le_trans (words_mono (Int.le_of_lt hoff.1) (off_le hoff)) HLX
    have HOF : Hid (Off10 X U n (C + n)) := hoff
    obtain ⟨ua, uc, rfl, hu2⟩ := ho2.readsC
    have dc2 := divided_any hU hu2 hUL hp2 hpl hn (by omega)
    clear sc hUX hC hoff hp1 hu2
    generalize hul : (words U).length = lu at *
    go_wp2_with fail
    refine dc2.mono ?_
    rintro e w3 ⟨v3, rfl, ho3, hb3⟩
    have hp3 := hp2.later hb3
    have hB3 := hB2.trans (hb3.mono hB2.size)
    have ho23 := ho2.later hb3
    have ho33 : dv U n = true → Own .u64 w3 base 35 v3 (words (U / 10 ^ n)) := fun q => (ho3 q).wider (Nat.le_trans hbase hB2.size)
    clear dc2 ho3 ho2 hp2 hUL hul
    go_wp2
    go_loopw [0, 8, 9, 10] (fun x q ok c wr => ∃ (V : Int) (C : Nat), ok = .bool (dv V n) ∧ c = .int .i64 (C : Int) ∧ Hid (Off10 X V n C) ∧ Own .u64 wr base 35 x (words V) ∧ (dv V n = true → Own .u64 wr base 35 q (words (V / 10 ^ n))) ∧ Below w.heap.size w wr ∧ RowC wr pa pl pc (words (10 ^ n))) (fun _ _ _ c _ => 200000000 - (RowKit.intOf c).toNat)
    case atStart => exact ⟨U, C + n, rfl, by go_num, HOF, ho23, ho33, hB3, hp3⟩
    case round =>
      obtain ⟨V, C', rfl, rfl, hof, hov, hoq, hnx, hpr⟩ := hrel
      have hcb' := off_bound hof.out h0 HLX
      clear HOF ho23 ho33 hp3 hB3
      cases hdv : dv V n with
      | true =>
        have hnext := off_next hof.out hdv
        have HN : Hid (Off10 X (V / 10 ^ n) n (C' + n)) := hnext
        have hnb := off_bound hnext h0 HLX
        have hq := hoq hdv
        have hq0 := Int.le_of_lt hnext.1
        have hql : (words (V / 10 ^ n)).length ≤ 3000000 := Nat.le_trans (words_mono (Int.le_of_lt hnext.1) (off_le hnext)) HLX
        obtain ⟨V2, hV2⟩ : ∃ V2, V2 = V / 10 ^ n := ⟨_, rfl⟩
        rw [← hV2] at hq hql HN hq0
        clear hoq hov hof hnext hV2 hdv
        obtain ⟨xa, xc, rfl, hxr⟩ := hq.readsC
        have dc3 := divided_any hq0 hxr hql hpr hpl hn (by omega)
        clear hxr
        generalize hvl : (words V2).length = lv at *
        go_wp2_with fail
        refine dc3.mono ?_
        rintro e w5 ⟨v5, rfl, ho5, hb5⟩
        have hp5 := hpr.later hb5
        have hB5 := hnx.trans (hb5.mono hnx.size)
        have hoq5 := hq.later hb5
        have ho55 : dv V2 n = true → Own .u64 w5 base 35 v5 (words (V2 / 10 ^ n)) := fun q => (ho5 q).wider (Nat.le_trans hbase hnx.size)
        clear dc3 ho5 hq hpr hnx hql hvl
        go_wp2
        go_roundw
        case rel => exact ⟨V2, C' + n, rfl, by go_num, HN, hoq5, ho55, hB5, hp5⟩
        case measure => simp [RowKit.intOf]; omega
      | false =>
        obtain ⟨o1, o2, kk, o3⟩ := hof.out
        have HF : ∀ v' w', Own .u64 w' base 35 v' (words V) → Below w.heap.size w w' → StripIs X n base w (.returned (.tuple #[v', .int .i64 (C' : Int)])) w' := fun v' w' ho hb =>
          ⟨v', V, kk, by rw [o3], Int.le_of_lt o1, by rw [← o3]; exact o2, fun q => by omega, fun _ => dv_false hdv o1, ho, hb⟩
        have HX : Hid (0 < X) := hX0
        obtain ⟨xa, xc, rfl, _⟩ := hov.readsC
        have HFF := HF _ _ hov hnx
        clear hof hoq o2 o3 hdv HF hov
        generalize (words V).length = lv at *
        go_wp2
        go_ret2
        exact HFF
theorem strip_all : ∀ (f n : Nat), 1 ≤ n → n ≤ 200000000 → 200000000 ≤ n + f → StripC n := by
  intro f
  induction f with
  | zero => intro n h1 h2 h3; exact strip_step h1 h2 (fun q => by omega)
  | succ f ih => intro n h1 h2 h3; exact strip_step h1 h2 (fun q => ih (2 * n) (by omega) q (by omega))
/-- what Trim answers -/
def Trimmed (X : Int) (w : World) (e : Ending) (w' : World) : Prop :=
  ∃ (v : Value) (U : Int) (k : Nat), e = .returned (.tuple #[v, .int .i64 (k : Int)]) ∧ 0 ≤ U ∧ X = U * 10 ^ k ∧ (X = 0 → k = 0) ∧ (0 < X → U % 10 ≠ 0) ∧ Own .u64 w' w.heap.size 35 v (words U) ∧ Below w.heap.size w w'
set_option maxHeartbeats 1600000 in
set_option maxRecDepth 100000 in
theorem trim10_any {a : Option Addr} {l c : Nat} {xs : List Int} {w : World} (hr : RowC w a l c xs) (hw : Ws xs) (hl : l ≤ 3000000) :
    Calls Tryd.prog 13 #[.slice a l c] w (Trimmed (num xs) w) := by
  have nc := natNorm_any hr hw (by omega)
  have h0 := num_nonneg hw
  have hlen : (words (num xs)).length ≤ 3000000 := by
    have := words_len hw
    have := hr.1.1
    omega
  have fc := fun w => natFrom_any (v := 10) (by omega) w
  have sc := strip_all 199999999 1 (by omega) (by omega) (by omega)
  unfold StripC at sc
  generalize num xs = X at *
  go_enter Tryd.func13, Tryd.ntmps13
  go_wp2_with fail
  refine nc.mono ?_
  rintro e w1 ⟨v1, rfl, ho1, hb1⟩
  obtain ⟨xa, xc, rfl, _⟩ := ho1.readsC
  clear nc
  go_wp2_with fail
  refine (fc _).mono ?_
  rintro e w2 ⟨v2, rfl, ho2, hb2⟩
  obtain ⟨pa, pc, rfl, hp2⟩ := ho2.readsC
  have hB2 := hb1.trans (hb2.mono hb1.size)
  have w10 : (words 10).length ≤ 4096 := bits_words (P := 10) (β := 64) (by omega) (by decide) (by omega)
  have ss := sc X w.heap.size w2 _ pa _ pc h0 hlen hB2.size (ho1.later hb2) hp2 w10
  clear fc sc ho2 w10 ho1
  generalize (words 10).length = lp at *
  generalize (words X).length = lx at *
  go_wp2_with fail
  refine ss.mono ?_
  rintro e w3 ⟨v3, U, k, rfl, hU, hX, hz, hnz, ho3, hb3⟩
  rw [Nat.mul_one] at hX ⊢
  have HF : Trimmed X w (.returned (.tuple #[v3, .int .i64 (k : Int)])) w3 := ⟨v3, U, k, rfl, hU, hX, hz, by rw [Int.pow_one] at hnz; exact hnz, ho3, hB2.trans (hb3.mono hB2.size)⟩
  clear ss hX hz hnz ho3
  go_wp2
  go_ret2
  exact HF
end Go.Proofs.YtmenhfnakcdnnabDoor

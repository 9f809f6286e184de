/- LexLong: a numeral of as many bytes as may be. -/
import Derived.Test.YthibemoincgemaaDoorLexOwn
import Derived.Test.YthibemoincgemaaDoorLexScan
import Derived.Test.YthibemoincgemaaDoorLexCk
namespace Go.Proofs.YthibemoincgemaaDoor
open Go.ChangeShapes Go.WideShapes Go.ChangeAt Go.RowKit
open Lx
set_option linter.unusedVariables false
namespace Lx
theorem rep_num {sg : B} (hs : sg = [] ∨ sg = [45]) {c : UInt8} (h0 : 49 ≤ c.toNat) (h1 : c.toNat ≤ 57) {m : Nat} (hm : 0 < m) :
    longestL (sg ++ List.replicate m c) = ⟨1, decide (sg = [45]), List.replicate m c, [], [], [], sg.length + m⟩ := by
  have hD : isD c = true := by unfold isD; simp; omega
  have hh : (List.replicate m c).all isD = true := by rw [List.all_replicate]; simp [hD]
  have hn : List.replicate m c ≠ [] := by
    obtain ⟨k, rfl⟩ : ∃ k, m = k + 1 := ⟨m - 1, by omega⟩
    rw [List.replicate_succ]; exact List.cons_ne_nil _ _
  have := longest_dec (sg := sg) (head := List.replicate m c) (tail := []) (ex := []) (rest := []) (pt := false) (by rcases hs with h | h; exact Or.inl h; exact Or.inr (Or.inr h)) hh rfl (fun q => hn q.1) (fun _ => rfl) (Or.inl rfl) Stops.nil
  simpa using this
theorem rep_said {c : UInt8} (h0 : 49 ≤ c.toNat) (h1 : c.toNat ≤ 57) {m : Nat} (hm : 0 < m) (b : Bool) (st : Nat) :
    numOf ⟨1, b, List.replicate m c, [], [], [], st⟩ = ⟨1, b, List.replicate m c, 0, []⟩ := by
  obtain ⟨k, rfl⟩ : ∃ k, m = k + 1 := ⟨m - 1, by omega⟩
  have hl : lowB c = c := by unfold lowB; rw [if_neg (by omega)]
  have hz : ([48] : B).contains c = false := by
    have : c ≠ 48 := fun q => by rw [q] at h0; simp at h0
    simp [this]
  have hst : strip (List.replicate (k + 1) c ++ []) = List.replicate (k + 1) c := by
    unfold strip
    rw [List.append_nil, List.replicate_succ, List.dropWhile_cons, hz]
    show (c :: List.replicate k c).map lowB = _
    rw [← List.replicate_succ, List.map_replicate, hl]
  unfold numOf
  simp only [hst]
  rfl
end Lx
theorem scan_said {s : ByteArray} {f : Nat} {p : Pc} (hs : s.size ≤ maxLen) (hf : f ≤ s.size) (hp : scanP s.data.toList f = p) (hk : p.kind ≠ 0) (w : World) :
    Calls Tryd.prog 8 #[.string s, .int .i64 f] w fun e w' => e = .returned (.tuple #[.agg (nmA (Lx.numOf p)), .int .i64 ((f : Int) + p.stop), .nilIface]) ∧ Below w.heap.size w w' := by
  refine (scan_in s hs f hf w).mono ?_
  rintro e w' ⟨⟨g, rfl, _, _, _, hn⟩ | ⟨_, _, _, rfl⟩, hb⟩
  · exfalso
    have : ((f : Int)).toNat = f := by omega
    rw [this, hp] at hn
    rcases hn with q | q | q
    · omega
    · omega
    · exact hk q
  · have : ((f : Int)).toNat = f := by omega
    rw [this, hp]
    exact ⟨rfl, hb⟩
namespace Lx
theorem cat_of (x : UInt8) (l : B) : ByteArray.mk #[x] ++ str l = str (x :: l) := by apply ByteArray.ext; simp [str]
theorem kept_rep {c : UInt8} (h0 : 49 ≤ c.toNat) (h1 : c.toNat ≤ 57) {m : Nat} (hm : 0 < m) : keptB digs9 (List.replicate m c) = decide (m ≤ 65536) := by
  have hD : isD c = true := by unfold isD; simp; omega
  obtain ⟨k, rfl⟩ : ∃ k, m = k + 1 := ⟨m - 1, by omega⟩
  have hz : ([48] : B).contains c = false := by
    have : c ≠ 48 := fun q => by rw [q] at h0; simp at h0
    simp [this]
  have ha : (List.replicate (k + 1) c).all (fun b => digs9.contains b) = true := by
    rw [List.all_replicate]
    have : digs9.contains c = true := (digits_has c).trans hD
    rw [this]; simp
  unfold keptB
  rw [ha, List.length_replicate]
  have : fst [48] (List.replicate (k + 1) c) = false := by rw [List.replicate_succ]; exact hz
  rw [this]; simp
/-- what the statement asks of these texts -/
theorem long_facts {c : UInt8} (h0 : 49 ≤ c.toNat) (h1 : c.toNat ≤ 57) {m a b d : Nat} (hm : m < 40) (ha : a = 65537) (hb : b = 65536) (hd : d = 65535) : ∃ S X1 X2 X3 : ByteArray, S = str (List.replicate a c) ∧ S.size = 65537 ∧ X1.size = 65536 ∧ X2 = S.extract 0 (65536 - m) ∧ X2.size = 65536 - m ∧ X3.size = 65535 ∧
    (∀ w, Calls Tryd.prog 8 #[.string S, .int .i64 0] w fun e w' => e = .returned (.tuple #[.agg #[.int .i64 1, .bool false, .string X1, .int .i64 0, .string (ByteArray.mk #[])], .int .i64 65536, .nilIface]) ∧ Below w.heap.size w w') ∧
    (∀ w, Calls Tryd.prog 8 #[.string (ByteArray.mk #[32] ++ X2), .int .i64 1] w fun e w' => e = .returned (.tuple #[.agg #[.int .i64 1, .bool false, .string X2, .int .i64 0, .string (ByteArray.mk #[])], .int .i64 (65536 - (m : Int) + 1), .nilIface]) ∧ Below w.heap.size w w') ∧
    (∀ w, Calls Tryd.prog 8 #[.string (ByteArray.mk #[45] ++ S), .int .i64 0] w fun e w' => e = .returned (.tuple #[.agg #[.int .i64 1, .bool true, .string X3, .int .i64 0, .string (ByteArray.mk #[])], .int .i64 65536, .nilIface]) ∧ Below w.heap.size w w') ∧
    (∀ w, Calls Tryd.prog 9 #[.agg #[.int .i64 1, .bool false, .string X1, .int .i64 0, .string (ByteArray.mk #[])]] w fun e w' => e = .returned (.int .i64 0) ∧ Below w.heap.size w w') ∧
    (∀ w, Calls Tryd.prog 9 #[.agg #[.int .i64 1, .bool false, .string S, .int .i64 0, .string (ByteArray.mk #[])]] w fun e w' => e = .returned (.int .i64 90) ∧ Below w.heap.size w w') := by
  have hsz : ∀ k, (str (List.replicate k c)).size = k := fun k => by rw [str_size, List.length_replicate]
  have hext : (str (List.replicate a c)).extract 0 (65536 - m) = str (List.replicate (65536 - m) c) := by
    apply ByteArray.ext
    apply Array.ext'
    rw [str_list, ByteArray.data_extract, Array.toList_extract, str_list]
    show ((List.replicate a c).drop 0).take (65536 - m - 0) = _
    rw [List.drop_zero, List.take_replicate]
    congr 1
    omega
  refine ⟨_, str (List.replicate b c), str (List.replicate (65536 - m) c), str (List.replicate d c), rfl, (hsz _).trans ha, (hsz _).trans hb, hext.symm, hsz _, (hsz _).trans hd, ?_, ?_, ?_, ?_, ?_⟩
  · intro w
    have e : min 65536 a = b := by omega
    have := scan_said (s := str (List.replicate a c)) (f := 0) (p := ⟨1, false, List.replicate b c, [], [], [], 0 + b⟩) (by rw [hsz]; unfold maxLen; omega) (Nat.zero_le _) (by unfold scanP; rw [str_list, List.drop_zero, List.take_replicate, e]; exact rep_num (sg := []) (Or.inl rfl) h0 h1 (by omega)) (by simp) w
    rw [rep_said h0 h1 (by omega)] at this
    have e2 : (((0 : Nat) : Int) + ((0 + b : Nat) : Int)) = 65536 := by omega
    rw [e2] at this
    exact this
  · intro w
    rw [cat_of]
    have e : min 65536 (65536 - m) = 65536 - m := by omega
    have := scan_said (s := str (32 :: List.replicate (65536 - m) c)) (f := 1) (p := ⟨1, false, List.replicate (65536 - m) c, [], [], [], 0 + (65536 - m)⟩) (by rw [str_size, List.length_cons, List.length_replicate]; unfold maxLen; omega) (by rw [str_size, List.length_cons]; omega) (by unfold scanP; rw [str_list, List.drop_succ_cons, List.drop_zero, List.take_replicate, e]; exact rep_num (sg := []) (Or.inl rfl) h0 h1 (by omega)) (by simp) w
    rw [rep_said h0 h1 (by omega)] at this
    have e2 : (((1 : Nat) : Int) + ((0 + (65536 - m) : Nat) : Int)) = 65536 - (m : Int) + 1 := by omega
    rw [e2] at this
    exact this
  · intro w
    rw [cat_of]
    have e : min 65535 a = d := by omega
    have := scan_said (s := str (45 :: List.replicate a c)) (f := 0) (p := ⟨1, true, List.replicate d c, [], [], [], 1 + d⟩) (by rw [str_size, List.length_cons, List.length_replicate]; unfold maxLen; omega) (Nat.zero_le _) (by unfold scanP; rw [str_list, List.drop_zero, List.take_succ_cons, List.take_replicate, e]; exact rep_num (sg := [45]) (Or.inr rfl) h0 h1 (by omega)) (by simp) w
    rw [rep_said h0 h1 (by omega)] at this
    have e2 : (((0 : Nat) : Int) + ((1 + d : Nat) : Int)) = 65536 := by omega
    rw [e2] at this
    exact this
  · intro w
    have := check9_any 1 false (str (List.replicate b c)) 0 (ByteArray.mk #[]) (by rw [hsz]; omega) (by decide) w
    have e : rightB 1 (str (List.replicate b c)).data.toList 0 (ByteArray.mk #[]).data.toList = true := by
      rw [str_list]
      unfold rightB
      rw [if_pos rfl, kept_rep h0 h1 (by omega), decide_eq_true (by omega)]
      rfl
    rw [if_pos e] at this
    exact this
  · intro w
    have := check9_any 1 false (str (List.replicate a c)) 0 (ByteArray.mk #[]) (by rw [hsz]; omega) (by decide) w
    have e : rightB 1 (str (List.replicate a c)).data.toList 0 (ByteArray.mk #[]).data.toList = false := by
      rw [str_list]
      unfold rightB
      rw [if_pos rfl, kept_rep h0 h1 (by omega), decide_eq_false (by omega)]
      rfl
    rw [if_neg (by rw [e]; decide)] at this
    exact this
end Lx
theorem alloc_below9 {w : World} {N : Nat} (o : Obj) {w' : World} (h : Below N w w') (hN : N ≤ w'.heap.size) : Below N w (w'.alloc o) := h.alloc hN o
set_option maxHeartbeats 3200000 in
set_option maxRecDepth 100000 in
theorem long_walk {n d : Int} (i0 : -9223372036854775808 ≤ n) (i1 : n ≤ 9223372036854775807) (i2 : -9223372036854775808 ≤ d) (i3 : d ≤ 9223372036854775807) {w : World} :
    Calls Tryd.prog 3 #[.int .i64 n, .int .i64 d] w fun r w' => r = .returned (.bool true) ∧ Below w.heap.size w w' := by
  obtain ⟨i_u8, hi_u8, hz0_u8, hz1_u8, hz2_u8⟩ := info_parts info9_u8
  have hI1 := fun w => into9b_any (n := n) (top := 40) (by omega) (by omega) w
  have hI2 := fun w => into9b_any (n := d) (top := 9) (by omega) (by omega) w
  obtain ⟨m, hm⟩ : ∃ m : Nat, n % 40 = (m : Int) := ⟨(n % 40).toNat, by omega⟩
  obtain ⟨k, hk⟩ : ∃ k : Nat, d % 9 = (k : Int) := ⟨(d % 9).toNat, by omega⟩
  have hm40 : m < 40 := by omega
  have hmI : (m : Int) < 40 := by omega
  have hk9 : k < 9 := by omega
  have hkI : (k : Int) < 9 := by omega
  rw [hm] at hI1
  rw [hk] at hI2
  clear hm hk
  obtain ⟨c, hc⟩ : ∃ c : UInt8, c.toNat = 49 + k := ⟨UInt8.ofNat (49 + k), by rw [UInt8.toNat_ofNat']; omega⟩
  have hcI : 49 + (k : Int) = (c.toNat : Int) := by omega
  have hcb : (c.toNat : Int) < 256 := by omega
  obtain ⟨a, ha⟩ : ∃ a, a = 65537 := ⟨_, rfl⟩
  obtain ⟨b, hb⟩ : ∃ b, b = 65536 := ⟨_, rfl⟩
  obtain ⟨d', hd'⟩ : ∃ b, b = 65535 := ⟨_, rfl⟩
  have HF : Hid (_) := long_facts (c := c) (by omega) (by omega) hm40 ha hb hd'
  have HA : Hid (a = 65537) := ha
  clear hb hd' ha hc
  go_enter Tryd.func3, Tryd.ntmps3
  go_wp2_with fail
  refine (hI1 _).mono ?_
  rintro e w1 ⟨rfl, hw1⟩
  rw [hw1]
  clear hI1 hw1
  go_wp2_with fail
  refine (hI2 _).mono ?_
  rintro e w1 ⟨rfl, hw1⟩
  rw [hw1]
  clear hI2 hw1
  go_wp2
  go_loopw [6, 7] (fun v i wx => ∃ j : Nat, i = .int .i64 (j : Int) ∧ j ≤ 65537 ∧ Own .u8 wx w.heap.size 5 v (intb (List.replicate j c)) ∧ Below w.heap.size w wx) (fun _ i _ => 65537 - (RowKit.intOf i).toNat)
  case atStart => exact ⟨0, rfl, Nat.zero_le _, own_nil _ _ _ _, Below.refl _ _⟩
  case round =>
    obtain ⟨j, rfl, hj, hov, hbl⟩ := hrel
    by_cases q1 : j < 65537
    · have d1 : decide ((j : Int) < 65537) = true := by simp; omega
      have HJ : Hid (intb (List.replicate (j + 1) c) = intb (List.replicate j c) ++ [(c.toNat : Int)]) := by
        unfold Hid intb
        rw [List.replicate_succ', List.map_append]
        rfl
      have hlen : (intb (List.replicate j c)).length = j := by rw [intb_len, List.length_replicate]
      generalize intb (List.replicate j c) = us at *
      have hsz : w.heap.size ≤ wr.heap.size := hbl.size
      go_wp2_with (at_builtin; refine wpList_append_own _ rfl _ _ 23 rfl w.heap.size 5 i_u8 (.int .u8 0) 1 1 Tryd.underlying23 hi_u8 hz0_u8 hz1_u8 hz2_u8 rfl (by decide) _ _ _ rfl (hov.row.alloc _) ⟨wr.heap.size, 0, none⟩ 1 1 [.int .u8 c.toNat] rfl rfl one_new one_cell (by unfold maxLen; omega) (by omega) (by simp; omega) ?_)
      intro v' w5 hown' hgrow _
      have hb' := grow_below hsz hov.row hbl hgrow
      have ho' := own_next hown' hlen.symm
      rw [← HJ.out] at ho'
      clear hown' hgrow hov hbl HJ
      go_wp2
      go_roundw
      case rel => exact ⟨j + 1, rfl, by omega, ho', hb'⟩
      case measure => simp [RowKit.intOf]; omega
    · have d1 : decide ((j : Int) < 65537) = false := by simp; omega
      have hja : j = a := by have := HA.out; omega
      rw [hja] at hov
      obtain ⟨a2, n2, c2, rfl, hcv⟩ := conv9b hov
      obtain ⟨S, X1, X2, X3, hS, s1, s2, s3, s4, s5, f1, f2, f3, f4, f5⟩ := HF.out
      rw [← hS] at hcv
      clear hov HF HA hcI hcb hja hS
      have e6 : (65536 - (m : Int)).toNat = 65536 - m := by omega
      have s3' := s3.symm
      have s4' : (X2.size : Int) = 65536 - (m : Int) := by omega
      clear s3 s4
      go_wp2_with fail
      refine (f1 _).mono ?_
      rintro e w1 ⟨rfl, b1⟩
      have g1 := hbl.trans (b1.mono hbl.size)
      clear f1 b1 hcv
      go_wp2_with fail
      refine (f2 _).mono ?_
      rintro e w2 ⟨rfl, b2⟩
      have K1 : Hid (Bk _ w1.heap.size 25 #[.int .i64 1, .bool false, .string X1, .int .i64 0, .string (ByteArray.mk #[])]) := (Bk.new w1 25 #[.int .i64 1, .bool false, .string X1, .int .i64 0, .string (ByteArray.mk #[])]).later b2
      have g2 := (g1.alloc g1.size (.cells #[.int .i64 1, .bool false, .string X1, .int .i64 0, .string (ByteArray.mk #[])] 25)).trans (b2.mono (g1.alloc g1.size _).size)
      clear f2 b2 g1
      have K1' : Hid (Bk _ w1.heap.size 25 #[.int .i64 1, .bool false, .string X1, .int .i64 0, .string (ByteArray.mk #[])]) := K1.out.later (alloc_below (w := w2) (.cells #[.int .i64 1, .bool false, .string X2, .int .i64 0, .string (ByteArray.mk #[])] 25))
      have K2 : Hid (Bk _ w2.heap.size 25 #[.int .i64 1, .bool false, .string X2, .int .i64 0, .string (ByteArray.mk #[])]) := Bk.new w2 25 #[.int .i64 1, .bool false, .string X2, .int .i64 0, .string (ByteArray.mk #[])]
      have g3 := g2.alloc g2.size (.cells #[.int .i64 1, .bool false, .string X2, .int .i64 0, .string (ByteArray.mk #[])] 25)
      have s2' : (X1.size : Int) = 65536 := by omega
      have s5' : (X3.size : Int) = 65535 := by omega
      clear K1 g2
      go_wp2
      generalize w2.alloc (.cells #[.int .i64 1, .bool false, .string X2, .int .i64 0, .string (ByteArray.mk #[])] 25) = w3 at *
      have y1 : w3.cell? ⟨w1.heap.size, 2, none⟩ = some (.string X1) := K1'.out.cell 2 rfl
      have y2 : w3.cell? ⟨w2.heap.size, 2, none⟩ = some (.string X2) := K2.out.cell 2 rfl
      go_quiet (fail)
      have K1d : Hid (Bk (w3.drewN nq) w1.heap.size 25 #[.int .i64 1, .bool false, .string X1, .int .i64 0, .string (ByteArray.mk #[])]) := K1'.out
      have g4 : Below w.heap.size w (w3.drewN nq) := below_drewN g3 _
      generalize w3.drewN nq = w4 at *
      clear K1' K2 y1 y2 g3
      go_wp2_with fail
      refine (f3 _).mono ?_
      rintro e w5 ⟨rfl, b5⟩
      have K5 : Hid (Bk _ w1.heap.size 25 #[.int .i64 1, .bool false, .string X1, .int .i64 0, .string (ByteArray.mk #[])]) := (K1d.out.later b5).later (alloc_below (w := w5) (.cells #[.int .i64 1, .bool true, .string X3, .int .i64 0, .string (ByteArray.mk #[])] 25))
      have g5 := g4.trans (b5.mono g4.size)
      have K6 : Hid (Bk _ w5.heap.size 25 #[.int .i64 1, .bool true, .string X3, .int .i64 0, .string (ByteArray.mk #[])]) := Bk.new w5 25 #[.int .i64 1, .bool true, .string X3, .int .i64 0, .string (ByteArray.mk #[])]
      have g6 := g5.alloc g5.size (.cells #[.int .i64 1, .bool true, .string X3, .int .i64 0, .string (ByteArray.mk #[])] 25)
      have y1 := K6.out.cell 2 rfl
      have y2 := K6.out.cell 1 rfl
      have y10 := K5.out.cell 0 rfl
      have y11 := K5.out.cell 1 rfl
      have y12 := K5.out.cell 2 rfl
      have y13 := K5.out.cell 3 rfl
      have y14 := K5.out.cell 4 rfl
      clear f3 b5 g4 g5 K1d K5 K6
      go_wp2_with fail
      refine (f4 _).mono ?_
      rintro e w7 ⟨rfl, b7⟩
      have g7 := g6.trans (b7.mono g6.size)
      clear f4 b7 g6 y1 y2 y10 y11 y12 y13 y14
      go_wp2_with fail
      refine (f5 _).mono ?_
      rintro e w8 ⟨rfl, b8⟩
      have g8 := g7.trans (b8.mono g7.size)
      clear f5 b8 g7
      go_wp2
      go_ret
      exact ⟨rfl, g8⟩
end Go.Proofs.YthibemoincgemaaDoor

/- Layer 16: OctetDigits. -/
import Derived.Test.YtchlflmdannhaaaDoorOctH
import Derived.Deep.DeepCutAuto
import Derived.Deep.RegionWith
namespace Go.Proofs.YtchlflmdannhaaaDoor
open Go.ChangeShapes Go.WideShapes Go.ChangeAt Go.RowKit
open Go.ChangeMaps (open_string shut_string)
open Ep Oc
set_option linter.unusedVariables false
namespace Oc
theorem catO (a b : ByteArray) : ∃ c : ByteArray, a ++ b = c ∧ c.size = a.size + b.size ∧ Hid (c.data.toList = a.data.toList ++ b.data.toList) := ⟨a ++ b, rfl, ByteArray.size_append, by show (a ++ b).data.toList = _; simp⟩
theorem extO (s : ByteArray) (i j : Nat) : (s.extract i j).data.toList = (s.data.toList.drop i).take (j - i) := by
  rw [ByteArray.data_extract, Array.toList_extract, List.extract_eq_take_drop]
theorem sizeO (s : ByteArray) : s.size = s.data.toList.length := by rw [Array.length_toList]; rfl
theorem ubad_zero (l : List UInt8) : ubad (hexL l ++ [48]) = true ∧ fb (hexL l ++ [48]) = 2 * l.length + 1 := by
  constructor
  · exact ubad_odd (by rw [List.length_append, hexL_len, List.length_singleton]; omega)
  · rw [fb_app (hexL_is l), hexL_len]
    rfl
theorem ubad_put {l : List UInt8} {A : Nat} {b : UInt8} (hA : A ≤ 2 * l.length) (hb : valD b = none) : ubad ((hexL l).take A ++ b :: (hexL l).drop A) = true ∧ fb ((hexL l).take A ++ b :: (hexL l).drop A) = A := by
  have h2 : fb ((hexL l).take A ++ b :: (hexL l).drop A) = A := by
    rw [fb_app (fun c hc => hexL_is l c (List.mem_of_mem_take hc)), List.length_take, hexL_len]
    have : fb (b :: (hexL l).drop A) = 0 := by unfold fb; rw [List.takeWhile_cons, if_neg (by rw [hb]; decide)]; rfl
    rw [this]
    omega
  exact ⟨ubad_at (by rw [h2]; simp [hexL_len]; omega), h2⟩
/-- a byte that is no digit -/
def noD (b : UInt8) : UInt8 := if (valD b).isSome then 103 else b
theorem noD_val (b : UInt8) : valD (noD b) = none := by
  unfold noD
  split
  · decide
  · rename_i h; simpa using h
theorem valD_cases (b : UInt8) {x : Int} (hx : x = (b.toNat : Int)) : ((valD b).isSome = true ∧ ((48 ≤ x ∧ x ≤ 57) ∨ (97 ≤ x ∧ x ≤ 102) ∨ (65 ≤ x ∧ x ≤ 70))) ∨ ((valD b).isSome = false ∧ (x < 48 ∨ (57 < x ∧ x < 65) ∨ (70 < x ∧ x < 97) ∨ 102 < x)) := by
  subst hx
  unfold valD
  by_cases q1 : 48 ≤ b.toNat ∧ b.toNat ≤ 57
  · rw [if_pos q1]; left; exact ⟨rfl, by omega⟩
  · rw [if_neg q1]
    by_cases q2 : 97 ≤ b.toNat ∧ b.toNat ≤ 102
    · rw [if_pos q2]; left; exact ⟨rfl, by omega⟩
    · rw [if_neg q2]
      by_cases q3 : 65 ≤ b.toNat ∧ b.toNat ≤ 70
      · rw [if_pos q3]; left; exact ⟨rfl, by omega⟩
      · rw [if_neg q3]; right; exact ⟨rfl, by omega⟩
end Oc
theorem unhex16_bad (s : ByteArray) (w : World) (hs : s.size ≤ 100000000) {L : List UInt8} {k : Nat} (hL : s.data.toList = L) (hb : ubad L = true ∧ fb L = k) :
    Calls Tryd.prog 8 #[.string s] w fun e w' => ∃ g, e = .returned (.tuple #[.slice none 0 0, .iface 61 (.pointer (some ⟨g, 0, none⟩))]) ∧ FaultAt w' g (k : Int) 161 ∧ Below w.heap.size w w' := by
  refine (unhex16_any s w hs).mono ?_
  rintro e w' ⟨h, hb'⟩
  rw [hL, hb.1, hb.2] at h
  rcases h with ⟨_, g, rfl, hF⟩ | ⟨h, _⟩
  · exact ⟨g, rfl, hF, hb'⟩
  · cases h
theorem cells_hexed : Tryd.prog.cellsOf 24 = 4 := by kernel_rfl
theorem cells_hsu8 : Tryd.prog.cellsOf 22 = 1 := by kernel_rfl
theorem cells_hstr : Tryd.prog.cellsOf 9 = 1 := by kernel_rfl
theorem cells_hi64 : Tryd.prog.cellsOf 3 = 1 := by kernel_rfl
theorem cells_hu8 : Tryd.prog.cellsOf 5 = 1 := by kernel_rfl
def Oc.hxA (a : Option Addr) (n c : Nat) (s : ByteArray) (t b : Int) : Array Value := #[.slice a n c, .string s, .int .i64 t, .int .u8 b]
set_option maxRecDepth 100000 in
theorem open_hexed {H : Type} {enc : TypeId × Value → H} {w : World} {r : Reach} {base b0 : Nat} {spare : Nat → Bool} {held : Bool} {v : Value} {d : DataW H} {p : List MemPlace}
    (hv : Value.okWide Tryd.prog w r b0 24 v) (h : DataW.Trod enc Tryd.prog w base spare held 24 v d p) (hall : ∀ g, spare g = true) (hb : Rows.uptoBulk d ≤ 1048576) :
    ∃ a n c l s t b, v = .agg (hxA a n c s t b) ∧ Rb w a n c l ∧ n ≤ 1048576 ∧ s.size ≤ 1048576 ∧ (-9223372036854775808 ≤ t ∧ t ≤ 9223372036854775807) ∧ (0 ≤ b ∧ b ≤ 255) := by
  obtain ⟨cs, rfl, hsz⟩ := okWide_struct Tryd.underlying24 hv
  obtain ⟨fuel, hf⟩ := h
  obtain ⟨xs, m, _, hd, hl, hx, hi⟩ := DataW.trod_struct Tryd.underlying24 hf
  rw [cells_hexed] at hsz
  obtain ⟨c0, c1, c2, c3, rfl⟩ : ∃ c0 c1 c2 c3, cs = #[c0, c1, c2, c3] := by
    match cs, hsz with
    | ⟨[c0, c1, c2, c3]⟩, _ => exact ⟨c0, c1, c2, c3, rfl⟩
  have i0 := hi 0 _ rfl
  have i1 := hi 1 _ rfl
  have i2 := hi 2 _ rfl
  have i3 := hi 3 _ rfl
  match xs, hx with
  | [x0, x1, x2, x3], _ =>
    simp [Value.cells, cells_hsu8, cells_hstr, cells_hi64, cells_hu8] at i0 i1 i2 i3
    have hd1 : d = .agg [x0.1, x1.1, x2.1, x3.1] := by simpa using congrArg Prod.fst hd
    rw [hd1] at hb
    simp only [Rows.uptoBulk, Rows.uptoBulkAll] at hb
    have q1 := bulk_pos x1.1
    obtain ⟨s2, e2, _, hw2⟩ := DataW.trod_int Tryd.underlying3 i2
    simp at e2
    obtain ⟨s3, e3, _, hw3⟩ := DataW.trod_int Tryd.underlying5 i3
    simp at e3
    obtain ⟨s1, e1, f1, hw1⟩ := DataW.trod_string Tryd.underlying9 i1
    simp at e1
    have g1 : x1.1 = .lit (.string s1.data.toList) := by rw [f1]
    rw [g1] at hb
    simp only [Rows.uptoBulk] at hb
    have hs1 : s1.data.toList.length = s1.size := by rw [Array.length_toList]; rfl
    obtain ⟨a, n, c, rfl⟩ : ∃ a n c, c0 = .slice a n c := by
      rcases open_ints Tryd.underlying22 Tryd.underlying5 (by kernel_rfl) i0 with ⟨hcs, _⟩ | ⟨x, l', c', zs, hcs, _⟩
      · simp at hcs; exact ⟨_, _, _, hcs⟩
      · simp at hcs; exact ⟨_, _, _, hcs⟩
    obtain ⟨l, h1, h2⟩ := trod_bytes (d := x0.1) (p := x0.2) i0 hall (by omega)
    simp only [Lit.wf, Bool.and_eq_true, decide_eq_true_eq] at hw2 hw3
    have k1 : IntKind.i64.min = -9223372036854775808 := rfl
    have k2 : IntKind.i64.max = 9223372036854775807 := rfl
    have k3 : IntKind.u8.min = 0 := rfl
    have k4 : IntKind.u8.max = 255 := rfl
    subst e1 e2 e3
    exact ⟨a, n, c, l, s1, s2, s3, rfl, h1, h2, by omega, by omega, by omega⟩
set_option maxHeartbeats 6400000 in
set_option maxRecDepth 100000 in
theorem digits_walk {w : World} {a : Option Addr} {n c : Nat} {l : List UInt8} {s : ByteArray} {t b : Int} (h : Rb w a n c l) (hn : n ≤ 1048576) (hs : s.size ≤ 1048576) (ht : -9223372036854775808 ≤ t ∧ t ≤ 9223372036854775807) (hb : 0 ≤ b ∧ b ≤ 255) (hE : ErrVar w) :
    Calls Tryd.prog 3 #[.agg (hxA a n c s t b)] w fun e w' => e = .returned (.bool true) ∧ Below w.heap.size w w' := by
  have HL : Hid (l.length = n) := h.len
  have hcc := h.2
  unfold hxA
  go_enter Tryd.func3, Tryd.ntmps3
  go_wp2
  go_quiet (fail)
  have hb0 : Below w.heap.size w ((w.alloc (.cells #[.slice a n c, .string s, .int .i64 t, .int .u8 b] 24)).drewN nq) := below_drewN ((Below.refl _ _).alloc (Nat.le_refl _) _) nq
  generalize (w.alloc (.cells #[.slice a n c, .string s, .int .i64 t, .int .u8 b] 24)).drewN nq = w0 at *
  have h0 := h.later hb0
  have hE0 := hE.later hb0
  clear h hE
  obtain ⟨X, hX⟩ : ∃ X : ByteArray, X = ⟨(hexL l).toArray⟩ := ⟨_, rfl⟩
  have HX : Hid (X.data.toList = hexL l) := by show _ = _; rw [hX]
  have HS : Hid (X.size = 2 * n) := by show _ = _; rw [hX]; show (hexL l).toArray.size = _; rw [List.size_toArray, hexL_len, HL.out]
  have hx := hex16_any h0 (by omega)
  rw [← hX] at hx
  have hXs : X.size ≤ 2097152 := by rw [HS.out]; omega
  have hXi : (X.size : Int) = 2 * (n : Int) := by have := HS.out; omega
  clear hX
  go_wp2_with fail
  refine hx.mono ?_
  rintro e w1 ⟨rfl, hb1⟩
  have hB1 := hb0.trans (hb1.mono hb0.size)
  have h1 := h0.later hb1
  have hE1 := hE0.later hb1
  clear hx hb0 hb1 h0 hE0
  have hU := unhex16_any X w1 (by omega)
  rw [HX.out, ubad_hex] at hU
  go_wp2_with fail
  refine hU.mono ?_
  rintro e w2 ⟨hres, hb2⟩
  have hB2 := hB1.trans (hb2.mono hB1.size)
  have h2 := h1.later hb2
  have hE2 := hE1.later hb2
  clear hU hB1 hb2 h1 hE1
  rcases hres with ⟨hbad, _⟩ | ⟨_, v2, rfl, hO2⟩
  · cases hbad
  rw [unhex_hex] at hO2
  obtain ⟨xa, xc, rfl, hx2⟩ := hO2.row
  have hS := same16_yes hx2 h2
  rw [HL.out] at hS ⊢
  have t1 : ((X.size : Int) != 2 * (n : Int)) = false := by simp; omega
  have t2 : ((2 * n : Int) != 2 * (n : Int)) = false := by simp
  clear hXi hO2 hx2
  go_wp2_with fail
  refine hS.mono ?_
  rintro e w3 ⟨rfl, k3, rfl⟩
  have hb3 := below_drewN (Below.refl w2.heap.size w2) k3
  have hB3 := hB2.trans (hb3.mono hB2.size)
  have hE3 := hE2.later hb3
  clear hS hB2 h2 hE2 hb3
  generalize w2.drewN k3 = w3 at *
  have hU := unhex16_any s w3 (by omega)
  obtain ⟨LO, hLO⟩ : ∃ LO : ByteArray, LO = ⟨(s.data.toList.map lowD).toArray⟩ := ⟨_, rfl⟩
  have hlw := fun w => lower16_any s w (by omega)
  rw [← hLO] at hlw
  go_wp2_with fail
  refine hU.mono ?_
  rintro e w4 ⟨hres, hb4⟩
  have hB4 := hB3.trans (hb4.mono hB3.size)
  have hE4 := hE3.later hb4
  clear hU hB3 hb4 hE3
  obtain ⟨X0, eX0, sX0, HX0⟩ := catO X ⟨#[48]⟩
  have hs1 : (ByteArray.mk #[48]).size = 1 := rfl
  rw [hs1] at sX0
  have HZ : Hid (X0.data.toList = hexL l ++ [48]) := by show _ = _; rw [HX0.out, HX.out]
  have tL : (LO.toList != LO.toList) = false := by simp
  have hX09 : X0.size ≤ 3000000 := by omega
  have hU0 := fun w => unhex16_bad X0 w (by omega) HZ.out (ubad_zero l)
  clear sX0 HX0 hs1
  rcases hres with ⟨_, g4, rfl, hF4⟩ | ⟨hno, v4, rfl, hO4⟩
  clear hlw hLO hF4
  go_wp2_with fail
  have hB6 := hB4
  have hE6 := hE4
  clear hB4 hE4
  generalize w4 = w6 at *
  rotate_left
  obtain ⟨ya, yc, rfl, hy4⟩ := hO4.row
  have hul := unhexL_len s.data.toList
  have hsl := sizeO s
  have hx := hex16_any hy4 (by omega)
  rw [hex_unhex _ (fb_is (ubad_false hno).1) (ubad_false hno).2, ← hLO] at hx
  generalize (unhexL s.data.toList).length = m at *
  clear hul hsl hO4 hno hLO hy4
  go_wp2_with fail
  refine hx.mono ?_
  rintro e w5 ⟨rfl, hb5⟩
  have hB5 := hB4.trans (hb5.mono hB4.size)
  have hE5 := hE4.later hb5
  clear hx hB4 hE4 hb5
  go_wp2_with fail
  refine (hlw _).mono ?_
  rintro e w6 ⟨rfl, hb6⟩
  have hB6 := hB5.trans (hb6.mono hB5.size)
  have hE6 := hE5.later hb6
  clear hlw hB5 hE5 hb6
  go_wp2_with fail
  all_goals
    refine (hU0 _).mono ?_
    rintro e w7 ⟨g7, rfl, hF7, hb7⟩
    have hB7 := hB6.trans (hb7.mono hB6.size)
    have hE7 := hE6.later hb7
    have hp7 : ((2 * l.length + 1 : Nat) : Int) = (X.size : Int) + 1 := by rw [HL.out, HS.out]; omega
    rw [hp7] at hF7
    have hSE := sameErr_yes hF7 hE7 (by decide)
    clear hU0 hB6 hE6 hb7 hp7 hF7
    go_wp2_with fail
    refine hSE.mono ?_
    rintro e w8 ⟨rfl, hb8⟩
    have hB8 := hB7.trans (hb8.mono hB7.size)
    have hE8 := hE7.later hb8
    clear hSE hB7 hE7 hb8
    have z1 : ((X.size : Int) + 1 == 0) = false := by simp; omega
    have z2 : ¬ (X.size : Int) + 1 = -1 := by omega
    have z3 : ¬ (X.size : Int) + 1 = 0 := by omega
    obtain ⟨Q, hQ⟩ : ∃ Q, t.tmod ((X.size : Int) + 1) = Q := ⟨_, rfl⟩
    have hQ1 : Q ≤ (X.size : Int) := by have := Int.tmod_lt_of_pos t (show (0 : Int) < (X.size : Int) + 1 by omega); omega
    have hQ2 : -(X.size : Int) ≤ Q := by have := Int.lt_tmod_of_pos t (show (0 : Int) < (X.size : Int) + 1 by omega); omega
    obtain ⟨A, hA⟩ : ∃ A : Nat, (A : Int) = if Q < 0 then Q + X.size + 1 else Q := by
      by_cases q : Q < 0
      · rw [if_pos q]; exact ⟨(Q + X.size + 1).toNat, by omega⟩
      · rw [if_neg q]; exact ⟨Q.toNat, by omega⟩
    have HA : Hid ((A : Int) = if Q < 0 then Q + X.size + 1 else Q) := hA
    have hA9 : A ≤ X.size := by
      by_cases q : Q < 0
      · rw [if_pos q] at hA; omega
      · rw [if_neg q] at hA; omega
    clear hA
    go_upto_if 75 with fail
    go_cut [5] (fun v wx => v = .int .i64 (A : Int) ∧ wx = w8)
    case first =>
      by_cases q : Q < 0
      · have e1 := HA.out
        rw [if_pos q] at e1
        have HQ : Hid (Q + X.size + 1 = (A : Int)) := e1.symm
        clear e1
        go_wp2
        go_meet
        exact ⟨by rw [HQ.out], rfl⟩
      · have e1 := HA.out
        rw [if_neg q] at e1
        have HQ : Hid (Q = (A : Int)) := e1.symm
        clear e1
        go_wp2
        go_meet
        exact ⟨by rw [HQ.out], rfl⟩
    obtain ⟨rfl, rfl⟩ := hcut
    clear hQ hQ1 hQ2 HA z1 z2 z3
    obtain ⟨bb, hbb⟩ : ∃ bb : UInt8, b = (bb.toNat : Int) := ⟨UInt8.ofNat b.toNat, by rw [UInt8.toNat_ofNat']; omega⟩
    have hcs := valD_cases bb hbb
    have HNd : Hid (noD bb = if (valD bb).isSome = true then 103 else bb) := (rfl : noD bb = _)
    have hnd := noD_val bb
    generalize (valD bb).isSome = DB at *
    have HBB : Hid (b = (bb.toNat : Int)) := hbb
    clear hbb
    go_upto_region 15 with fail
    go_cut [102] (fun v wx => v = .bool DB ∧ wx = wc)
    case first =>
      rcases hcs with ⟨d, q⟩ | ⟨d, q⟩
      · subst d
        rcases q with ⟨q1, q2⟩ | ⟨q1, q2⟩ | ⟨q1, q2⟩
        all_goals
          go_wp2
          go_meet
          exact ⟨rfl, rfl⟩
      · subst d
        rcases q with q1 | ⟨q1, q2⟩ | ⟨q1, q2⟩ | q1
        all_goals
          go_wp2
          go_meet
          refine ⟨?_, rfl⟩
          first | rfl | (simp; omega)
    obtain ⟨rfl, rfl⟩ := hcut
    go_upto_if 102 with fail
    go_cut [6] (fun v wx => v = .int .u8 ((noD bb).toNat : Int) ∧ wx = wc)
    case first =>
      cases DB
      · have HQ : Hid (b = ((noD bb).toNat : Int)) := by show _ = _; rw [HNd.out, if_neg (by decide)]; exact HBB.out
        clear hcs
        go_wp2
        go_meet
        exact ⟨by rw [HQ.out], rfl⟩
      · have HQ : Hid (((noD bb).toNat : Int) = 103) := by show _ = _; rw [HNd.out, if_pos rfl]; rfl
        clear hcs
        go_wp2
        go_meet
        exact ⟨by rw [HQ.out], rfl⟩
    obtain ⟨rfl, rfl⟩ := hcut
    clear hcs HNd
    generalize noD bb = B at *
    clear HBB
    obtain ⟨P, hP⟩ : ∃ P : ByteArray, X.extract 0 A = P := ⟨_, rfl⟩
    obtain ⟨S, hS⟩ : ∃ S : ByteArray, X.extract A X.size = S := ⟨_, rfl⟩
    obtain ⟨PB, ePB, sPB, HPB⟩ := catO P ⟨#[B]⟩
    obtain ⟨T, eT, sT, HT⟩ := catO PB S
    have HXl : Hid ((hexL l).length = 2 * n) := by show _ = _; rw [hexL_len, HL.out]
    have HP2 : Hid (P.data.toList = (hexL l).take A) := by show _ = _; rw [← hP, extO, HX.out]; simp
    have HS2 : Hid (S.data.toList = (hexL l).drop A) := by show _ = _; rw [← hS, extO, HX.out, List.take_of_length_le (by rw [List.length_drop, HXl.out, HS.out]; omega)]
    have hps : P.size ≤ 2097152 := by rw [sizeO, HP2.out, List.length_take, HXl.out]; omega
    have hss : S.size ≤ 2097152 := by rw [sizeO, HS2.out, List.length_drop, HXl.out]; omega
    have hb1 : (ByteArray.mk #[B]).size = 1 := rfl
    rw [hb1] at sPB
    have HTL : Hid (T.data.toList = (hexL l).take A ++ B :: (hexL l).drop A) := by show _ = _; rw [HT.out, HPB.out, HP2.out, HS2.out, List.append_assoc]; rfl
    have hPB9 : PB.size ≤ 3000000 := by omega
    have hT9 : T.size ≤ 6000000 := by omega
    have hU := fun w => unhex16_bad T w (by omega) HTL.out (ubad_put (l := l) (A := A) (b := B) (by rw [HL.out, ← HS.out]; exact hA9) hnd)
    have hcv1 : ∀ w : World, (convert 22 9 (.slice (some ⟨w.heap.size, 0, none⟩) 1 1)).run Tryd.prog (w.alloc (.cells #[.int .u8 (B.toNat : Int)] 5)) = .ok (.string ⟨#[B]⟩) (w.alloc (.cells #[.int .u8 (B.toNat : Int)] 5)) := fun w => conv8 (rb_one w rfl)
    have hcv := hcv1 wc.drew
    have hcv2 : (convert 22 9 (.slice (some ⟨wc.heap.size, 0, none⟩) 1 1)).run Tryd.prog (wc.alloc (.cells #[.int .u8 (B.toNat : Int)] 5)).drew = .ok (.string ⟨#[B]⟩) (wc.alloc (.cells #[.int .u8 (B.toNat : Int)] 5)).drew := hcv
    have hAi : (A : Int) ≤ (X.size : Int) := by omega
    have hA0 : (0 : Int) ≤ (A : Int) := by omega
    clear hcv1 hcv HPB HT HP2 HS2 HTL sT sPB hb1
    go_upto_region 17 with fail
    go_region_with (go_at_call 8; refine (hU _).mono ?_; rintro e w9 ⟨g9, rfl, hF9, hb9⟩)
    all_goals
      have hBB : Below w.heap.size w (wc.alloc (.cells #[.int .u8 (B.toNat : Int)] 5)).drew := below_drewN (hB8.alloc hB8.size _) 1
      have hB9 := hBB.trans (hb9.mono hBB.size)
      have hEd : ErrVar (wc.alloc (.cells #[.int .u8 (B.toNat : Int)] 5)).drew := hE8.later (below_drewN (alloc_below _) 1)
      have hSE := sameErr_yes hF9 (hEd.later hb9) (by decide)
      clear hF9 hE8 hEd hb9 hBB hB8 hU hcv2 hP hS ePB eT
      go_wp2_with fail
      refine hSE.mono ?_
      rintro e w10 ⟨rfl, hb10⟩
      have hB10 := hB9.trans (hb10.mono hB9.size)
      clear hSE hB9 hb10
      go_wp2
      go_ret
      exact ⟨rfl, hB10⟩
end Go.Proofs.YtchlflmdannhaaaDoor

import Derived.Deep.RegionHeld3
import Derived.Below
import Derived.BigQuiet
import Derived.BigRegion
import Derived.ChangeOld
import Derived.Deep.CutRange
import Derived.Deep.DeepCutAuto
import Derived.Deep.LoopGhost
import Derived.Deep.QuietTactic
import Derived.Deep.RegionLaw
import Derived.Deep.RegionWith
import Derived.Deep.WholeRow
import Derived.KernelRfl
import Derived.LaidEql
import Derived.Laws.BitsAllLaws
import Derived.Laws.CopyRow
import Derived.Laws.EntriesVeiled
import Derived.Laws.Externs
import Derived.Laws.IdiomCopy
import Derived.Laws.IdiomRangeMap
import Derived.Laws.IdiomStrings
import Derived.Laws.RangeAny
import Derived.Laws.RangeString
import Derived.Laws.ResultCell
import Derived.Laws.Runes
import Derived.Laws.Strings3
import Derived.Lib.AsciiSet
import Derived.Lib.AtoiErrMem
import Derived.Lib.Bytealg
import Derived.Lib.ConvBytes
import Derived.Lib.IndexBytes
import Derived.Lib.OthersKept
import Derived.Lib.Strings
import Derived.Lib.TrimByte
import Derived.Lib.Walk
import Derived.OpenShut
import Derived.OwnWalk
import Derived.ProofKit
import Derived.RowKitTokens
import Derived.Scope
import Derived.Shelf.Strconv.Clone
import Derived.Shelf.Strings.OnBuilder
import Derived.ShutString
import Derived.Stop.Asserts
import Derived.WalkKit
import Derived.WalkLawsBesides
import Derived.WalkMore
import Derived.WalkSpells
import Derived.Test.YtjeoiffloghonaaGreatDoorAbj11
import Derived.Test.YtjeoiffloghonaaGreatDoorAbj21
import Derived.Test.YtjeoiffloghonaaGreatDoorAbj22
/- The document's atof: zero, read, near, decimal, hexadecimal, Bits. -/
namespace Go.Proofs.YtjeoiffloghonaaGreatDoor
open Go.ChangeShapes Go.WideShapes Go.ChangeAt Go.RowKit
open Na Ar Lx
set_option linter.unusedVariables false
theorem up_zero (A B : Int) (neg : Bool) (d : Int) : upP A B false neg 0 d = upP A B false false 0 d := by
  unfold upP
  simp
/-- rounding to the nearest does not ask for the sign -/
theorem round_pat {A B v E : Int} {neg : Bool} (h : RoundIs A B false neg 0 v E) : PatIs (RoundIs A B false false 0) neg v E := by
  obtain ⟨d, h1, h⟩ := h
  rw [up_zero] at h
  have hs : sgB false = 0 := rfl
  rcases h with ⟨c, rfl, rfl⟩ | ⟨c, ⟨rfl, rfl, rfl⟩ | ⟨hd, rfl, rfl⟩⟩
  · exact ⟨d, 0, ⟨d, h1, Or.inl ⟨c, by rw [hs, Int.add_zero], rfl⟩⟩, Or.inr ⟨rfl, rfl, rfl⟩⟩
  · exact ⟨0, 70, ⟨_, h1, Or.inr ⟨c, Or.inl ⟨rfl, rfl, rfl⟩⟩⟩, Or.inl ⟨by decide, rfl, rfl⟩⟩
  · exact ⟨d + 1, 0, ⟨d, h1, Or.inr ⟨c, Or.inr ⟨hd, by rw [hs, Int.add_zero], rfl⟩⟩⟩, Or.inr ⟨rfl, rfl, rfl⟩⟩
theorem round_code {A B v E mode : Int} {neg more : Bool} (h : RoundIs A B more neg mode v E) : (E = 0) ∨ (E = 70 ∧ v = 0) := by
  obtain ⟨d, _, ⟨_, _, h⟩ | ⟨_, ⟨_, h, h'⟩ | ⟨_, _, h⟩⟩⟩ := h
  · exact Or.inl h
  · exact Or.inr ⟨h', h⟩
  · exact Or.inl h
theorem PatIs.over {Q : Int → Int → Prop} {ng : Bool} (h : Q 0 70) : PatIs Q ng 0 70 := ⟨0, 70, h, Or.inl ⟨by decide, rfl, rfl⟩⟩
theorem PatIs.tiny {Q : Int → Int → Prop} {ng : Bool} (h : Q 0 0) : PatIs Q ng (sgB ng) 0 := ⟨0, 0, h, Or.inr ⟨rfl, rfl, by omega⟩⟩
theorem PatIs.imp {Q R : Int → Int → Prop} {ng : Bool} {b E : Int} (h : PatIs Q ng b E) (hq : ∀ m F, Q m F → R m F) : PatIs R ng b E := by
  obtain ⟨m, F, h1, h2⟩ := h
  exact ⟨m, F, hq m F h1, h2⟩
theorem sgB_U (ng : Bool) : U (sgB ng) := by unfold U; cases ng <;> decide
theorem r11zero_any (ng : Bool) (w : World) : Calls Tryz.prog 27 #[.bool ng] w fun r w' => r = .returned (.int .u64 (sgB ng)) ∧ w' = w := by
  cases ng
  · go_enter Tryz.func27, Tryz.ntmps27
    go_wp2
    go_ret
    exact ⟨rfl, rfl⟩
  · go_enter Tryz.func27, Tryz.ntmps27
    go_wp2
    go_ret
    exact ⟨rfl, rfl⟩
set_option maxHeartbeats 1600000 in
theorem r11read_any (s : ByteArray) {b : Int} (hb : b = 10 ∨ b = 16) (h0 : 0 < s.size) (hs : s.size ≤ 800) (hd : okB b s.data.toList) (w : World) :
    Calls Tryz.prog 31 #[.string s, .int .i64 b] w fun r w' => ∃ a n c l, r = .returned (.slice a n c) ∧ RowC w' a n c l ∧ Nm l (nv b s.data.toList) ∧ l.length ≤ 800 ∧ Below w.heap.size w w' := by
  have sz : s.data.toList.length = s.size := (Lib.size_eq s).symm
  have lt := nv_Lt (b := b) (by omega) (by omega) hd
  have hP := fun w => refParse_any s b (by omega) w
  have hdg : ∀ i, i < s.size → dgt s i < b := fun i hi => by
    have := hd.dgt i (by omega)
    rw [str_of] at this; exact this
  have hc : ∀ code p, PCode s b code p → code = 0 := fun code p q => (pcode_uniq q (Or.inr (Or.inr (Or.inr (Or.inr ⟨by omega, ⟨h0, hdg⟩, by rw [nv_of]; have := lt.len; omega, rfl, rfl⟩))))).1
  rw [nv_of] at hP
  have nm := lt.nm (by omega)
  have ll := lt.len
  have hem : s.toList.isEmpty = false := by
    rw [Lib.toList_data]
    cases hl : s.data.toList with
    | nil => rw [hl] at sz; simp at sz; omega
    | cons c r => rfl
  generalize nv b s.data.toList = T at *
  have HC : Hid (∀ code p, PCode s b code p → code = 0) := hc
  clear hd hc hdg
  go_enter Tryz.func31, Tryz.ntmps31
  go_wp2_with fail
  refine (hP _).mono ?_
  rintro e w1 ⟨va, l, c, code, p, rfl, ⟨q1, q2⟩, hb1⟩
  have q3 := HC.out code p q1
  rw [q3] at q2
  have q4 : RowC w1 va l c (words T) := q2
  have HP : Hid (code = 0) := q3
  clear hP HC q1 q2 q3
  generalize words T = ls at *
  go_wp2
  go_ret
  exact ⟨_, _, _, ls, rfl, q4, nm, by omega, hb1⟩
set_option maxHeartbeats 1600000 in
theorem r11near_any {w : World} {a b : Option Addr} {n m c1 c2 : Nat} {xs ys : List Int} {N D : Int} (ng : Bool) (hr1 : RowC w a n c1 xs) (hr2 : RowC w b m c2 ys) (m1 : Nm xs N) (m2 : Nm ys D) (l1 : xs.length ≤ 100000) (l2 : ys.length ≤ 100000) (hD : 0 < D) :
    Calls Tryz.prog 30 #[.bool ng, .slice a n c1, .slice b m c2] w fun r w' => ∃ v E, r = .returned (.tuple #[.int .u64 v, .int .i64 E]) ∧ PatIs (RoundIs (scA N 0) (scB D 0) false false 0) ng v E ∧ U v ∧ Below w.heap.size w w' := by
  have hQ := r7Quotient_any hr1 hr2 m1.ws m2.ws (by have := hr1.1.1; omega) (by have := hr2.1.1; omega) (mode := 0) (neg := ng) (by omega) (by omega) (by rw [m2.num]; exact hD)
  rw [m1.num, m2.num] at hQ
  clear hr1 hr2 m1 m2
  go_enter Tryz.func30, Tryz.ntmps30
  go_wp2_with fail
  refine hQ.mono ?_
  rintro r w1 ⟨v, E, rfl, hR, hu, hb⟩
  have hp := round_pat hR
  clear hQ
  rcases round_code hR with rfl | ⟨rfl, rfl⟩
  · have HP : Hid (PatIs (RoundIs (scA N 0) (scB D 0) false false 0) ng v 0) := hp
    clear hR hp
    go_wp2
    go_ret2
    exact ⟨_, _, rfl, HP.out, hu, hb⟩
  · have HP : Hid (PatIs (RoundIs (scA N 0) (scB D 0) false false 0) ng 0 70) := hp
    clear hR hp
    go_wp2
    go_ret2
    exact ⟨_, _, rfl, HP.out, hu, hb⟩
set_option maxHeartbeats 3200000 in
set_option maxRecDepth 100000 in
theorem r11decimal_any (ng : Bool) (num : ByteArray) (e : Int) (den : ByteArray) (h0 : 0 < num.size) (hs : num.size ≤ 800) (hd : okB 10 num.data.toList) (hl : lead num.data.toList) (e0 : -1073741824 ≤ e) (e1 : e ≤ 1073741824) (w : World) :
    Calls Tryz.prog 28 #[.agg (numC 1 ng num e den)] w fun r w' => ∃ b E, r = .returned (.tuple #[.int .u64 b, .int .i64 E]) ∧ PatIs (ExIs (nv 10 num.data.toList) e) ng b E ∧ U b ∧ Below w.heap.size w w' := by
  have sz : num.data.toList.length = num.size := (Lib.size_eq num).symm
  have hb0 : Below w.heap.size w (w.alloc (.cells (numC 1 ng num e den) 23)) := (Below.refl _ w).alloc (Nat.le_refl _) _
  have HB : Hid (Bk (w.alloc (.cells (numC 1 ng num e den) 23)) w.heap.size 23 (numC 1 ng num e den)) := Bk.new _ _ _
  have hge := hl.ge (b := 10) (by omega)
  have hlt := nv_lt (b := 10) (by omega) hd
  have lt := nv_Lt (b := 10) (by omega) (by omega) hd
  rw [sz] at hge hlt lt
  have hpos : 0 < nv 10 num.data.toList := by have : (0 : Int) < 10 ^ (num.size - 1) := Int.pow_pos (by omega); omega
  have hN := fun w => r11read_any num (b := 10) (Or.inl rfl) h0 hs hd w
  generalize nv 10 num.data.toList = T at *
  clear hd hl sz
  have hwr : IntKind.i64.wrap ((num.size : Int) + e) = (num.size : Int) + e := wrapI (by omega) (by omega)
  unfold numC at hb0 HB ⊢
  by_cases c1 : 400 < (num.size : Int) + e
  · have d1 : decide ((num.size : Int) + e > 400) = true := by simp; omega
    have d1' : decide (400 < (num.size : Int) + e) = true := by simp; omega
    have HQ : Hid (PatIs (ExIs T e) ng 0 70) := PatIs.over (ex_huge (L := num.size - 1) hge (by omega))
    clear hN lt hge hlt hpos HB
    go_enter Tryz.func28, Tryz.ntmps28
    go_wp2
    go_ret2
    exact ⟨_, _, rfl, HQ.out, U_zero, hb0⟩
  · have d1 : decide ((num.size : Int) + e > 400) = false := by simp; omega
    have d1' : decide (400 < (num.size : Int) + e) = false := by simp; omega
    by_cases c2 : (num.size : Int) + e < -400
    · have d2 : decide ((num.size : Int) + e < -400) = true := by simp; omega
      have HQ : Hid (PatIs (ExIs T e) ng (sgB ng) 0) := PatIs.tiny (ex_tiny hpos hlt (by omega))
      have hZ := fun w => r11zero_any ng w
      have HU : Hid (U (sgB ng)) := sgB_U ng
      generalize sgB ng = Z at *
      clear hN lt hge hlt hpos HB c1
      go_enter Tryz.func28, Tryz.ntmps28
      go_wp2_with fail
      refine (hZ _).mono ?_
      rintro r w1 ⟨rfl, rfl⟩
      clear hZ
      go_wp2
      go_ret2
      exact ⟨_, _, rfl, HQ.out, HU.out, hb0⟩
    · have d2 : decide ((num.size : Int) + e < -400) = false := by simp; omega
      clear hge hlt
      by_cases c3 : e < 0
      · have d3 : decide (e < 0) = true := by simp; omega
        obtain ⟨k, hk⟩ : ∃ k : Nat, -e = (k : Int) := ⟨(-e).toNat, by omega⟩
        have hTn := fun w => ten11_any k (by omega) w
        have hp10 : (0 : Int) < 10 ^ k := Int.pow_pos (by omega)
        have HX : Hid (∀ b E, RoundIs (scA T 0) (scB (10 ^ k) 0) false false 0 b E → ExIs T e b E) := fun b E q => by
          unfold ExIs exN exD
          rw [if_neg (by omega), if_neg (by omega), hk, Int.toNat_natCast]; exact q
        generalize (10 : Int) ^ k = P at *
        go_enter Tryz.func28, Tryz.ntmps28
        go_wp2_with fail
        refine (hN _).mono ?_
        rintro r w1 ⟨a, n, c, l, rfl, r1, m1, l1, hb1⟩
        have hB := hb0.trans (hb1.mono hb0.size)
        have B1 := HB.out.later hb1
        have z1 := B1.cell 1 (v := .bool ng) rfl
        have z3 := B1.cell 3 (v := .int .i64 e) rfl
        clear hN hb1
        go_wp2_with fail
        refine (hTn _).mono ?_
        rintro r w2 ⟨a2, n2, c2, l2, rfl, r2, m2, l2', hb2⟩
        have hB2 := hB.trans (hb2.mono hB.size)
        have B2 := B1.later hb2
        have z1 := B2.cell 1 (v := .bool ng) rfl
        have hR := r11near_any ng (r1.later hb2) r2 m1 m2 (by omega) (by omega) hp10
        clear hTn hb2 B1 B2 r1 r2
        go_wp2_with fail
        refine hR.mono ?_
        rintro r w3 ⟨v, E, rfl, hq, hu, hb3⟩
        have HQ : Hid (PatIs (ExIs T e) ng v E) := hq.imp HX.out
        have hB3 := hB2.trans (hb3.mono hB2.size)
        clear hR hq HX
        go_wp2
        go_ret2
        exact ⟨_, _, rfl, HQ.out, hu, hB3⟩
      · have d3 : decide (e < 0) = false := by simp; omega
        obtain ⟨k, rfl⟩ : ∃ k : Nat, e = (k : Int) := ⟨e.toNat, by omega⟩
        have hTn := fun w => ten11_any k (by omega) w
        have lp := lt.mul (lt_pow_w (b := 10) (by omega) (by omega) k)
        have HX : Hid (∀ b E, RoundIs (scA (T * 10 ^ k) 0) (scB 1 0) false false 0 b E → ExIs T (k : Int) b E) := fun b E q => by
          unfold ExIs exN exD
          rw [if_pos (by omega), if_pos (by omega), Int.toNat_natCast]; exact q
        generalize (10 : Int) ^ k = P at *
        go_enter Tryz.func28, Tryz.ntmps28
        go_wp2_with fail
        refine (hN _).mono ?_
        rintro r w1 ⟨a, n, c, l, rfl, r1, m1, l1, hb1⟩
        have hB := hb0.trans (hb1.mono hb0.size)
        have B1 := HB.out.later hb1
        have z1 := B1.cell 1 (v := .bool ng) rfl
        have z3 := B1.cell 3 (v := .int .i64 (k : Int)) rfl
        clear hN hb1
        go_wp2_with fail
        refine (hTn _).mono ?_
        rintro r w2 ⟨a2, n2, c2, l2, rfl, r2, m2, l2', hb2⟩
        have hB2 := hB.trans (hb2.mono hB.size)
        have B2 := B1.later hb2
        have z1 := B2.cell 1 (v := .bool ng) rfl
        have r1 := r1.later hb2
        have hM := refMul_any (c1 := c) (c2 := c2) r1.1 r2.1 m1.ws m2.ws (by have := r1.1.1; omega) (by have := r2.1.1; omega)
        obtain ⟨f1, f2⟩ := lp.fits (by omega)
        rw [m1.num, m2.num, f1, f2] at hM
        clear hTn hb2 B1 r1 r2 f1 f2
        go_wp2_with fail
        refine hM.mono ?_
        rintro r w3 ⟨v, rfl, ho, hb3⟩
        have hB3 := hB2.trans (hb3.mono hB2.size)
        have B3 := B2.later hb3
        have z1 := B3.cell 1 (v := .bool ng) rfl
        obtain ⟨a4, n4, c4, l4, rfl, r4, m4, E4⟩ := ho.opens lp (by omega)
        have hl4 : l4.length ≤ num.size + (k + 1) := by rw [E4.out]; exact lp.len
        have hb4 := alloc_below (w := w3) (.cells #[.int .u64 1] 25)
        have hB4 := hB3.trans (hb4.mono hB3.size)
        have hR := r11near_any ng (r4.later hb4) (rowC_one w3 1 25) m4 (Nm.one (by omega)) (by omega) (by simp) (by omega)
        clear hM hb3 hb4 B2 B3 r4 E4 ho lp
        generalize T * P = TP at *
        go_wp2_with fail
        refine hR.mono ?_
        rintro r w5 ⟨v, E, rfl, hq, hu, hb5⟩
        have HQ : Hid (PatIs (ExIs T (k : Int)) ng v E) := hq.imp HX.out
        have hB5 := hB4.trans (hb5.mono hB4.size)
        clear hR hq HX
        go_wp2
        go_ret2
        exact ⟨_, _, rfl, HQ.out, hu, hB5⟩
end Go.Proofs.YtjeoiffloghonaaGreatDoor

/- The document's Check of a numeral; its hexadecimal, its Bits. -/
namespace Go.Proofs.YtjeoiffloghonaaGreatDoor
open Go.ChangeShapes Go.WideShapes Go.ChangeAt Go.RowKit
open Na Ar Lx
set_option linter.unusedVariables false
set_option maxHeartbeats 6400000 in
set_option maxRecDepth 100000 in
theorem r9check_any (k : Int) (ng : Bool) (num : ByteArray) (e : Int) (den : ByteArray) (hn : num.size ≤ 800) (hd : den.size ≤ 800) (w : World) :
    Calls Tryz.prog 26 #[.agg (numC k ng num e den)] w fun r w' => r = .returned (.int .i64 (if rightB k num.data.toList e den.data.toList = true then 0 else 90)) ∧ Below w.heap.size w w' := by
  have hb0 : Below w.heap.size w (w.alloc (.cells (numC k ng num e den) 23)) := (Below.refl _ w).alloc (Nat.le_refl _) _
  have hK1 : ∀ w, Calls Tryz.prog 65 #[.string num, .bool false] w fun r w' => r = .returned (.bool (keptB digs9 num.data.toList)) ∧ w' = w := fun w => rplain_any num false hn w
  have hK2 : ∀ w, Calls Tryz.prog 65 #[.string num, .bool true] w fun r w' => r = .returned (.bool (keptB smal9 num.data.toList)) ∧ w' = w := fun w => rplain_any num true hn w
  have hK3 : ∀ w, Calls Tryz.prog 65 #[.string den, .bool false] w fun r w' => r = .returned (.bool (keptB digs9 den.data.toList)) ∧ w' = w := fun w => rplain_any den false hd w
  have hem : den.toList.isEmpty = den.data.toList.isEmpty := by rw [Lib.toList_data]
  have h35 : den.data.toList.isEmpty = true → keptB digs9 den.data.toList = true := fun h => by rw [List.isEmpty_iff.mp h]; rfl
  unfold rightB
  generalize keptB digs9 num.data.toList = a1 at *
  generalize keptB smal9 num.data.toList = a2 at *
  generalize keptB digs9 den.data.toList = a3 at *
  generalize den.data.toList.isEmpty = a5 at *
  unfold numC at hb0 ⊢
  clear hn hd
  by_cases k1 : k = 1
  · subst k1
    rw [if_pos rfl]
    clear hK2
    cases a1
    · clear h35
      go_enter Tryz.func26, Tryz.ntmps26
      go_wp2_with fail
      refine (hK1 _).mono ?_
      rintro r w1 ⟨rfl, rfl⟩
      clear hK1
      go_wp2
      go_ret
      exact ⟨rfl, hb0⟩
    · cases a3
      · have h5 : a5 = false := by cases a5 with | false => rfl | true => exact absurd (h35 rfl) (by decide)
        subst h5
        clear h35
        go_enter Tryz.func26, Tryz.ntmps26
        go_wp2_with fail
        refine (hK1 _).mono ?_
        rintro r w1 ⟨rfl, rfl⟩
        clear hK1
        go_wp2_with fail
        refine (hK3 _).mono ?_
        rintro r w1 ⟨rfl, rfl⟩
        clear hK3
        go_wp2
        go_ret
        exact ⟨rfl, hb0⟩
      · clear h35
        cases a5
        · skip
          go_enter Tryz.func26, Tryz.ntmps26
          go_wp2_with fail
          refine (hK1 _).mono ?_
          rintro r w1 ⟨rfl, rfl⟩
          clear hK1
          go_wp2_with fail
          refine (hK3 _).mono ?_
          rintro r w1 ⟨rfl, rfl⟩
          clear hK3
          go_wp2
          go_ret
          exact ⟨rfl, hb0⟩
        · by_cases g1 : -1073741824 ≤ e
          · have t1 : decide (e ≥ -1073741824) = true := by simp; omega
            have t1' : decide (-1073741824 ≤ e) = true := by simp; omega
            by_cases g2 : e ≤ 1073741824
            · have t2 : decide (e ≤ 1073741824) = true := by simp; omega
              have hw : withB e = true := by unfold withB; simp; omega
              rw [hw]
              clear hw
              go_enter Tryz.func26, Tryz.ntmps26
              go_wp2_with fail
              refine (hK1 _).mono ?_
              rintro r w1 ⟨rfl, rfl⟩
              clear hK1
              go_wp2_with fail
              refine (hK3 _).mono ?_
              rintro r w1 ⟨rfl, rfl⟩
              clear hK3
              go_wp2
              go_ret
              exact ⟨rfl, hb0⟩
            · have t2 : decide (e ≤ 1073741824) = false := by simp; omega
              have hw : withB e = false := by unfold withB; simp; omega
              rw [hw]
              clear hw
              go_enter Tryz.func26, Tryz.ntmps26
              go_wp2_with fail
              refine (hK1 _).mono ?_
              rintro r w1 ⟨rfl, rfl⟩
              clear hK1
              go_wp2_with fail
              refine (hK3 _).mono ?_
              rintro r w1 ⟨rfl, rfl⟩
              clear hK3
              go_wp2
              go_ret
              exact ⟨rfl, hb0⟩
          · have t1 : decide (e ≥ -1073741824) = false := by simp; omega
            have t1' : decide (-1073741824 ≤ e) = false := by simp; omega
            have hw : withB e = false := by unfold withB; simp; omega
            rw [hw]
            clear hw
            go_enter Tryz.func26, Tryz.ntmps26
            go_wp2_with fail
            refine (hK1 _).mono ?_
            rintro r w1 ⟨rfl, rfl⟩
            clear hK1
            go_wp2_with fail
            refine (hK3 _).mono ?_
            rintro r w1 ⟨rfl, rfl⟩
            clear hK3
            go_wp2
            go_ret
            exact ⟨rfl, hb0⟩
  · have t1 : (k == 1) = false := by simpa using k1
    rw [if_neg k1]
    by_cases k2 : k = 2
    · subst k2
      rw [if_pos rfl]
      clear hK1 t1 k1
      cases a2
      · clear h35
        go_enter Tryz.func26, Tryz.ntmps26
        go_wp2_with fail
        refine (hK2 _).mono ?_
        rintro r w1 ⟨rfl, rfl⟩
        clear hK2
        go_wp2
        go_ret
        exact ⟨rfl, hb0⟩
      · cases a3
        · have h5 : a5 = false := by cases a5 with | false => rfl | true => exact absurd (h35 rfl) (by decide)
          subst h5
          clear h35
          go_enter Tryz.func26, Tryz.ntmps26
          go_wp2_with fail
          refine (hK2 _).mono ?_
          rintro r w1 ⟨rfl, rfl⟩
          clear hK2
          go_wp2_with fail
          refine (hK3 _).mono ?_
          rintro r w1 ⟨rfl, rfl⟩
          clear hK3
          go_wp2
          go_ret
          exact ⟨rfl, hb0⟩
        · clear h35
          cases a5
          · skip
            go_enter Tryz.func26, Tryz.ntmps26
            go_wp2_with fail
            refine (hK2 _).mono ?_
            rintro r w1 ⟨rfl, rfl⟩
            clear hK2
            go_wp2_with fail
            refine (hK3 _).mono ?_
            rintro r w1 ⟨rfl, rfl⟩
            clear hK3
            go_wp2
            go_ret
            exact ⟨rfl, hb0⟩
          · by_cases g1 : -1073741824 ≤ e
            · have t1 : decide (e ≥ -1073741824) = true := by simp; omega
              have t1' : decide (-1073741824 ≤ e) = true := by simp; omega
              by_cases g2 : e ≤ 1073741824
              · have t2 : decide (e ≤ 1073741824) = true := by simp; omega
                have hw : withB e = true := by unfold withB; simp; omega
                rw [hw]
                clear hw
                go_enter Tryz.func26, Tryz.ntmps26
                go_wp2_with fail
                refine (hK2 _).mono ?_
                rintro r w1 ⟨rfl, rfl⟩
                clear hK2
                go_wp2_with fail
                refine (hK3 _).mono ?_
                rintro r w1 ⟨rfl, rfl⟩
                clear hK3
                go_wp2
                go_ret
                exact ⟨rfl, hb0⟩
              · have t2 : decide (e ≤ 1073741824) = false := by simp; omega
                have hw : withB e = false := by unfold withB; simp; omega
                rw [hw]
                clear hw
                go_enter Tryz.func26, Tryz.ntmps26
                go_wp2_with fail
                refine (hK2 _).mono ?_
                rintro r w1 ⟨rfl, rfl⟩
                clear hK2
                go_wp2_with fail
                refine (hK3 _).mono ?_
                rintro r w1 ⟨rfl, rfl⟩
                clear hK3
                go_wp2
                go_ret
                exact ⟨rfl, hb0⟩
            · have t1 : decide (e ≥ -1073741824) = false := by simp; omega
              have t1' : decide (-1073741824 ≤ e) = false := by simp; omega
              have hw : withB e = false := by unfold withB; simp; omega
              rw [hw]
              clear hw
              go_enter Tryz.func26, Tryz.ntmps26
              go_wp2_with fail
              refine (hK2 _).mono ?_
              rintro r w1 ⟨rfl, rfl⟩
              clear hK2
              go_wp2_with fail
              refine (hK3 _).mono ?_
              rintro r w1 ⟨rfl, rfl⟩
              clear hK3
              go_wp2
              go_ret
              exact ⟨rfl, hb0⟩
    · have t2 : (k == 2) = false := by simpa using k2
      rw [if_neg k2]
      clear hK2 h35
      by_cases k3 : k = 3
      · subst k3
        rw [if_pos rfl]
        clear k1 k2 t1 t2
        cases a1
        · skip
          go_enter Tryz.func26, Tryz.ntmps26
          go_wp2_with fail
          refine (hK1 _).mono ?_
          rintro r w1 ⟨rfl, rfl⟩
          clear hK1
          go_wp2
          go_ret
          exact ⟨rfl, hb0⟩
        · cases a3
          · skip
            go_enter Tryz.func26, Tryz.ntmps26
            go_wp2_with fail
            refine (hK1 _).mono ?_
            rintro r w1 ⟨rfl, rfl⟩
            clear hK1
            go_wp2_with fail
            refine (hK3 _).mono ?_
            rintro r w1 ⟨rfl, rfl⟩
            clear hK3
            go_wp2
            go_ret
            exact ⟨rfl, hb0⟩
          · by_cases g : e = 0
            · subst g
              go_enter Tryz.func26, Tryz.ntmps26
              go_wp2_with fail
              refine (hK1 _).mono ?_
              rintro r w1 ⟨rfl, rfl⟩
              clear hK1
              go_wp2_with fail
              refine (hK3 _).mono ?_
              rintro r w1 ⟨rfl, rfl⟩
              clear hK3
              go_wp2
              go_ret
              exact ⟨rfl, hb0⟩
            · have t3 : (e == 0) = false := by simpa using g
              have t4 : decide (e = 0) = false := by simpa using g
              rw [t4]
              clear t4 g
              go_enter Tryz.func26, Tryz.ntmps26
              go_wp2_with fail
              refine (hK1 _).mono ?_
              rintro r w1 ⟨rfl, rfl⟩
              clear hK1
              go_wp2_with fail
              refine (hK3 _).mono ?_
              rintro r w1 ⟨rfl, rfl⟩
              clear hK3
              go_wp2
              go_ret
              exact ⟨rfl, hb0⟩
      · have t3 : (k == 3) = false := by simpa using k3
        rw [if_neg k3]
        cases a1
        · skip
          clear k1 k2 k3
          go_enter Tryz.func26, Tryz.ntmps26
          go_wp2_with fail
          refine (hK1 _).mono ?_
          rintro r w1 ⟨rfl, rfl⟩
          clear hK1
          go_wp2
          go_ret
          exact ⟨rfl, hb0⟩
        · skip
          clear k1 k2 k3
          go_enter Tryz.func26, Tryz.ntmps26
          go_wp2_with fail
          refine (hK1 _).mono ?_
          rintro r w1 ⟨rfl, rfl⟩
          clear hK1
          go_wp2_with fail
          refine (hK3 _).mono ?_
          rintro r w1 ⟨rfl, rfl⟩
          clear hK3
          go_wp2
          go_ret
          exact ⟨rfl, hb0⟩
theorem bits_at {w0 w1 : World} {a : Option Addr} {n c : Nat} {l : List Int} {T : Int} (h : Below w0.heap.size w0 w1) (r1 : RowC w0 a n c l) (m1 : Nm l T) (hl : l.length ≤ 800) :
    Calls Tryz.prog 68 #[.slice a n c] w1 fun r w' => r = .returned (.int .i64 (bitsN T)) ∧ Below w0.heap.size w0 w' := by
  have := refBits_any (c1 := c) (r1.later h).1 m1.ws (by have := r1.1.1; omega)
  rw [m1.num] at this
  refine this.mono ?_
  rintro r w' ⟨rfl, hb⟩
  exact ⟨rfl, h.trans (hb.mono h.size)⟩
set_option maxHeartbeats 3200000 in
set_option maxRecDepth 100000 in
theorem r11hex_any (ng : Bool) (num : ByteArray) (e : Int) (den : ByteArray) (h0 : 0 < num.size) (hs : num.size ≤ 800) (hd : okB 16 num.data.toList) (hl : lead num.data.toList) (e0 : -1073741824 ≤ e) (e1 : e ≤ 1073741824) (w : World) :
    Calls Tryz.prog 29 #[.agg (numC 2 ng num e den)] w fun r w' => ∃ b E, r = .returned (.tuple #[.int .u64 b, .int .i64 E]) ∧ PatIs (RoundIs (scA (nv 16 num.data.toList) e) (scB 1 e) false false 0) ng b E ∧ U b ∧ Below w.heap.size w w' := by
  have sz : num.data.toList.length = num.size := (Lib.size_eq num).symm
  have hb0 : Below w.heap.size w (w.alloc (.cells (numC 2 ng num e den) 23)) := (Below.refl _ w).alloc (Nat.le_refl _) _
  have HB : Hid (Bk (w.alloc (.cells (numC 2 ng num e den) 23)) w.heap.size 23 (numC 2 ng num e den)) := Bk.new _ _ _
  have hge := hl.ge (b := 16) (by omega)
  have lt := nv_Lt (b := 16) (by omega) (by omega) hd
  have hpos : 0 < nv 16 num.data.toList := by have : (0 : Int) < 16 ^ (num.data.toList.length - 1) := Int.pow_pos (by omega); omega
  have hN := fun w => r11read_any num (b := 16) (Or.inr rfl) h0 hs hd w
  generalize nv 16 num.data.toList = T at *
  clear hd hl hge
  obtain ⟨L1, L2, L3⟩ := bits_char hpos
  have L4 := bits_le lt.1 lt.2
  have hSB : 0 < scB 1 e := scB_pos (by omega)
  have hBt := fun {w0 w1 : World} {a : Option Addr} {n c : Nat} {l : List Int} (h : Below w0.heap.size w0 w1) (r1 : RowC w0 a n c l) (m1 : Nm l T) (hl : l.length ≤ 800) => bits_at h r1 m1 hl
  rw [sz] at L4
  have HH : Hid (1100 < bitsN T + e → RoundIs (scA T e) (scB 1 e) false false 0 0 70) := fun h => (round_huge hSB (cut_huge L2 L1 (by omega))).1 (Or.inl rfl)
  have HT : Hid (bitsN T + e < -1200 → RoundIs (scA T e) (scB 1 e) false false 0 0 0) := fun h => by
    obtain ⟨a1, a2⟩ := cut_tiny (x := e) hpos L3 (by omega) (by omega)
    have := (round_tiny (mode := 0) (more := false) (neg := false) hSB (Or.inl a1) (Int.le_of_lt a1) a2).2 (Or.inl rfl)
    exact this
  generalize bitsN T = L at *
  have hwr : IntKind.i64.wrap (L + e) = L + e := wrapI (by omega) (by omega)
  clear L2 L3 sz lt
  unfold numC at hb0 HB ⊢
  have hcl : ∀ w1, Below (w.alloc (.cells #[.int .i64 2, .bool ng, .string num, .int .i64 e, .string den] 23)).heap.size (w.alloc (.cells #[.int .i64 2, .bool ng, .string num, .int .i64 e, .string den] 23)) w1 → w1.cell? ⟨w.heap.size, 1, none⟩ = some (.bool ng) ∧ w1.cell? ⟨w.heap.size, 3, none⟩ = some (.int .i64 e) := fun w1 h => ⟨(HB.out.later h).cell 1 rfl, (HB.out.later h).cell 3 rfl⟩
  by_cases c1 : 1100 < L + e
  · have d1 : decide (L + e > 1100) = true := by simp; omega
    have d1' : decide (1100 < L + e) = true := by simp; omega
    have HQ : Hid (PatIs (RoundIs (scA T e) (scB 1 e) false false 0) ng 0 70) := PatIs.over (HH.out c1)
    clear HH HT
    go_enter Tryz.func29, Tryz.ntmps29
    go_wp2_with fail
    refine (hN _).mono ?_
    rintro r w1 ⟨a, n, c, l, rfl, r1, m1, l1, hb1⟩
    obtain ⟨z1, z3⟩ := hcl w1 hb1
    clear hN
    go_wp2_with fail
    go_region_held3 (fun w' => w'.cell? ⟨w.heap.size, 3, none⟩ = some (.int .i64 e)) (go_keep) (first | (go_at_call 68; refine (hBt (w0 := w1) (by first | exact Below.refl _ _ | exact below_drewN (Below.refl _ _) _) r1 m1 (by omega)).mono ?_; rintro r wA ⟨rfl, hbA⟩; have hBA := hb1.trans (hbA.mono hb1.size); obtain ⟨y1, y3⟩ := hcl wA hBA))
    have hB9 := hb0.trans (hBA.mono hb0.size)
    go_wp2
    go_ret2
    exact ⟨_, _, rfl, HQ.out, U_zero, hB9⟩
  · have d1 : decide (L + e > 1100) = false := by simp; omega
    have d1' : decide (1100 < L + e) = false := by simp; omega
    by_cases c2 : L + e < -1200
    · have d2 : decide (L + e < -1200) = true := by simp; omega
      have HQ : Hid (PatIs (RoundIs (scA T e) (scB 1 e) false false 0) ng (sgB ng) 0) := PatIs.tiny (HT.out c2)
      have hZ := fun w => r11zero_any ng w
      have HU : Hid (U (sgB ng)) := sgB_U ng
      generalize sgB ng = Z at *
      clear HH HT
      go_enter Tryz.func29, Tryz.ntmps29
      go_wp2_with fail
      refine (hN _).mono ?_
      rintro r w1 ⟨a, n, c, l, rfl, r1, m1, l1, hb1⟩
      obtain ⟨z1, z3⟩ := hcl w1 hb1
      clear hN
      go_wp2_with fail
      go_region_held3 (fun w' => w'.cell? ⟨w.heap.size, 3, none⟩ = some (.int .i64 e)) (go_keep) (first | (go_at_call 68; refine (hBt (w0 := w1) (by first | exact Below.refl _ _ | exact below_drewN (Below.refl _ _) _) r1 m1 (by omega)).mono ?_; rintro r wA ⟨rfl, hbA⟩; have hBA := hb1.trans (hbA.mono hb1.size); obtain ⟨y1, y3⟩ := hcl wA hBA))
      have hB9 := hb0.trans (hBA.mono hb0.size)
      go_wp2_with fail
      refine (hZ _).mono ?_
      rintro r wB ⟨rfl, rfl⟩
      clear hZ
      go_wp2
      go_ret2
      exact ⟨_, _, rfl, HQ.out, HU.out, hB9⟩
    · have d2 : decide (L + e < -1200) = false := by simp; omega
      clear HH HT
      go_enter Tryz.func29, Tryz.ntmps29
      go_wp2_with fail
      refine (hN _).mono ?_
      rintro r w1 ⟨a, n, c, l, rfl, r1, m1, l1, hb1⟩
      obtain ⟨z1, z3⟩ := hcl w1 hb1
      clear hN
      go_wp2_with fail
      go_region_held3 (fun w' => w'.cell? ⟨w.heap.size, 3, none⟩ = some (.int .i64 e)) (go_keep) (first | (go_at_call 68; refine (hBt (w0 := w1) (by first | exact Below.refl _ _ | exact below_drewN (Below.refl _ _) _) r1 m1 (by omega)).mono ?_; rintro r wA ⟨rfl, hbA⟩; have hBA := hb1.trans (hbA.mono hb1.size); obtain ⟨y1, y3⟩ := hcl wA hBA))
      have hB9 := hb0.trans (hBA.mono hb0.size)
      have hS := r7Scaled_any (r1.later hbA) m1.ws (by have := r1.1.1; omega) (x := e) (mode := 0) (by omega) (by omega) (neg := ng) (more := false) (by omega) (by omega)
      rw [m1.num] at hS
      go_wp2_with fail
      refine hS.mono ?_
      rintro r wB ⟨v, E, rfl, hR, hu, hbB⟩
      have hB8 := hB9.trans (hbB.mono hB9.size)
      have hp := round_pat hR
      clear hS r1 m1
      rcases round_code hR with rfl | ⟨rfl, rfl⟩
      · have HP : Hid (PatIs (RoundIs (scA T e) (scB 1 e) false false 0) ng v 0) := hp
        clear hR hp
        go_wp2
        go_ret2
        exact ⟨_, _, rfl, HP.out, hu, hB8⟩
      · have HP : Hid (PatIs (RoundIs (scA T e) (scB 1 e) false false 0) ng 0 70) := hp
        clear hR hp
        go_wp2
        go_ret2
        exact ⟨_, _, rfl, HP.out, hu, hB8⟩
end Go.Proofs.YtjeoiffloghonaaGreatDoor

/- The document's Bits; AtofBits. -/
namespace Go.Proofs.YtjeoiffloghonaaGreatDoor
open Go.ChangeShapes Go.WideShapes Go.ChangeAt Go.RowKit
open Na Ar Lx
set_option linter.unusedVariables false
theorem r11read_at (s : ByteArray) (h0 : 0 < s.size) (hs : s.size ≤ 800) (hd : okB 10 s.data.toList) {w0 w1 : World} (h : Below w0.heap.size w0 w1) :
    Calls Tryz.prog 31 #[.string s, .int .i64 10] w1 fun r w' => ∃ a n c l, r = .returned (.slice a n c) ∧ RowC w' a n c l ∧ Nm l (nv 10 s.data.toList) ∧ l.length ≤ 800 ∧ Below w0.heap.size w0 w' ∧ Below w1.heap.size w1 w' := by
  refine (r11read_any s (b := 10) (Or.inl rfl) h0 hs hd w1).mono ?_
  rintro r w' ⟨a, n, c, l, rfl, q1, q2, q3, q4⟩
  exact ⟨a, n, c, l, rfl, q1, q2, q3, h.trans (q4.mono h.size), q4⟩
set_option maxHeartbeats 6400000 in
set_option maxRecDepth 100000 in
theorem r11bits_any (k : Int) (ng : Bool) (num : ByteArray) (e : Int) (den : ByteArray) (hn : num.size ≤ 800) (hd : den.size ≤ 800) (w : World) :
    Calls Tryz.prog 10 #[.agg (numC k ng num e den)] w fun r w' => ∃ b E, r = .returned (.tuple #[.int .u64 b, .int .i64 E]) ∧ BitsIs k ng num.data.toList e den.data.toList b E ∧ U b ∧ Below w.heap.size w w' := by
  have sz : num.size = num.data.toList.length := Lib.size_eq num
  have sd : den.size = den.data.toList.length := Lib.size_eq den
  have hb0 : Below w.heap.size w (w.alloc (.cells (numC k ng num e den) 23)) := (Below.refl _ w).alloc (Nat.le_refl _) _
  have HB : Hid (Bk (w.alloc (.cells (numC k ng num e den) 23)) w.heap.size 23 (numC k ng num e den)) := Bk.new _ _ _
  have hcl : ∀ w1, Below (w.alloc (.cells (numC k ng num e den) 23)).heap.size (w.alloc (.cells (numC k ng num e den) 23)) w1 → w1.cell? ⟨w.heap.size, 0, none⟩ = some (.int .i64 k) ∧ w1.cell? ⟨w.heap.size, 1, none⟩ = some (.bool ng) ∧ w1.cell? ⟨w.heap.size, 2, none⟩ = some (.string num) ∧ w1.cell? ⟨w.heap.size, 3, none⟩ = some (.int .i64 e) ∧ w1.cell? ⟨w.heap.size, 4, none⟩ = some (.string den) := fun w1 h => ⟨(HB.out.later h).cell 0 rfl, (HB.out.later h).cell 1 rfl, (HB.out.later h).cell 2 rfl, (HB.out.later h).cell 3 rfl, (HB.out.later h).cell 4 rfl⟩
  have hZ := fun w => r11zero_any ng w
  have HU : Hid (U (sgB ng)) := sgB_U ng
  have hem : num.toList.isEmpty = num.data.toList.isEmpty := by rw [Lib.toList_data]
  have hed : den.toList.isEmpty = den.data.toList.isEmpty := by rw [Lib.toList_data]
  clear HB
  by_cases hr : rightB k num.data.toList e den.data.toList = true
  · have hC : ∀ w, Calls Tryz.prog 26 #[.agg (numC k ng num e den)] w fun r w' => r = .returned (.int .i64 0) ∧ Below w.heap.size w w' := fun w => by
      have := r9check_any k ng num e den hn hd w
      rw [hr, if_pos rfl] at this
      exact this
    rcases right_kinds hr with ⟨rfl, q1, q2, q3⟩ | ⟨rfl, q1, q2, q3⟩ | ⟨rfl, q1, q2, q3⟩
    · have hE : refE 1 num.data.toList e den.data.toList = 0 := by unfold refE; rw [hr, if_pos rfl, if_neg (fun q => absurd q.1 (by decide))]
      by_cases hz : num.data.toList = []
      · clear q1 q2 q3 hed
        have HQ : Hid (BitsIs _ ng num.data.toList e den.data.toList (sgB ng) 0) := Or.inr (Or.inl ⟨hE, hz, rfl, rfl⟩)
        rw [hz] at hem
        have hem' : num.toList.isEmpty = true := hem
        clear hem hE hr
        generalize sgB ng = Z at *
        unfold numC at hC hcl hb0 ⊢
        go_enter Tryz.func10, Tryz.ntmps10
        go_wp2_with fail
        refine (hC _).mono ?_
        rintro r w1 ⟨rfl, hb1⟩
        obtain ⟨z0, z1, z2, z3, z4⟩ := hcl w1 hb1
        have hB1 := hb0.trans (hb1.mono hb0.size)
        clear hC
        go_wp2_with fail
        refine (hZ _).mono ?_
        rintro r w2 ⟨rfl, rfl⟩
        clear hZ
        go_wp2
        go_ret2
        exact ⟨_, _, rfl, HQ.out, HU.out, hB1⟩
      · obtain ⟨k1, k2, k3, k4⟩ := kept_dec q1 hz
        obtain ⟨x0, x1⟩ := with_bd q3
        have k4' : 0 < num.size := by omega
        clear q1 q2 q3 hed
        have hem' : num.toList.isEmpty = false := by rw [hem]; cases hl : num.data.toList with | nil => exact absurd hl hz | cons c r => rfl
        have HV : Hid (∀ b E, PatIs (ExIs (nv 10 num.data.toList) e) ng b E → BitsIs 1 ng num.data.toList e den.data.toList b E) := fun b E q => Or.inr (Or.inr ⟨hE, hz, q.imp (fun m F h => by unfold ValIs; rw [if_pos rfl]; exact h)⟩)
        have hD := fun w => r11decimal_any ng num e den k4' (by omega) (okB_ten k3) k2 x0 x1 w
        clear hem hE hr hz hZ HU
        unfold numC at hC hcl hb0 hD ⊢
        go_enter Tryz.func10, Tryz.ntmps10
        go_wp2_with fail
        refine (hC _).mono ?_
        rintro r w1 ⟨rfl, hb1⟩
        obtain ⟨z0, z1, z2, z3, z4⟩ := hcl w1 hb1
        have hB1 := hb0.trans (hb1.mono hb0.size)
        clear hC
        go_wp2_with fail
        refine (hD _).mono ?_
        rintro r w2 ⟨b, E, rfl, hq, hu, hb2⟩
        have HQ : Hid (BitsIs 1 ng num.data.toList e den.data.toList b E) := HV.out b E hq
        have hB2 := hB1.trans (hb2.mono hB1.size)
        clear hD hq HV
        go_wp2
        go_ret2
        exact ⟨_, _, rfl, HQ.out, hu, hB2⟩
    · have hE : refE 2 num.data.toList e den.data.toList = 0 := by unfold refE; rw [hr, if_pos rfl, if_neg (fun q => absurd q.1 (by decide))]
      by_cases hz : num.data.toList = []
      · clear q1 q2 q3 hed
        have HQ : Hid (BitsIs _ ng num.data.toList e den.data.toList (sgB ng) 0) := Or.inr (Or.inl ⟨hE, hz, rfl, rfl⟩)
        rw [hz] at hem
        have hem' : num.toList.isEmpty = true := hem
        clear hem hE hr
        generalize sgB ng = Z at *
        unfold numC at hC hcl hb0 ⊢
        go_enter Tryz.func10, Tryz.ntmps10
        go_wp2_with fail
        refine (hC _).mono ?_
        rintro r w1 ⟨rfl, hb1⟩
        obtain ⟨z0, z1, z2, z3, z4⟩ := hcl w1 hb1
        have hB1 := hb0.trans (hb1.mono hb0.size)
        clear hC
        go_wp2_with fail
        refine (hZ _).mono ?_
        rintro r w2 ⟨rfl, rfl⟩
        clear hZ
        go_wp2
        go_ret2
        exact ⟨_, _, rfl, HQ.out, HU.out, hB1⟩
      · obtain ⟨k1, k2, k3, k4⟩ := kept_hex q1 hz
        obtain ⟨x0, x1⟩ := with_bd q3
        have k4' : 0 < num.size := by omega
        clear q1 q2 q3 hed
        have hem' : num.toList.isEmpty = false := by rw [hem]; cases hl : num.data.toList with | nil => exact absurd hl hz | cons c r => rfl
        have HV : Hid (∀ b E, PatIs (RoundIs (scA (nv 16 num.data.toList) e) (scB 1 e) false false 0) ng b E → BitsIs 2 ng num.data.toList e den.data.toList b E) := fun b E q => Or.inr (Or.inr ⟨hE, hz, q.imp (fun m F h => by unfold ValIs; rw [if_neg (by decide), if_pos rfl]; exact h)⟩)
        have hD := fun w => r11hex_any ng num e den k4' (by omega) k3 k2 x0 x1 w
        clear hem hE hr hz hZ HU
        unfold numC at hC hcl hb0 hD ⊢
        go_enter Tryz.func10, Tryz.ntmps10
        go_wp2_with fail
        refine (hC _).mono ?_
        rintro r w1 ⟨rfl, hb1⟩
        obtain ⟨z0, z1, z2, z3, z4⟩ := hcl w1 hb1
        have hB1 := hb0.trans (hb1.mono hb0.size)
        clear hC
        go_wp2_with fail
        refine (hD _).mono ?_
        rintro r w2 ⟨b, E, rfl, hq, hu, hb2⟩
        have HQ : Hid (BitsIs 2 ng num.data.toList e den.data.toList b E) := HV.out b E hq
        have hB2 := hB1.trans (hb2.mono hB1.size)
        clear hD hq HV
        go_wp2
        go_ret2
        exact ⟨_, _, rfl, HQ.out, hu, hB2⟩
    · by_cases hdn : den.data.toList = []
      · have hE : refE 3 num.data.toList e den.data.toList = 50 := by unfold refE; rw [hr, if_pos rfl, if_pos ⟨rfl, hdn⟩]
        have HQ : Hid (BitsIs 3 ng num.data.toList e den.data.toList 0 50) := Or.inl ⟨by rw [hE]; decide, rfl, hE.symm⟩
        rw [hdn] at hed
        have hed' : den.toList.isEmpty = true := hed
        clear hed hem hE hr q1 q2 q3 hZ HU
        unfold numC at hC hcl hb0 ⊢
        go_enter Tryz.func10, Tryz.ntmps10
        go_wp2_with fail
        refine (hC _).mono ?_
        rintro r w1 ⟨rfl, hb1⟩
        obtain ⟨z0, z1, z2, z3, z4⟩ := hcl w1 hb1
        have hB1 := hb0.trans (hb1.mono hb0.size)
        clear hC
        go_wp2
        go_ret2
        exact ⟨_, _, rfl, HQ.out, U_zero, hB1⟩
      · have hE : refE 3 num.data.toList e den.data.toList = 0 := by unfold refE; rw [hr, if_pos rfl, if_neg (fun q => hdn q.2)]
        have hed' : den.toList.isEmpty = false := by rw [hed]; cases hl : den.data.toList with | nil => exact absurd hl hdn | cons c r => rfl
        clear hed
        by_cases hz : num.data.toList = []
        · clear q1 q2 q3
          have HQ : Hid (BitsIs _ ng num.data.toList e den.data.toList (sgB ng) 0) := Or.inr (Or.inl ⟨hE, hz, rfl, rfl⟩)
          rw [hz] at hem
          have hem' : num.toList.isEmpty = true := hem
          clear hem hE hr
          generalize sgB ng = Z at *
          unfold numC at hC hcl hb0 ⊢
          go_enter Tryz.func10, Tryz.ntmps10
          go_wp2_with fail
          refine (hC _).mono ?_
          rintro r w1 ⟨rfl, hb1⟩
          obtain ⟨z0, z1, z2, z3, z4⟩ := hcl w1 hb1
          have hB1 := hb0.trans (hb1.mono hb0.size)
          clear hC
          go_wp2_with fail
          refine (hZ _).mono ?_
          rintro r w2 ⟨rfl, rfl⟩
          clear hZ
          go_wp2
          go_ret2
          exact ⟨_, _, rfl, HQ.out, HU.out, hB1⟩
        · obtain ⟨k1, k2, k3, k4⟩ := kept_dec q1 hz
          obtain ⟨l1, l2, l3, l4⟩ := kept_dec q2 hdn
          have kp := val_pos_den q2 hdn
          have hem' : num.toList.isEmpty = false := by rw [hem]; cases hl : num.data.toList with | nil => exact absurd hl hz | cons c r => rfl
          have HV : Hid (∀ b E, PatIs (RoundIs (scA (nv 10 num.data.toList) 0) (scB (nv 10 den.data.toList) 0) false false 0) ng b E → BitsIs 3 ng num.data.toList e den.data.toList b E) := fun b E q => Or.inr (Or.inr ⟨hE, hz, q.imp (fun m F h => by unfold ValIs; rw [if_neg (by decide), if_neg (by decide)]; exact h)⟩)
          have hN := fun {w0 w1 : World} (h : Below w0.heap.size w0 w1) => r11read_at num (by omega) (by omega) (okB_ten k3) h
          have hM := fun {w0 w1 : World} (h : Below w0.heap.size w0 w1) => r11read_at den (by omega) (by omega) (okB_ten l3) h
          generalize nv 10 num.data.toList = T at *
          generalize nv 10 den.data.toList = D at *
          have hq9 := fun {w : World} {a b : Option Addr} {n m c1 c2 : Nat} {xs ys : List Int} (hr1 : RowC w a n c1 xs) (hr2 : RowC w b m c2 ys) (m1 : Nm xs T) (m2 : Nm ys D) (l1 : xs.length ≤ 100000) (l2 : ys.length ≤ 100000) => r11near_any ng hr1 hr2 m1 m2 l1 l2 kp
          clear hem hE hr hz hdn hZ HU q1 q2 q3 k1 k2 k3 k4 l1 l2 l3 l4 kp
          unfold numC at hC hcl hb0 ⊢
          go_enter Tryz.func10, Tryz.ntmps10
          go_wp2_with fail
          refine (hC _).mono ?_
          rintro r w1 ⟨rfl, hb1⟩
          obtain ⟨z0, z1, z2, z3, z4⟩ := hcl w1 hb1
          have hB1 := hb0.trans (hb1.mono hb0.size)
          clear hC
          go_wp2_with fail
          go_region_held3 (fun w' => w'.cell? ⟨w.heap.size, 1, none⟩ = some (.bool ng) ∧ w'.cell? ⟨w.heap.size, 2, none⟩ = some (.string num) ∧ w'.cell? ⟨w.heap.size, 4, none⟩ = some (.string den)) (go_keep) (first | (go_at_call_of 31 num; refine (hN (w0 := w1) (by first | exact Below.refl _ _ | exact below_drewN (Below.refl _ _) _)).mono ?_; rintro r wA ⟨a, n, c, l, rfl, hr, hm, hl, hBA, hbA⟩; obtain ⟨y0, y1, y2, y3, y4⟩ := hcl wA (hb1.trans (hBA.mono hb1.size))) | (go_at_call 31; refine (hM (w0 := w1) (by first | exact hBA | exact below_drewN hBA _)).mono ?_; rintro r wB ⟨a2, n2, c2, l2, rfl, hr2, hm2, hl2, hBB, hbB⟩; have hr1 := hr.later (by first | exact hbB | exact (below_drewN (Below.refl _ wA) _).trans (hbB.mono (Nat.le_refl _))); obtain ⟨y0, y1, y2, y3, y4⟩ := hcl wB (hb1.trans (hBB.mono hb1.size)); have hS := hq9 hr1 hr2 hm hm2 (by omega) (by omega)) | (go_at_call 30; refine hS.mono ?_; rintro r wC ⟨b, E, rfl, hR, ub, hbC⟩; have hBC := hBB.trans (hbC.mono hBB.size); obtain ⟨y0, y1, y2, y3, y4⟩ := hcl wC (hb1.trans (hBC.mono hb1.size)); have HR : Hid (BitsIs 3 ng num.data.toList e den.data.toList b E) := HV.out b E hR; clear hR))
          have hB9 := hB1.trans (hBC.mono hB1.size)
          go_wp2
          go_ret2
          exact ⟨_, _, rfl, HR.out, ub, hB9⟩
  · have hC : ∀ w, Calls Tryz.prog 26 #[.agg (numC k ng num e den)] w fun r w' => r = .returned (.int .i64 90) ∧ Below w.heap.size w w' := fun w => by
      have := r9check_any k ng num e den hn hd w
      rw [if_neg hr] at this
      exact this
    have hE : refE k num.data.toList e den.data.toList = 110 := by unfold refE; rw [if_neg hr]
    have HQ : Hid (BitsIs k ng num.data.toList e den.data.toList 0 110) := Or.inl ⟨by rw [hE]; decide, rfl, hE.symm⟩
    clear hed hem hE hr hZ HU
    unfold numC at hC hcl hb0 ⊢
    go_enter Tryz.func10, Tryz.ntmps10
    go_wp2_with fail
    refine (hC _).mono ?_
    rintro r w1 ⟨rfl, hb1⟩
    obtain ⟨z0, z1, z2, z3, z4⟩ := hcl w1 hb1
    have hB1 := hb0.trans (hb1.mono hb0.size)
    clear hC
    go_wp2
    go_ret2
    exact ⟨_, _, rfl, HQ.out, U_zero, hB1⟩
theorem cut11_any (s : ByteArray) (w : World) :
    Calls Tryz.prog 9 #[.string s, .int .i64 800] w fun e w' => ∃ t : ByteArray, e = .returned (.string t) ∧ t.size ≤ 800 ∧ w' = w := by
  by_cases h : 800 < s.size
  · have d : decide ((s.size : Int) > 800) = true := by simp; omega
    have d' : decide ((800 : Int) < (s.size : Int)) = true := by simp; omega
    have hl : (800 : Int) ≤ (s.size : Int) := by omega
    go_enter Tryz.func9, Tryz.ntmps9
    go_wp2
    go_ret
    refine ⟨_, rfl, ?_, rfl⟩
    rw [ext_str, str_size, List.length_take]; omega
  · have d : decide ((s.size : Int) > 800) = false := by simp; omega
    have d' : decide ((800 : Int) < (s.size : Int)) = false := by simp; omega
    go_enter Tryz.func9, Tryz.ntmps9
    go_wp2
    go_ret
    exact ⟨_, rfl, by omega, rfl⟩
set_option maxHeartbeats 3200000 in
set_option maxRecDepth 100000 in
theorem bits_walk {kd e : Int} {ng0 : Bool} {nu0 de0 : ByteArray} (ka : -9223372036854775808 ≤ kd) (kb : kd ≤ 9223372036854775807) (ea : -9223372036854775808 ≤ e) (eb : e ≤ 9223372036854775807) (hn : nu0.size ≤ 9223372036854775807) (hd : de0.size ≤ 9223372036854775807) {w : World} (hT : TenVar w) (hG : GrVar w) :
    Calls Tryz.prog 3 #[.agg (numC kd ng0 nu0 e de0)] w fun r w' => r = .returned (.bool true) ∧ Below w.heap.size w w' := by
  obtain ⟨ng, hng⟩ : ∃ ng, ng = ng0 := ⟨_, rfl⟩
  subst hng
  have hC1 := fun w => cut11_any nu0 w
  have hC2 := fun w => cut11_any de0 w
  have B0 := Bk.new w 23 (numC kd ng nu0 e de0)
  have hb0 : Below w.heap.size w (w.alloc (.cells (numC kd ng nu0 e de0) 23)) := (Below.refl _ w).alloc (Nat.le_refl _) _
  obtain ⟨w0, hw0⟩ : ∃ w0, w0 = w.alloc (.cells (numC kd ng nu0 e de0) 23) := ⟨_, rfl⟩
  rw [← hw0] at B0 hb0
  obtain ⟨g, hg⟩ : ∃ g, g = w.heap.size := ⟨_, rfl⟩
  rw [← hg] at B0
  have HG : Hid (w.heap.size = g) := hg.symm
  unfold numC at hw0 ⊢
  go_enter Tryz.func3, Tryz.ntmps3
  go_wp2_with fail
  rw [← hw0, ← hg]
  clear hw0 hg
  refine (hC1 _).mono ?_
  rintro r w1 ⟨nu, rfl, sN, rfl⟩
  have y2 := B0.cell 2 (v := .string nu0) rfl
  have y4 := B0.cell 4 (v := .string de0) rfl
  have f2 := B0.frozen 2
  have f4 := B0.frozen 4
  obtain ⟨W1, hW1⟩ : ∃ W1, W1 = w1.setCell ⟨g, 2, none⟩ (.string nu) := ⟨_, rfl⟩
  have B1 : Bk W1 g 23 (numC kd ng nu e de0) := by rw [hW1]; exact Bk.set B0 2 _
  have hb1 : Below w.heap.size w W1 := by rw [hW1]; exact Tn.below hb0 ((Tn.refl g _).set 2 _) (by rw [HG.out]; exact Nat.le_refl _) (Nat.le_refl _)
  clear hC1
  go_wp2_with fail
  rw [← hW1]
  clear hW1 y2 y4 f2 f4 B0 hb0
  refine (hC2 _).mono ?_
  rintro r w2 ⟨de, rfl, sD, rfl⟩
  have f4 := B1.frozen 4
  obtain ⟨W2, hW2⟩ : ∃ W2, W2 = w2.setCell ⟨g, 4, none⟩ (.string de) := ⟨_, rfl⟩
  have B2 : Bk W2 g 23 (numC kd ng nu e de) := by rw [hW2]; exact Bk.set B1 4 _
  have hb2 : Below w.heap.size w W2 := by rw [hW2]; exact Tn.below hb1 ((Tn.refl g _).set 4 _) (by rw [HG.out]; exact Nat.le_refl _) (Nat.le_refl _)
  clear hC2
  have y0 := B1.cell 0 (v := .int .i64 kd) rfl
  have y1 := B1.cell 1 (v := .bool ng) rfl
  have y2 := B1.cell 2 (v := .string nu) rfl
  have y3 := B1.cell 3 (v := .int .i64 e) rfl
  have y4 := B1.cell 4 (v := .string de0) rfl
  have hR := r11bits_any kd ng nu e de sN sD W2
  unfold numC at hR
  go_wp2_with fail
  rw [← hW2]
  clear hW2 f4 B1 hb1 y0 y1 y2 y3 y4
  refine hR.mono ?_
  rintro r w3 ⟨b1, E1, rfl, hq1, ub1, hb3⟩
  have HQ1 : Hid (BitsIs kd ng nu.data.toList e de.data.toList b1 E1) := hq1
  have B3 := B2.later hb3
  have hb4 := hb2.trans (hb3.mono hb2.size)
  clear hR hq1 hb3 B2 hb2
  have v0 := B3.cell 0 (v := .int .i64 kd) rfl
  have v1 := B3.cell 1 (v := .bool ng) rfl
  have v2 := B3.cell 2 (v := .string nu) rfl
  have v3 := B3.cell 3 (v := .int .i64 e) rfl
  have v4 := B3.cell 4 (v := .string de) rfl
  have hR := bits11_any kd ng nu e de (by omega) (by omega) (hG.later hb4) (hT.later hb4)
  unfold numC at hR
  go_wp2_with fail
  clear v0 v1 v2 v3 v4
  refine hR.mono ?_
  rintro r w4 ⟨b2, E2, rfl, hq2, ub2, hb5⟩
  have HQ2 : Hid (b2 = b1 ∧ E2 = E1) := bits_uniq hq2 HQ1.out
  have B4 := B3.later hb5
  have hb6 := hb4.trans (hb5.mono hb4.size)
  clear hR hq2 hb5 B3 hb4
  have v0 := B4.cell 0 (v := .int .i64 kd) rfl
  have v1 := B4.cell 1 (v := .bool ng) rfl
  have v2 := B4.cell 2 (v := .string nu) rfl
  have v3 := B4.cell 3 (v := .int .i64 e) rfl
  have v4 := B4.cell 4 (v := .string de) rfl
  have hR := slow11_any kd ng nu e de (by omega) (by omega) (hG.later hb6)
  unfold numC at hR
  go_wp2_with fail
  clear v0 v1 v2 v3 v4
  refine hR.mono ?_
  rintro r w5 ⟨b3, E3, rfl, hq3, ub3, hb7⟩
  obtain ⟨rfl, rfl⟩ := bits_uniq hq3 HQ1.out
  obtain ⟨rfl, rfl⟩ := HQ2.out
  have hb8 := hb6.trans (hb7.mono hb6.size)
  clear hR hq3 hb7 B4 hb6 HQ1 HQ2
  go_wp2
  go_ret
  exact ⟨by simp, hb8⟩
end Go.Proofs.YtjeoiffloghonaaGreatDoor


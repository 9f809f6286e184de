/- Layer 14: the document's Plain; FtoaPlains. -/
import Derived.Test.YtjnmgjcmagnkeaaDoorFtoQ
namespace Go.Proofs.YtjnmgjcmagnkeaaDoor
open Go.ChangeShapes Go.WideShapes Go.ChangeAt Go.RowKit
open Lx Go.Shelf Ft
set_option linter.unusedVariables false
namespace Ft
/-- the texts of 0, as they lie -/
structure ZeroVar (w : World) : Prop where
  c1 : w.cell? ⟨0, 1, none⟩ = some (.string ⟨#[48]⟩)
  c2 : w.cell? ⟨0, 2, none⟩ = some (.string ⟨#[48, 120, 48, 112, 43, 48]⟩)
  c3 : w.cell? ⟨0, 3, none⟩ = some (.string ⟨#[48, 101, 43, 48, 48]⟩)
theorem lz_cons (c : UInt8) (r : B) : lz (c :: r) = if c = 48 then lz r else c :: r := by
  unfold lz
  rw [List.dropWhile_cons]
  by_cases h : c = 48 <;> simp [h]
theorem tz_snoc (r : B) (c : UInt8) : tz (r ++ [c]) = if c = 48 then tz r else r ++ [c] := by
  unfold tz
  rw [List.reverse_append, List.reverse_singleton, List.singleton_append, List.dropWhile_cons]
  by_cases h : c = 48 <;> simp [h]
theorem lz_empty {l : B} : tz (lz l) = [] ↔ lz l = [] := by
  constructor
  · intro h
    rcases List.eq_nil_or_concat (lz l) with q | ⟨r, c, q⟩
    · exact q
    · exfalso
      have hd : ∀ x t, lz l = x :: t → x ≠ 48 := fun x t e => by
        have := List.head?_dropWhile_not (· == (48 : UInt8)) l
        unfold lz at e
        rw [e] at this
        simpa using this
      have key : ∀ (n : Nat) (m : B), m.length = n → tz m = [] → m = [] ∨ ∃ t, m = 48 :: t := by
        intro n
        induction n with
        | zero => intro m hn _; exact Or.inl (List.eq_nil_of_length_eq_zero hn)
        | succ n ih =>
          intro m hn hm
          rcases List.eq_nil_or_concat m with e | ⟨a, b, e⟩
          · exact Or.inl e
          · rw [List.concat_eq_append] at e
            subst e
            rw [tz_snoc] at hm
            by_cases hb : b = 48
            · rw [if_pos hb] at hm
              rcases ih a (by rw [List.length_append] at hn; simpa using hn) hm with e | ⟨t, e⟩
              · right; exact ⟨[], by rw [e, hb]; rfl⟩
              · right; exact ⟨t ++ [b], by rw [e]; rfl⟩
            · rw [if_neg hb] at hm; simp at hm
      rcases key _ _ rfl h with e | ⟨t, e⟩
      · rw [e] at q; simp at q
      · exact hd 48 t e rfl
  · intro h; rw [h]; rfl
end Ft
set_option maxHeartbeats 3200000 in
set_option maxRecDepth 100000 in
theorem trimmed14_any {l : B} (hl : l.length ≤ 100000) {e : Int} (e0 : -100000 ≤ e) (e1 : e ≤ 100000) (w : World) :
    Calls Tryd.prog 10 #[.string (str l), .int .i64 e] w fun r w' => r = .returned (.tuple #[.string (str (tz (lz l))), .int .i64 (e + ((lz l).length - (tz (lz l)).length : Nat))]) ∧ w' = w := by
  have l1 := lz_len l
  have l2 := tz_len (lz l)
  have HI : Hid (∀ m : B, (str m).toList.isEmpty = m.isEmpty) := fun m => by rw [Lib.toList_data, str_list]
  obtain ⟨w0, hw0⟩ : ∃ w0, w0 = w := ⟨_, rfl⟩
  rw [← hw0]
  clear hw0
  go_enter Tryd.func10, Tryd.ntmps10
  go_wp2
  go_loopg [0] l.length (fun k s0 wr => ∃ m : B, s0 = .string (str m) ∧ m.length ≤ k ∧ m.length ≤ 100000 ∧ Hid (lz m = lz l) ∧ wr = w0)
  case atStart => exact ⟨l, rfl, Nat.le_refl _, hl, rfl, rfl⟩
  case round =>
    obtain ⟨m, rfl, hk, hm, HL, hwr⟩ := hrel
    have hwr := hwr.symm
    subst hwr
    have hE := HI.out m
    have sM : (str m).size = m.length := str_size m
    cases m with
    | nil =>
      have hE' : (str []).toList.isEmpty = true := hE
      have HZ : Hid (str [] = str (lz l)) := by show _ = _; rw [← HL.out]; rfl
      clear hE sM HL
      go_wp2
      go_loopg [0, 1] (lz l).length (fun k s0 s1 wr => ∃ (m : B) (j : Nat) (E : Int), s0 = .string (str m) ∧ s1 = .int .i64 E ∧ E = e + (j : Int) ∧ m.length ≤ k ∧ m.length + j = (lz l).length ∧ Hid (tz m = tz (lz l)) ∧ wr = w0)
      case atStart => exact ⟨lz l, 0, e, by rw [HZ.out], rfl, by simp, Nat.le_refl _, rfl, rfl, rfl⟩
      case round =>
        obtain ⟨m, j, E, rfl, rfl, hEj, hk2, hj, HT, hwr⟩ := hrel
        have hwr := hwr.symm
        subst hwr
        have hE := HI.out m
        have sM : (str m).size = m.length := str_size m
        have b1 : -200000 ≤ E := by omega
        have b2 : E ≤ 300000 := by omega
        rcases List.eq_nil_or_concat m with em | ⟨a, b, em⟩
        · subst em
          have hE' : (str []).toList.isEmpty = true := hE
          have HR : Hid (tz (lz l) = []) := by show _ = _; rw [← HT.out]; rfl
          have HE2 : Hid (E = e + (((lz l).length - (tz (lz l)).length : Nat) : Int)) := by show _ = _; rw [HR.out, hEj]; simp at hj ⊢; omega
          clear hE sM HT hEj hj
          go_wp2
          go_ret2
          exact ⟨by rw [← HE2.out, HR.out]; rfl, rfl⟩
        · rw [List.concat_eq_append] at em
          subst em
          have hE' : (str (a ++ [b])).toList.isEmpty = false := by rw [hE]; simp
          have hx : ∀ h, (str (a ++ [b]))[a.length]'h = b := fun h => by
            have := Lib.data_getElem? (str (a ++ [b])) a.length h
            rw [str_list, List.getElem?_append_right (Nat.le_refl _)] at this
            simpa using this.symm
          have ex : (str (a ++ [b])).extract 0 a.length = str a := by rw [ext_take, List.take_left]
          have hsz : (str (a ++ [b])).size = a.length + 1 := by rw [sM]; simp
          have hal : a.length ≤ 100000 := by rw [List.length_append] at hj; omega
          have gk1 : a.length + 1 ≤ gk := by rw [List.length_append] at hk2; simpa using hk2
          have hj2 : a.length + (j + 1) = (lz l).length := by rw [List.length_append] at hj; simp at hj; omega
          generalize hS : str (a ++ [b]) = SS at *
          by_cases hb : b = 48
          · have HT2 : Hid (tz a = tz (lz l)) := by show _ = _; rw [← HT.out, tz_snoc, if_pos hb]
            have hb' : (b.toNat : Int) = 48 := by rw [hb]; rfl
            have HJ : Hid (E + 1 = e + ((j + 1 : Nat) : Int)) := by show _ = _; omega
            clear hE HT hb hS sM hk2 hj hEj
            go_wp2
            go_roundg a.length
            case measure => omega
            case rel => exact ⟨a, j + 1, E + 1, rfl, rfl, HJ.out, Nat.le_refl _, hj2, HT2.out, by first | trivial | rfl⟩
          · have HR : Hid (tz (lz l) = a ++ [b]) := by show _ = _; rw [← HT.out, tz_snoc, if_neg hb]
            have hb' : ¬ (b.toNat : Int) = 48 := fun q => hb (by
              have e2 : b.toNat = 48 := by omega
              exact UInt8.toNat_inj.mp e2)
            have hb2 : ((b.toNat : Int) == 48) = false := beq_eq_false_iff_ne.mpr hb'
            have HE2 : Hid (E = e + (((lz l).length - (tz (lz l)).length : Nat) : Int)) := by show _ = _; rw [HR.out, hEj, List.length_append]; simp; omega
            have HS : Hid (str (tz (lz l)) = SS) := by show _ = _; rw [HR.out]; exact hS
            clear hE HT hb hS sM hk2 hj hEj HR
            go_wp2
            go_ret2
            exact ⟨by rw [← HE2.out, HS.out]; rfl, rfl⟩
    | cons c r =>
      have hE' : (str (c :: r)).toList.isEmpty = false := hE
      have hx : ∀ h, (str (c :: r))[0]'h = c := fun h => by
        have := Lib.data_getElem? (str (c :: r)) 0 h
        rw [str_list] at this
        simpa using this.symm
      have ex : (str (c :: r)).extract 1 (r.length + 1) = str r := by
        have := ext_drop (c :: r) 1
        rw [str_size] at this
        exact this
      have hsz : (str (c :: r)).size = r.length + 1 := by rw [sM]; simp
      have hrl : r.length ≤ 100000 := by rw [List.length_cons] at hm; omega
      have gk1 : r.length + 1 ≤ gk := by rw [List.length_cons] at hk; exact hk
      generalize hS : str (c :: r) = SS at *
      by_cases hc : c = 48
      · have HL2 : Hid (lz r = lz l) := by show _ = _; rw [← HL.out, lz_cons, if_pos hc]
        have hc' : (c.toNat : Int) = 48 := by rw [hc]; rfl
        clear hE HL hc hS sM hk hm
        go_wp2
        go_roundg r.length
        case measure => omega
        case rel => exact ⟨r, rfl, Nat.le_refl _, hrl, HL2.out, by first | trivial | rfl⟩
      · have HZ : Hid (SS = str (lz l)) := by show _ = _; rw [← hS, ← HL.out, lz_cons, if_neg hc]
        have hc' : ¬ (c.toNat : Int) = 48 := fun q => hc (by
          have e2 : c.toNat = 48 := by omega
          exact UInt8.toNat_inj.mp e2)
        have hc2 : ((c.toNat : Int) == 48) = false := beq_eq_false_iff_ne.mpr hc'
        clear hE HL hc hS sM hk hm
        go_wp2
        go_loopg [0, 1] (lz l).length (fun k s0 s1 wr => ∃ (m : B) (j : Nat) (E : Int), s0 = .string (str m) ∧ s1 = .int .i64 E ∧ E = e + (j : Int) ∧ m.length ≤ k ∧ m.length + j = (lz l).length ∧ Hid (tz m = tz (lz l)) ∧ wr = w0)
        case atStart => exact ⟨lz l, 0, e, by rw [HZ.out], rfl, by simp, Nat.le_refl _, rfl, rfl, rfl⟩
        case round =>
          obtain ⟨m, j, E, rfl, rfl, hEj, hk2, hj, HT, hwr⟩ := hrel
          have hwr := hwr.symm
          subst hwr
          have hE := HI.out m
          have sM : (str m).size = m.length := str_size m
          have b1 : -200000 ≤ E := by omega
          have b2 : E ≤ 300000 := by omega
          rcases List.eq_nil_or_concat m with em | ⟨a, b, em⟩
          · subst em
            have hE' : (str []).toList.isEmpty = true := hE
            have HR : Hid (tz (lz l) = []) := by show _ = _; rw [← HT.out]; rfl
            have HE2 : Hid (E = e + (((lz l).length - (tz (lz l)).length : Nat) : Int)) := by show _ = _; rw [HR.out, hEj]; simp at hj ⊢; omega
            clear hE sM HT hEj hj
            go_wp2
            go_ret2
            exact ⟨by rw [← HE2.out, HR.out]; rfl, rfl⟩
          · rw [List.concat_eq_append] at em
            subst em
            have hE' : (str (a ++ [b])).toList.isEmpty = false := by rw [hE]; simp
            have hx : ∀ h, (str (a ++ [b]))[a.length]'h = b := fun h => by
              have := Lib.data_getElem? (str (a ++ [b])) a.length h
              rw [str_list, List.getElem?_append_right (Nat.le_refl _)] at this
              simpa using this.symm
            have ex : (str (a ++ [b])).extract 0 a.length = str a := by rw [ext_take, List.take_left]
            have hsz : (str (a ++ [b])).size = a.length + 1 := by rw [sM]; simp
            have hal : a.length ≤ 100000 := by rw [List.length_append] at hj; omega
            have gk1 : a.length + 1 ≤ gk := by rw [List.length_append] at hk2; simpa using hk2
            have hj2 : a.length + (j + 1) = (lz l).length := by rw [List.length_append] at hj; simp at hj; omega
            generalize hS : str (a ++ [b]) = SS at *
            by_cases hb : b = 48
            · have HT2 : Hid (tz a = tz (lz l)) := by show _ = _; rw [← HT.out, tz_snoc, if_pos hb]
              have hb' : (b.toNat : Int) = 48 := by rw [hb]; rfl
              have HJ : Hid (E + 1 = e + ((j + 1 : Nat) : Int)) := by show _ = _; omega
              clear hE HT hb hS sM hk2 hj hEj
              go_wp2
              go_roundg a.length
              case measure => omega
              case rel => exact ⟨a, j + 1, E + 1, rfl, rfl, HJ.out, Nat.le_refl _, hj2, HT2.out, by first | trivial | rfl⟩
            · have HR : Hid (tz (lz l) = a ++ [b]) := by show _ = _; rw [← HT.out, tz_snoc, if_neg hb]
              have hb' : ¬ (b.toNat : Int) = 48 := fun q => hb (by
                have e2 : b.toNat = 48 := by omega
                exact UInt8.toNat_inj.mp e2)
              have hb2 : ((b.toNat : Int) == 48) = false := beq_eq_false_iff_ne.mpr hb'
              have HE2 : Hid (E = e + (((lz l).length - (tz (lz l)).length : Nat) : Int)) := by show _ = _; rw [HR.out, hEj, List.length_append]; simp; omega
              have HS : Hid (str (tz (lz l)) = SS) := by show _ = _; rw [HR.out]; exact hS
              clear hE HT hb hS sM hk2 hj hEj HR
              go_wp2
              go_ret2
              exact ⟨by rw [← HE2.out, HS.out]; rfl, rfl⟩
theorem rplain14_nil {e : Int} (w : World) :
    Calls Tryd.prog 11 #[.string (str []), .int .i64 e] w fun r w' => r = .returned (.string ⟨#[48]⟩) ∧ Below w.heap.size w w' := by
  have hE : (str []).toList.isEmpty = true := by rw [Lib.toList_data, str_list]; rfl
  go_enter Tryd.func11, Tryd.ntmps11
  go_wp2
  go_ret
  exact ⟨rfl, Below.refl _ _⟩
namespace Ft
/-- what Plain answers -/
def PlIs (l : B) (e : Int) (S : B) (E : Int) : Prop :=
  (allD l = false ∧ S = [] ∧ E = 41) ∨ (allD l = true ∧ (e < -1100 ∨ 1100 < e) ∧ S = [] ∧ E = 130) ∨ (allD l = true ∧ -1100 ≤ e ∧ e ≤ 1100 ∧ S = plD l e ∧ E = 0)
theorem plIs_uniq {l : B} {e : Int} {S S' : B} {E E' : Int} (h : PlIs l e S E) (h' : PlIs l e S' E') : S = S' ∧ E = E' := by
  rcases h with ⟨a, b, c⟩ | ⟨a, b, c, d⟩ | ⟨a, b, c, d, f⟩ <;> rcases h' with ⟨a', b', c'⟩ | ⟨a', b', c', d'⟩ | ⟨a', b', c', d', f'⟩
  · exact ⟨by rw [b, b'], by rw [c, c']⟩
  · rw [a] at a'; cases a'
  · rw [a] at a'; cases a'
  · rw [a] at a'; cases a'
  · exact ⟨by rw [c, c'], by rw [d, d']⟩
  · omega
  · rw [a] at a'; cases a'
  · omega
  · exact ⟨by rw [d, d'], by rw [f, f']⟩
end Ft
theorem plainF_any (s : ByteArray) (hs : s.size ≤ 50000) {e : Int} {w : World} (hz : w.cell? ⟨0, 1, none⟩ = some (.string ⟨#[48]⟩)) :
    Calls Tryd.prog 4 #[.string s, .int .i64 e] w fun r w' => ∃ S E, r = .returned (.tuple #[.string (str S), .int .i64 E]) ∧ PlIs s.data.toList e S E ∧ Below w.heap.size w w' := by
  cases ha : allD s.data.toList with
  | false =>
    refine (plainF_digit s (by omega) ha w).mono ?_
    rintro r w' ⟨rfl, rfl⟩
    exact ⟨[], 41, rfl, Or.inl ⟨ha, rfl, rfl⟩, Below.refl _ _⟩
  | true =>
    by_cases he : e < -1100 ∨ 1100 < e
    · refine (plainF_fixed s (by omega) ha he w).mono ?_
      rintro r w' ⟨rfl, rfl⟩
      exact ⟨[], 130, rfl, Or.inr (Or.inl ⟨ha, he, rfl, rfl⟩), Below.refl _ _⟩
    · refine (plainF_fin s hs ha (by omega) (by omega) hz).mono ?_
      rintro r w' ⟨rfl, hb⟩
      exact ⟨_, 0, rfl, Or.inr (Or.inr ⟨ha, by omega, by omega, rfl, rfl⟩), hb⟩
set_option maxHeartbeats 3200000 in
set_option maxRecDepth 100000 in
theorem rPlain14_any (s : ByteArray) (hs : s.size ≤ 50000) {e : Int} (w : World) :
    Calls Tryd.prog 5 #[.string s, .int .i64 e] w fun r w' => ∃ S E, r = .returned (.tuple #[.string (str S), .int .i64 E]) ∧ PlIs s.data.toList e S E ∧ Below w.heap.size w w' := by
  have HL : Hid (s.size = s.data.toList.length) := Lib.size_eq s
  have HS : Hid (str s.data.toList = s) := str_of s
  go_enter Tryd.func5, Tryd.ntmps5
  go_wp2
  go_loopw [6] (fun v wr => ∃ i : Nat, v = .int .i64 (i : Int) ∧ i ≤ s.size ∧ Hid ((s.data.toList.take i).all isD = true) ∧ wr = w) (fun v _ => s.size - (RowKit.intOf v).toNat)
  case atStart => exact ⟨0, rfl, Nat.zero_le _, rfl, rfl⟩
  case round =>
    obtain ⟨i, rfl, hi, HA, rfl⟩ := hrel
    by_cases q : i < s.size
    · have hg : s.data.toList[i]? = some (s[i]'q) := Lib.data_getElem? s i q
      obtain ⟨c, hc⟩ : ∃ c, c = s[i]'q := ⟨_, rfl⟩
      rw [← hc] at hg
      have hx : ∀ h, s[i]'h = c := fun _ => hc.symm
      have d0 : decide ((i : Int) < (s.size : Int)) = true := by simp; omega
      have HT : Hid (s.data.toList.take (i + 1) = s.data.toList.take i ++ [c]) := by
        show _ = _
        rw [List.take_add_one, hg]
        rfl
      have HD := Lib.hid (isD_iff c)
      clear hc
      by_cases qd : isD c = true
      · obtain ⟨b0, b1⟩ := (isD_iff c).mp qd
        have HA2 : Hid ((s.data.toList.take (i + 1)).all isD = true) := by show _ = _; rw [HT.out, List.all_append, HA.out, List.all_cons, qd]; rfl
        have e1 : decide ((c.toNat : Int) < 48) = false := by simp; omega
        have e3 : decide (57 < (c.toNat : Int)) = false := by simp; omega
        clear HT HA HD qd hg
        go_wp2
        go_roundw
        case rel => exact ⟨i + 1, rfl, by omega, HA2.out, by first | trivial | rfl⟩
        case measure => simp [RowKit.intOf]; omega
      · have HR : Hid (PlIs s.data.toList e [] 41) := by
          refine Or.inl ⟨?_, rfl, rfl⟩
          unfold allD
          have : s.data.toList.all isD = false := by
            rw [List.all_eq_false]
            exact ⟨c, List.mem_of_getElem? hg, qd⟩
          rw [this]; rfl
        clear HT HA hg
        by_cases e1 : (c.toNat : Int) < 48
        · clear HD qd
          go_wp2
          go_ret2
          exact ⟨[], 41, rfl, HR.out, Below.refl _ _⟩
        · have e2 : 57 < (c.toNat : Int) := by
            rcases Int.lt_or_le 57 (c.toNat : Int) with z | z
            · exact z
            · exact absurd (HD.out.mpr ⟨by omega, z⟩) qd
          have e3 : 48 ≤ (c.toNat : Int) := by omega
          clear HD qd e1
          go_wp2
          go_ret2
          exact ⟨[], 41, rfl, HR.out, Below.refl _ _⟩
    · have d0 : decide ((i : Int) < (s.size : Int)) = false := by simp; omega
      have ha : s.data.toList.all isD = true := by
        have := HA.out
        rwa [List.take_of_length_le (by have := HL.out; omega)] at this
      have HR : Hid (allD s.data.toList = !s.toList.isEmpty) := by show _ = _; unfold allD; rw [ha, Bool.true_and, Lib.toList_data]
      clear ha HA
      cases he : s.toList.isEmpty with
      | true =>
        have HP : Hid (PlIs s.data.toList e [] 41) := Or.inl ⟨by rw [HR.out, he]; rfl, rfl, rfl⟩
        go_wp2
        go_ret2
        exact ⟨[], 41, rfl, HP.out, Below.refl _ _⟩
      | false =>
        have hal : allD s.data.toList = true := by rw [HR.out, he]; rfl
        have HAl : Hid (allD s.data.toList = true) := hal
        clear hal HR
        by_cases x1 : e < -1100
        · have HP : Hid (PlIs s.data.toList e [] 130) := Or.inr (Or.inl ⟨HAl.out, Or.inl x1, rfl, rfl⟩)
          go_wp2
          go_ret2
          exact ⟨[], 130, rfl, HP.out, Below.refl _ _⟩
        · by_cases x2 : 1100 < e
          · have HP : Hid (PlIs s.data.toList e [] 130) := Or.inr (Or.inl ⟨HAl.out, Or.inr x2, rfl, rfl⟩)
            have x3 : -1100 ≤ e := by omega
            clear x1
            go_wp2
            go_ret2
            exact ⟨[], 130, rfl, HP.out, Below.refl _ _⟩
          · have y1 : -1100 ≤ e := by omega
            have y2 : e ≤ 1100 := by omega
            have HP : Hid (PlIs s.data.toList e (plD s.data.toList e) 0) := Or.inr (Or.inr ⟨HAl.out, y1, y2, rfl, rfl⟩)
            have hsl : s.data.toList.length ≤ 50000 := by have := HL.out; omega
            have l1 := lz_len s.data.toList
            have l2 := tz_len (lz s.data.toList)
            have hTr := fun w => trimmed14_any (l := s.data.toList) (by omega) (e := e) (by omega) (by omega) w
            rw [HS.out] at hTr
            have hPl : ∀ w, Calls Tryd.prog 11 #[.string (str (tz (lz s.data.toList))), .int .i64 (e + ((lz s.data.toList).length - (tz (lz s.data.toList)).length : Nat))] w fun r w' => r = .returned (.string (str (plD s.data.toList e))) ∧ Below w.heap.size w w' := fun w => by
              by_cases z : lz s.data.toList = []
              · have e1 : plD s.data.toList e = [48] := if_pos z
                rw [e1, lz_empty.mpr z]
                exact rplain14_nil w
              · have e1 : plD s.data.toList e = plT (tz (lz s.data.toList)) ((lz s.data.toList).length + e) := if_neg z
                have z2 : tz (lz s.data.toList) ≠ [] := fun q => z (lz_empty.mp q)
                have := rplain14_any (d := tz (lz s.data.toList)) (e := e + ((lz s.data.toList).length - (tz (lz s.data.toList)).length : Nat)) z2 (by omega) (by omega) (by omega) w
                have e2 : ((tz (lz s.data.toList)).length : Int) + (e + (((lz s.data.toList).length - (tz (lz s.data.toList)).length : Nat) : Int)) = (lz s.data.toList).length + e := by omega
                rw [e2] at this
                rw [e1]
                exact this
            clear x1 x2 HAl l1 l2 hsl
            generalize plD s.data.toList e = PD at *
            generalize tz (lz s.data.toList) = TT at *
            generalize e + (((lz s.data.toList).length - TT.length : Nat) : Int) = EE at *
            go_wp2_with fail
            refine (hTr _).mono ?_
            rintro r w2 ⟨rfl, hw⟩
            rw [hw]
            clear hTr hw
            go_wp2_with fail
            refine (hPl _).mono ?_
            rintro r w2 ⟨rfl, hb⟩
            clear hPl
            go_wp2
            go_ret2
            exact ⟨PD, 0, rfl, HP.out, hb⟩
set_option maxHeartbeats 3200000 in
set_option maxRecDepth 100000 in
theorem plains_walk14 {s : ByteArray} (hs : s.size ≤ maxLen) {e : Int} (e0 : -9223372036854775808 ≤ e) (e1 : e ≤ 9223372036854775807) {w : World} (hz : ZeroVar w) :
    Calls Tryd.prog 3 #[.string s, .int .i64 e] w fun r w' => r = .returned (.bool true) ∧ Below w.heap.size w w' := by
  by_cases q : 400 < s.size
  · have ex : s.extract 0 400 = str (s.data.toList.take 400) := by rw [ext_str]; simp
    have hl : (str (s.data.toList.take 400)).size ≤ 400 := by rw [str_size, List.length_take]; omega
    have hP := fun (w : World) hz => plainF_any (str (s.data.toList.take 400)) (by omega) (e := e) (w := w) hz
    have hR := fun (w : World) => rPlain14_any (str (s.data.toList.take 400)) (by omega) (e := e) w
    rw [str_list] at hP hR
    generalize s.data.toList.take 400 = T at *
    have q2 : (400 : Int) < (s.size : Int) := by omega
    unfold maxLen at hs
    have q3 : (s.size : Int) ≤ 9223372036854775807 := by omega
    go_enter Tryd.func3, Tryd.ntmps3
    go_wp2_with fail
    refine (hP _ hz.c1).mono ?_
    rintro r w1 ⟨S, E, rfl, h1, b1⟩
    have H1 : Hid (PlIs T e S E) := h1
    clear hP h1
    go_wp2_with fail
    refine (hR _).mono ?_
    rintro r w2 ⟨S', E', rfl, h2, b2⟩
    obtain ⟨rfl, rfl⟩ := plIs_uniq H1.out h2
    have B2 := b1.trans (b2.mono b1.size)
    clear hR h2 H1 b1 b2
    go_wp2
    go_ret
    exact ⟨rfl, B2⟩
  · have hP := fun (w : World) hz => plainF_any s (by omega) (e := e) (w := w) hz
    have hR := fun (w : World) => rPlain14_any s (by omega) (e := e) w
    generalize s.data.toList = T at *
    have q2 : (s.size : Int) ≤ 400 := by omega
    clear q hs
    go_enter Tryd.func3, Tryd.ntmps3
    go_wp2_with fail
    refine (hP _ hz.c1).mono ?_
    rintro r w1 ⟨S, E, rfl, h1, b1⟩
    have H1 : Hid (PlIs T e S E) := h1
    clear hP h1
    go_wp2_with fail
    refine (hR _).mono ?_
    rintro r w2 ⟨S', E', rfl, h2, b2⟩
    obtain ⟨rfl, rfl⟩ := plIs_uniq H1.out h2
    have B2 := b1.trans (b2.mono b1.size)
    clear hR h2 H1 b1 b2
    go_wp2
    go_ret
    exact ⟨rfl, B2⟩
end Go.Proofs.YtjnmgjcmagnkeaaDoor

/- plumbref04.Parse's walk. -/
import Derived.Test.YtmenhfnakcdnnabGreatDoorRadixRP
namespace Go.Proofs.YtmenhfnakcdnnabGreatDoor
open Go.ChangeShapes Go.WideShapes Go.ChangeAt Go.RowKit
open Na Ar
set_option linter.unusedVariables false
/-- the list that the document's Parse answers -/
def pList (T code : Int) : List Int := if code = 0 then words T else []
set_option maxHeartbeats 12800000 in
set_option maxRecDepth 100000 in
theorem refParseB_any (s : ByteArray) (b : Int) (hs : s.size ≤ 10000000) (hb : 2 ≤ b) (hb9 : b ≤ 36) (hp : 0 < s.size) (w : World) :
    Calls Tryz.prog 5 #[.string s, .int .i64 b] w fun e w' => ∃ (va : Option Addr) (l c : Nat) (code p : Int), e = .returned (.tuple #[.slice va l c, .int .i64 code, .int .i64 p]) ∧ (PCode s b code p ∧ RowC w' va l c (pList (numB s b s.size) code)) ∧ Below w.heap.size w w' := by
  have hwb : IntKind.u64.wrap b = b := by rw [wrapU]; omega
  have hs0 : ((s.size : Int) == 0) = false := beq_no (by omega)
  have hnil : ∀ w', RowC w' none 0 0 [] := fun w' => ⟨⟨rfl, Or.inl rfl⟩, Nat.le_refl _, Nat.zero_le _⟩
  go_enter Tryz.func5, Tryz.ntmps5
  go_wp2
  go_loopw [7, 8] (fun vf vi wr => ∃ (f i : Nat), w = wr ∧ vf = .int .i64 (f : Int) ∧ vi = .int .i64 (i : Int) ∧ i ≤ s.size ∧ Hid (∀ j, j < i → dgt s j < b) ∧ Hid (Lead s f i)) (fun _ vi _ => s.size - (RowKit.intOf vi).toNat)
  case atStart => exact ⟨0, 0, rfl, rfl, rfl, by omega, fun j hj => by omega, ⟨Nat.le_refl _, fun j hj => by omega, fun q => by omega⟩⟩
  case round =>
    obtain ⟨f, i, rfl, rfl, rfl, hi, hdg, hld⟩ := hrel
    have hfi := hld.out.1
    by_cases hlt : i < s.size
    · have hby : s.get! i = s[i]'hlt := get_byte hlt
      have hdi : dgt s i = valN ((s[i]'hlt).toNat : Int) := by unfold dgt; rw [hby]
      have hr9 : ((s[i]'hlt).toNat : Int) ≤ 255 := by have := (s[i]'hlt).toNat_lt; omega
      have vc := refValue_any ((s[i]'hlt).toNat : Int) (by omega) hr9 w
      have hz : s.get! i = 48 ↔ ((s[i]'hlt).toNat : Int) = 48 := by
        rw [hby]
        constructor
        · intro q; rw [q]; rfl
        · intro q; exact UInt8.toNat_inj.1 (by show (s[i]'hlt).toNat = 48; omega)
      have hlt2 := refV_lt (r := ((s[i]'hlt).toNat : Int)) hb9
      have hr0 : 0 ≤ ((s[i]'hlt).toNat : Int) := by omega
      have hrb := valN_bd ((s[i]'hlt).toNat : Int)
      by_cases hbad : b ≤ dgt s i
      · have HP : PCode s b 41 i := Or.inr (Or.inr (Or.inl ⟨⟨hb, hb9⟩, i, hlt, hbad, hdg.out, rfl, rfl⟩))
        have hv9 : b ≤ refV ((s[i]'hlt).toNat : Int) := by
          by_cases q : refV ((s[i]'hlt).toNat : Int) < b
          · have := hlt2.mp q; omega
          · omega
        generalize refV ((s[i]'hlt).toNat : Int) = V at *
        clear hdg hld hz hdi hby hlt2
        go_wp2_with fail
        refine vc.mono ?_
        rintro e w' ⟨rfl, rfl⟩
        clear vc
        go_wp2
        go_ret3
        exact ⟨none, 0, 0, 41, i, rfl, ⟨HP, by unfold pList; rw [if_neg (by omega)]; exact hnil _⟩, Below.refl _ _⟩
      · have hv9 : refV ((s[i]'hlt).toNat : Int) < b := hlt2.mpr (by omega)
        have HDG : Hid (∀ j, j < i + 1 → dgt s j < b) := fun j hj => by
          by_cases q : j < i
          · exact hdg.out j q
          · have e : j = i := by omega
            rw [e]; omega
        have hskip := fun q => lead_skip hld.out q
        have hstep := fun q e => lead_step hld.out q e
        generalize refV ((s[i]'hlt).toNat : Int) = V at *
        clear hdg hld hdi hby hlt2 hbad
        by_cases h48 : ((s[i]'hlt).toNat : Int) = 48
        · have t48 : (((s[i]'hlt).toNat : Int) == 48) = true := beq_of h48
          by_cases hif : i = f
          · have HL : Hid (Lead s (f + 1) (i + 1)) := hstep (hz.mpr h48) hif
            have tif : ((i : Int) == (f : Int)) = true := beq_of (by omega)
            have hf9 : f ≤ 10000000 := by omega
            clear hskip hstep hz h48 hif hfi
            go_wp2_with fail
            refine vc.mono ?_
            rintro e w' ⟨rfl, rfl⟩
            clear vc
            go_wp2
            go_roundw
            case rel => exact ⟨f + 1, i + 1, trivial, by go_num, by go_num, by omega, HDG, HL⟩
            case measure => simp [RowKit.intOf]; omega
          · have HL : Hid (Lead s f (i + 1)) := hskip (fun q => hif q.2)
            have tif : ((i : Int) == (f : Int)) = false := beq_no (by omega)
            clear hskip hstep hz h48 hif
            go_wp2_with fail
            refine vc.mono ?_
            rintro e w' ⟨rfl, rfl⟩
            clear vc
            go_wp2
            go_roundw
            case rel => exact ⟨f, i + 1, trivial, rfl, by go_num, by omega, HDG, HL⟩
            case measure => simp [RowKit.intOf]; omega
        · have t48 : (((s[i]'hlt).toNat : Int) == 48) = false := beq_no h48
          have HL : Hid (Lead s f (i + 1)) := hskip (fun q => h48 (hz.mp q.1))
          clear hskip hstep hz h48
          go_wp2_with fail
          refine vc.mono ?_
          rintro e w' ⟨rfl, rfl⟩
          clear vc
          go_wp2
          go_roundw
          case rel => exact ⟨f, i + 1, trivial, rfl, by go_num, by omega, HDG, HL⟩
          case measure => simp [RowKit.intOf]; omega
    · have hiz : i = s.size := by omega
      rw [hiz] at hdg hld
      have hfn : f ≤ s.size := by omega
      have hlt9 : ¬ (i : Int) < (s.size : Int) := by omega
      have HG : Hid (0 < s.size ∧ ∀ j, j < s.size → dgt s j < b) := ⟨hp, hdg.out⟩
      have hbigN : ∀ L : Nat, (2 : Int) ^ L ≤ b → 262144 ≤ (s.size - f - 1) * L → f < s.size → PCode s b 21 0 := fun L h2 hq hfl => by
        have d1 := dgt_pos (hld.out.2.2 hfl)
        have q := numB_lead hb hld.out.2.1 d1 (s.size - f - 1)
        rw [show f + (s.size - f - 1) + 1 = s.size by omega] at q
        exact Or.inr (Or.inr (Or.inr (Or.inl ⟨⟨hb, hb9⟩, HG.out, sure_huge (K := 1) (β := L) hb (by rw [Int.pow_one b]; exact h2) (by rw [Nat.div_one]; exact hq) q, rfl, rfl⟩)))
      have HBN : Hid (∀ L : Nat, (2 : Int) ^ L ≤ b → 262144 ≤ (s.size - f - 1) * L → f < s.size → PCode s b 21 0) := hbigN
      have HZ : Hid (numB s b f = 0) := numB_zeros hld.out.2.1
      clear hbigN hiz hdg hld
      go_wp2
      go_loop [9] (fun vl => ∃ L : Nat, vl = .int .i64 (L : Int) ∧ 1 ≤ L ∧ L ≤ 5 ∧ (2 : Int) ^ L ≤ b) (fun vl => 6 - (RowKit.intOf vl).toNat)
      case atStart => exact ⟨1, rfl, by omega, by omega, by omega⟩
      case round =>
        obtain ⟨L, rfl, hL1, hL5, hLb⟩ := hrel
        have hsh : (2 : Int) * 2 ^ L = 2 ^ (L + 1) := by rw [Int.pow_succ, Int.mul_comm]
        have hsb : (2 : Int) ^ (L + 1) ≤ 64 := by
          have := p2mono (show L + 1 ≤ 6 by omega)
          have e : (2 : Int) ^ 6 = 64 := by decide
          omega
        have hp0 : (0 : Int) < 2 ^ (L + 1) := Int.pow_pos (by omega)
        have hw1 : wrap64 (2 ^ (L + 1)) = 2 ^ (L + 1) := by unfold wrap64; omega
        have hprod : -5 ≤ ((s.size : Int) - f - 1) * L ∧ ((s.size : Int) - f - 1) * L ≤ 50000000 := by
          have a := Int.mul_le_mul_of_nonneg_left (show (L : Int) ≤ 5 by omega) (show (0 : Int) ≤ s.size - f by omega)
          have c := Int.mul_nonneg (show (0 : Int) ≤ s.size - f by omega) (show (0 : Int) ≤ L by omega)
          have e : ((s.size : Int) - f - 1) * L = (s.size - f) * L - L := by rw [Int.sub_mul, Int.one_mul]
          omega
        have hw2 : wrap64 (((s.size : Int) - f - 1) * L) = ((s.size : Int) - f - 1) * L := by unfold wrap64; omega
        by_cases hge : (2 : Int) ^ (L + 1) ≤ b
        · have hL4 : L ≤ 4 := by
            by_cases q : L ≤ 4
            · exact q
            · have : L = 5 := by omega
              subst this
              have e : (2 : Int) ^ (5 + 1) = 64 := by decide
              omega
          have HGE : Hid ((2 : Int) ^ (L + 1) ≤ b) := hge
          have hng : ¬ b < (2 : Int) ^ (L + 1) := by omega
          clear hsh hLb
          go_wp2
          go_round
          case rel => exact ⟨L + 1, by go_num, by omega, by omega, HGE.out⟩
          case measure => simp [RowKit.intOf]; omega
        · have hng : b < (2 : Int) ^ (L + 1) := by omega
          have hbn := HBN.out L hLb
          clear hsh hLb hge
          by_cases hbig : 262144 ≤ ((s.size : Int) - f - 1) * L
          · have hfl : f < s.size := by
              by_cases q : f < s.size
              · exact q
              · exfalso
                have e : (s.size : Int) - f - 1 = -1 := by omega
                rw [e] at hbig
                omega
            have HP : PCode s b 21 0 := hbn (by
              have e : (((s.size - f - 1) * L : Nat) : Int) = ((s.size : Int) - f - 1) * L := by
                rw [Int.natCast_mul]; congr 1; omega
              omega) hfl
            clear hbn
            go_wp2
            go_ret3
            exact ⟨none, 0, 0, 21, 0, rfl, ⟨HP, by unfold pList; rw [if_neg (by omega)]; exact hnil _⟩, Below.refl _ _⟩
          · have hcount : s.size ≤ f + 262145 := by
              by_cases q : s.size ≤ f + 262145
              · exact q
              · exfalso
                have := Int.mul_le_mul_of_nonneg_left (show (1 : Int) ≤ L by omega) (show (0 : Int) ≤ s.size - f - 1 by omega)
                omega
            have hnb : ((s.size : Int) - f - 1) * L < 262144 := by omega
            clear hbn hbig
            go_wp2
            go_loopw [10, 11] (fun v vi wr => ∃ k : Nat, vi = .int .i64 (k : Int) ∧ f ≤ k ∧ k ≤ s.size ∧ LimbsIs wr w.heap.size v (k - f) (numB s b k) ∧ Below w.heap.size w wr) (fun _ vi _ => s.size - (RowKit.intOf vi).toNat)
            case atStart => exact ⟨f, rfl, Nat.le_refl _, hfn, ⟨[], own_nil _ _ _ _, Dg.nil _, by simp, by rw [HZ.out]; rfl⟩, Below.refl _ _⟩
            case round =>
              obtain ⟨k, rfl, hk1, hk2, hlim, hnx⟩ := hrel
              have hsz := hnx.size
              by_cases hlt2 : k < s.size
              · have hby : s.get! k = s[k]'hlt2 := get_byte hlt2
                have hdi : dgt s k = valN ((s[k]'hlt2).toNat : Int) := by unfold dgt; rw [hby]
                have hr9 : ((s[k]'hlt2).toNat : Int) ≤ 255 := by have := (s[k]'hlt2).toNat_lt; omega
                have vc := fun w => refValue_any ((s[k]'hlt2).toNat : Int) (by omega) hr9 w
                have hd9 := HG.out.2 k hlt2
                have hve := refV_eq hb9 (show valN ((s[k]'hlt2).toNat : Int) < b by rw [← hdi]; exact hd9)
                rw [hve, ← hdi] at vc
                have hd0 := (valN_bd ((s[k]'hlt2).toNat : Int)).1
                rw [← hdi] at hd0
                have pc := putAll_any (x := b) (c0 := dgt s k) hlim ⟨by omega, by omega⟩ ⟨hd0, by omega⟩ (by omega) hsz
                have HN : Hid (numB s b (k + 1) = numB s b k * b + dgt s k) := rfl
                rw [← HN.out] at pc
                generalize dgt s k = D at *
                have hwD : IntKind.u64.wrap D = D := by rw [wrapU]; omega
                clear hve hdi hby hlim hr9
                go_wp2_with fail
                refine (vc _).mono ?_
                rintro e w' ⟨rfl, rfl⟩
                clear vc
                go_wp2_with fail
                refine pc.mono ?_
                rintro e w5 ⟨v', rfl, hl5, hb5⟩
                have hB5 := hnx.trans hb5
                clear pc
                go_wp2
                go_roundw
                case rel => exact ⟨k + 1, by go_num, by omega, by omega, (by rw [show k + 1 - f = k - f + 1 by omega]; exact hl5), hB5⟩
                case measure => simp [RowKit.intOf]; omega
              · have hkz : k = s.size := by omega
                have hltI : ¬ (k : Int) < (s.size : Int) := by omega
                obtain ⟨us, ho, hd, hl, hV⟩ := hlim
                obtain ⟨ua, uc, rfl, hur⟩ := ho.readsC
                have wc := words4_any hur hd (by omega)
                rw [hV, hkz] at wc
                have hul : us.length ≤ 300000 := by omega
                clear hV hkz ho hl
                go_wp2_with fail
                refine wc.mono ?_
                rintro e w5 ⟨oa, ol, oc, rfl, hr5, hb5⟩
                have hB5 := hnx.trans (hb5.mono hsz)
                have hol := hr5.1.1
                clear wc hur
                by_cases hlong : 4096 < ol
                · have HP : PCode s b 21 0 := Or.inr (Or.inr (Or.inr (Or.inl ⟨⟨hb, hb9⟩, HG.out, by omega, rfl, rfl⟩)))
                  clear hol hr5
                  go_wp2
                  go_ret3
                  exact ⟨none, 0, 0, 21, 0, rfl, ⟨HP, by unfold pList; rw [if_neg (by omega)]; exact hnil _⟩, hB5⟩
                · have HP : PCode s b 0 (-1) := Or.inr (Or.inr (Or.inr (Or.inr ⟨⟨hb, hb9⟩, HG.out, by omega, rfl, rfl⟩)))
                  have HR : Hid (RowC w5 oa ol oc (pList (numB s b s.size) 0)) := by
                    show RowC _ _ _ _ _
                    unfold pList
                    rw [if_pos rfl]
                    exact hr5
                  clear hol hr5
                  go_wp2
                  go_ret3
                  exact ⟨oa, ol, oc, 0, -1, rfl, ⟨HP, HR.out⟩, hB5⟩
set_option maxRecDepth 100000 in
theorem refParse_any (s : ByteArray) (b : Int) (hs : s.size ≤ 10000000) (w : World) :
    Calls Tryz.prog 5 #[.string s, .int .i64 b] w fun e w' => ∃ (va : Option Addr) (l c : Nat) (code p : Int), e = .returned (.tuple #[.slice va l c, .int .i64 code, .int .i64 p]) ∧ (PCode s b code p ∧ RowC w' va l c (pList (numB s b s.size) code)) ∧ Below w.heap.size w w' := by
  have hnil : ∀ w', RowC w' none 0 0 [] := fun w' => ⟨⟨rfl, Or.inl rfl⟩, Nat.le_refl _, Nat.zero_le _⟩
  by_cases hb : 2 ≤ b ∧ b ≤ 36
  · by_cases hp : 0 < s.size
    · exact refParseB_any s b hs hb.1 hb.2 hp w
    · have hz : s.size = 0 := by omega
      have HP : PCode s b 41 0 := Or.inr (Or.inl ⟨hb, hz, rfl, rfl⟩)
      have hb1 := hb.1
      have hb2 := hb.2
      clear hb hp
      go_enter Tryz.func5, Tryz.ntmps5
      go_wp2
      go_ret3
      exact ⟨none, 0, 0, 41, 0, rfl, ⟨HP, by unfold pList; rw [if_neg (by omega)]; exact hnil _⟩, Below.refl _ _⟩
  · have HP : PCode s b 40 0 := Or.inl ⟨hb, rfl, rfl⟩
    by_cases h2 : b < 2
    · go_enter Tryz.func5, Tryz.ntmps5
      go_wp2
      go_ret3
      exact ⟨none, 0, 0, 40, 0, rfl, ⟨HP, by unfold pList; rw [if_neg (by omega)]; exact hnil _⟩, Below.refl _ _⟩
    · have h3 : 36 < b := by omega
      go_enter Tryz.func5, Tryz.ntmps5
      go_wp2
      go_ret3
      exact ⟨none, 0, 0, 40, 0, rfl, ⟨HP, by unfold pList; rw [if_neg (by omega)]; exact hnil _⟩, Below.refl _ _⟩
end Go.Proofs.YtmenhfnakcdnnabGreatDoor

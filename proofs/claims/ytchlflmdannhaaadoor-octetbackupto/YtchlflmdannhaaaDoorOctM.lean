/- Layer 16: OctetBack. -/
import Derived.Test.YtchlflmdannhaaaDoorOctL
namespace Go.Proofs.YtchlflmdannhaaaDoor
open Go.ChangeShapes Go.WideShapes Go.ChangeAt Go.RowKit
open Ep Oc
set_option linter.unusedVariables false
namespace Oc
def ex1 : It := ⟨2, 72623859790382856, false⟩
def ex2 : It := ⟨1, 16909060, true⟩
def t12 : List UInt8 := [1, 2, 3, 4, 5, 6, 7, 8, 4, 3, 2, 1]
theorem ex_laid (l : List It) : laidL (l ++ [ex1, ex2]) = laidL l ++ t12 := by rw [laidL_app]; rfl
theorem ex_drop (l : List It) : (laidL (l ++ [ex1, ex2])).drop ((laidL (l ++ [ex1, ex2])).length - 12) = t12 := by
  rw [ex_laid, List.length_append, show t12.length = 12 from rfl, Nat.add_sub_cancel, List.drop_left]
theorem ex_len (l : List It) : 12 ≤ (laidL (l ++ [ex1, ex2])).length := by rw [ex_laid, List.length_append, show t12.length = 12 from rfl]; omega
theorem ex_read1 : rV t12 0 false 8 true = 578437695752307201 := by decide
theorem ex_read2 : rV t12 8 false 4 false = 67305985 := by decide
theorem ex1_ok : ex1.ok := ⟨⟨by decide, by decide⟩, ⟨by decide, by decide⟩⟩
theorem ex2_ok : ex2.ok := ⟨⟨by decide, by decide⟩, ⟨by decide, by decide⟩⟩
/-- where item k begins -/
def offL (l : List It) (k : Nat) : Nat := (laidL (l.take k)).length
theorem offL_next {l : List It} {k : Nat} (h : k < l.length) : offL l (k + 1) = offL l k + itM l[k] := by unfold offL; rw [laidL_next h, List.length_append, itB_len]
theorem offL_end {l : List It} {k : Nat} (h : l.length ≤ k) : offL l k = (laidL l).length := by unfold offL; rw [List.take_of_length_le h]
theorem read_it {l : List It} {k : Nat} (h : k < l.length) (hok : l[k].ok) :
    (l[k].x % 3 = 0 → rV (laidL l) (offL l k) false 1 false = l[k].v.toNat % 256) ∧ (l[k].x % 3 = 1 → rV (laidL l) (offL l k) false 4 l[k].b = l[k].v.toNat % 4294967296) ∧ (l[k].x % 3 = 2 → rV (laidL l) (offL l k) false 8 l[k].b = l[k].v.toNat) := by
  have hr := laid_read h
  have hl := laid_left h
  have e : ∀ m lt, itM l[k] = m → rV (laidL l) (offL l k) false m lt = numO (itB l[k]) lt := by
    intro m lt hm
    subst hm
    rw [rV_ok (by unfold offL; have := itM_le l[k]; omega)]
    unfold offL
    rw [hr]
  refine ⟨fun q => ?_, fun q => ?_, fun q => ?_⟩
  · rw [e 1 false (by unfold itM; rw [if_pos q])]
    unfold itB
    rw [if_pos q, numO_one, UInt8.toNat_ofNat', show (2 : Nat) ^ 8 = 256 from rfl]
    omega
  · rw [e 4 _ (by unfold itM; rw [if_neg (by omega), if_pos q])]
    unfold itB
    rw [if_neg (by omega), if_pos q, numO_ord, show (256 : Nat) ^ 4 = 4294967296 by decide]
    omega
  · rw [e 8 _ (by unfold itM; rw [if_neg (by omega), if_neg (by omega)])]
    unfold itB
    rw [if_neg (by omega), if_neg (by omega), numO_ord, show (256 : Nat) ^ 8 = 18446744073709551616 by decide]
    have := hok.2
    omega
theorem go_it {l : List It} {k : Nat} (h : k < l.length) {m : Nat} (hm : itM l[k] = m) : rK (laidL l) (offL l k) false m = offL l (k + 1) ∧ rF (laidL l) (offL l k) false m = false := by
  subst hm
  have hl := laid_left h
  have hn : ¬ (laidL l).length - offL l k < itM l[k] := by unfold offL; have := itM_le l[k]; omega
  rw [rK_ok hn, rF_ok hn, offL_next h]
  exact ⟨rfl, rfl⟩
end Oc
theorem its_two (w : World) : Its (w.alloc (.cells #[.int .i64 2, .int .u64 72623859790382856, .bool false, .int .i64 1, .int .u64 16909060, .bool true] 40)) (some ⟨w.heap.size, 0, none⟩) 2 [ex1, ex2] := by
  refine ⟨rfl, fun i hi => ?_⟩
  have h2 : i < 2 := hi
  rcases (by omega : i = 0 ∨ i = 1) with rfl | rfl
  · exact ⟨ex1_ok, w.heap.size, 0, rfl, by simp, by simp [ex1], by simp [ex1], by simp [ex1]⟩
  · exact ⟨ex2_ok, w.heap.size, 0, rfl, by simp, by simp [ex2], by simp [ex2], by simp [ex2]⟩
set_option maxHeartbeats 6400000 in
set_option maxRecDepth 100000 in
theorem back_walk16 {w : World} {a : Option Addr} {n c : Nat} {l : List It} (h : Its w a n l) (hn : n ≤ 1048576 ∧ n ≤ c ∧ c ≤ 9223372036854775807) (hE : ErrVar w) :
    Calls Tryd.prog 6 #[.slice a n c] w fun e w' => e = .returned (.bool true) ∧ Below w.heap.size w w' := by
  have HL : Hid (l.length = n) := h.1
  have hO0 : OwI (w.alloc (.cells #[] 40)) w.heap.size (.slice (some ⟨w.heap.size, 0, none⟩) 0 0) [] := World.ownsRow_made w #[] 0 (Nat.le_refl _) (Nat.zero_le _) rfl
  have hba : Below w.heap.size w (w.alloc (.cells #[] 40)) := alloc_below _
  have hok : ∀ i ∈ l ++ [ex1, ex2], i.ok := fun i hi => by
    rcases List.mem_append.1 hi with hi | hi
    · obtain ⟨k, hk, rfl⟩ := List.mem_iff_getElem.1 hi
      exact (h.2 k hk).1
    · rcases List.mem_cons.1 hi with rfl | hi
      · exact ⟨⟨by decide, by decide⟩, ⟨by decide, by decide⟩⟩
      · rw [List.mem_singleton.1 hi]
        exact ⟨⟨by decide, by decide⟩, ⟨by decide, by decide⟩⟩
  have HK : Hid (∀ i ∈ l ++ [ex1, ex2], i.ok) := hok
  clear hok
  go_enter Tryd.func6, Tryd.ntmps6
  go_wp2_with (at_builtin; refine wpList_appI rfl _ _ rfl rfl hO0 rfl (h.later hba) (by simp; omega) hba.size ?_)
  intro v1 w1 hO1 hg1
  have hb1 := hO0.below hba (Nat.le_refl _) hg1
  clear hg1 hO0 hba
  go_wp2_with (at_builtin; refine wpList_appI rfl _ _ rfl rfl (hO1.later (alloc_below _)) rfl (its_two w1) (by rw [HL.out]; omega) (by simp; have := hb1.size; omega) ?_)
  intro v2 w2 hO2 hg2
  have hb2 := (hO1.later (alloc_below _)).below (hb1.alloc hb1.size _) (Nat.le_refl _) hg2
  clear hg2 hO1 hb1
  obtain ⟨L, hL⟩ : ∃ L, L = l ++ [ex1, ex2] := ⟨_, rfl⟩
  have HLL : Hid (L = l ++ [ex1, ex2]) := hL
  have hO2' : OwI w2 w.heap.size v2 L := by rw [hL]; exact hO2
  rw [← hL] at HK
  have hLn : L.length = n + 2 := by rw [hL, List.length_append, HL.out]; rfl
  clear hL hO2
  obtain ⟨la, lc, rfl, hits, hlc1, hlc2⟩ := hO2'.its HK.out
  rw [hLn] at hits hlc1 ⊢
  have HLn : Hid (L.length = n + 2) := hLn
  have hE2 := hE.later hb2
  have hD := laid16_any hits (by omega) ⟨hlc1, hlc2⟩
  clear hLn hO2' hE h
  go_wp2_with fail
  refine hD.mono ?_
  rintro e w3 ⟨v3, rfl, hO3, hb3⟩
  have hB3 := hb2.trans (hb3.mono hb2.size)
  have hits3 := hits.later hb3
  have hE3 := hE2.later hb3
  obtain ⟨ba, bc, rfl, hrow⟩ := hO3.row
  have hlen8 := laidL_len_le L
  rw [HLn.out] at hlen8
  have HT : Hid ((laidL L).drop ((laidL L).length - 12) = t12 ∧ 12 ≤ (laidL L).length) := by show _ ∧ _; rw [HLL.out]; exact ⟨ex_drop l, ex_len l⟩
  obtain ⟨N, hN⟩ : ∃ N, N = (laidL L).length := ⟨_, rfl⟩
  have HN : Hid (N = (laidL L).length) := hN
  rw [← hN] at hrow hlen8 ⊢
  clear hN hits hE2 hD hb2 hb3 hO3
  have hNw := newReader_any hrow (by omega)
  go_wp2_with fail
  refine hNw.mono ?_
  rintro e w4 ⟨g, rfl, hR4, hg, hb4⟩
  clear hNw
  go_wp2
  go_loopw [5, 6] (fun t i wr => ∃ k : Nat, k ≤ n + 2 ∧ i = .int .i64 (k : Int) ∧ t = .int .i64 ((offL L k : Nat) : Int) ∧ Rd wr g (laidL L) (offL L k) false ∧ Below w3.heap.size w3 wr) (fun _ i _ => n + 2 - (intOf i).toNat)
  case atStart => exact ⟨0, by omega, rfl, rfl, hR4, hb4⟩
  case round =>
    obtain ⟨k, hk, rfl, rfl, hR, hB⟩ := hrel
    clear hR4 hb4
    have hoff9 : offL L k ≤ N := by rw [HN.out]; exact hR.le.1
    by_cases hlt : k < n + 2
    · have hkl : k < L.length := by rw [HLn.out]; exact hlt
      obtain ⟨hok, b, o, rfl, hbB, hjunk⟩ := hits3.2 k hkl
      clear hjunk
      have hcell := fun (w' : World) (hb : Below w3.heap.size w3 w') => ((hits3.later hb).2 k hkl).2
      obtain ⟨rd0, rd1, rd2⟩ := read_it hkl hok
      have hnx := offL_next hkl
      have hmo := fun (m : Nat) (hm : itM L[k] = m) => go_it hkl hm
      have hlw := laid_left hkl
      have hlw2 : offL L k + itM L[k] ≤ N := by rw [HN.out]; exact hlw
      obtain ⟨it, hit⟩ : ∃ it, it = L[k] := ⟨_, rfl⟩
      rw [← hit] at hok hcell rd0 rd1 rd2 hnx hmo hlw2
      clear hit hlw
      have cl : ∀ w' : World, Below w3.heap.size w3 w' → w'.cell? ⟨b, o + k * 3, none⟩ = some (.int .i64 it.x) ∧ w'.cell? ⟨b, o + k * 3 + 1, none⟩ = some (.int .u64 it.v) ∧ w'.cell? ⟨b, o + k * 3 + 2, none⟩ = some (.bool it.b) := fun w' hb => by
        rw [Nat.mul_comm k 3]
        obtain ⟨b', o', e, _, c0, c1, c2⟩ := hcell w' hb
        simp only [Option.some.injEq, Addr.mk.injEq, and_true] at e
        obtain ⟨rfl, rfl⟩ := e
        exact ⟨c0, c1, c2⟩
      clear hcell hkl
      obtain ⟨c0, c1, c2⟩ := cl wr hB
      obtain ⟨V, hV⟩ : ∃ V : Nat, it.v = (V : Int) := ⟨it.v.toNat, by have := hok.2; omega⟩
      have hV9 : V < 18446744073709551616 := by have := hok.2; omega
      have hVt : it.v.toNat = V := by rw [hV]; rfl
      rw [hVt] at rd0 rd1 rd2
      rw [hV] at c1 cl
      have hW := fun w => wide16_any it.x (V : Int) it.b w
      have hWd := fun w => width16_any it.x (V : Int) it.b w
      have hwd := itM_wd it
      have hmi : (it.x % 3 = 0 ∧ itM it = 1) ∨ (it.x % 3 = 1 ∧ itM it = 4) ∨ (it.x % 3 = 2 ∧ itM it = 8) := by
        rcases (by omega : it.x % 3 = 0 ∨ it.x % 3 = 1 ∨ it.x % 3 = 2) with q | q | q
        · exact Or.inl ⟨q, by unfold itM; rw [if_pos q]⟩
        · exact Or.inr (Or.inl ⟨q, by unfold itM; rw [if_neg (by omega), if_pos q]⟩)
        · exact Or.inr (Or.inr ⟨q, by unfold itM; rw [if_neg (by omega), if_neg (by omega)]⟩)
      generalize wdI it.x = WD at *
      generalize it.x % 3 = r at *
      generalize it.x = X at *
      generalize it.b = lt at *
      generalize itM it = M at *
      clear hok hV hVt
      go_wp2_with fail
      refine (hW _).mono ?_
      rintro e w5 ⟨rfl, hb5⟩
      have hR5 := hR.later hb5
      have hB5 := hB.trans (hb5.mono hB.size)
      obtain ⟨c0, c1, c2⟩ := cl w5 hB5
      clear hW hR hB hb5
      obtain ⟨O, hO⟩ : ∃ O, O = offL L k := ⟨_, rfl⟩
      have HO : Hid (O = offL L k) := hO
      rw [← hO] at hR5 hnx hmo hlw2 rd0 rd1 rd2 hoff9 ⊢
      clear hO
      rcases hmi with ⟨rfl, rfl⟩ | ⟨rfl, rfl⟩ | ⟨rfl, rfl⟩
      · have hC := byte16_any hR5
        rw [rd0 rfl, (hmo 1 rfl).1, (hmo 1 rfl).2] at hC
        have hwd' : WD = 1 := hwd
        subst hwd'
        have hnx' : offL L (k + 1) = O + 1 := hnx
        rw [hnx'] at hC
        have HX : Hid (offL L (k + 1) = O + 1) := hnx'
        clear rd0 rd1 rd2 hmo hwd hnx hnx'
        have ev : (V : Int) % 256 = ((V % 256 : Nat) : Int) := by omega
        have hu : V % 256 < 256 := Nat.mod_lt _ (by decide)
        generalize V % 256 = U at *
        have tv : ((U : Int) != (U : Int)) = false := by simp
        go_wp2_with fail
        refine hC.mono ?_
        rintro e w6 ⟨rfl, hR6, hI6⟩
        have hB6 := rdBelow hB5 hg hI6
        obtain ⟨c0, c1, c2⟩ := cl w6 hB6
        clear hC hR5 hB5 hI6
        go_wp2_with fail
        refine (hWd _).mono ?_
        rintro e w7 ⟨rfl, hb7⟩
        have hR7 := hR6.later hb7
        have hB7 := hB6.trans (hb7.mono hB6.size)
        clear hWd hR6 hB6 hb7 c0 c1 c2 cl
        have ea : ((O + 1 : Nat) : Int) = (O : Int) + 1 := by omega
        have hA := at16_any hR7
        rw [ea] at hA
        have ta : ((O : Int) + 1 != (O : Int) + 1) = false := by simp
        go_wp2_with fail
        refine hA.mono ?_
        rintro e w8 ⟨rfl, rfl⟩
        clear hA
        have hLe := left16_any hR7
        rw [← HN.out, show ((N - (O + 1) : Nat) : Int) = (N : Int) - ((O : Int) + 1) by omega] at hLe
        have tl : ((N : Int) - ((O : Int) + 1) != (N : Int) - ((O : Int) + 1)) = false := by simp
        go_wp2_with fail
        refine hLe.mono ?_
        rintro e w9 ⟨rfl, d9, rfl⟩
        clear hLe
        have hR9 := hR7.later (below_drewN (Below.refl _ _) d9)
        have hB9 := below_drewN hB7 d9
        clear hR7 hB7
        go_wp2_with fail
        refine (err16_none hR9).mono ?_
        rintro e w10 ⟨rfl, rfl⟩
        go_wp2
        go_roundw
        case rel => exact ⟨k + 1, by omega, by go_num, by rw [HX.out]; go_num, by rw [HX.out]; exact hR9, hB9⟩
        case measure => simp [intOf]; omega
      · have hC := word32_any (little := lt) hR5
        rw [rd1 rfl, (hmo 4 rfl).1, (hmo 4 rfl).2] at hC
        have hwd' : WD = 4 := hwd
        subst hwd'
        have hnx' : offL L (k + 1) = O + 4 := hnx
        rw [hnx'] at hC
        have HX : Hid (offL L (k + 1) = O + 4) := hnx'
        clear rd0 rd1 rd2 hmo hwd hnx hnx'
        have ev : (V : Int) % 4294967296 = ((V % 4294967296 : Nat) : Int) := by omega
        have hu : V % 4294967296 < 4294967296 := Nat.mod_lt _ (by decide)
        generalize V % 4294967296 = U at *
        have tv : ((U : Int) != (U : Int)) = false := by simp
        go_wp2_with fail
        refine hC.mono ?_
        rintro e w6 ⟨rfl, hR6, hI6⟩
        have hB6 := rdBelow hB5 hg hI6
        obtain ⟨c0, c1, c2⟩ := cl w6 hB6
        clear hC hR5 hB5 hI6
        go_wp2_with fail
        refine (hWd _).mono ?_
        rintro e w7 ⟨rfl, hb7⟩
        have hR7 := hR6.later hb7
        have hB7 := hB6.trans (hb7.mono hB6.size)
        clear hWd hR6 hB6 hb7 c0 c1 c2 cl
        have ea : ((O + 4 : Nat) : Int) = (O : Int) + 4 := by omega
        have hA := at16_any hR7
        rw [ea] at hA
        have ta : ((O : Int) + 4 != (O : Int) + 4) = false := by simp
        go_wp2_with fail
        refine hA.mono ?_
        rintro e w8 ⟨rfl, rfl⟩
        clear hA
        have hLe := left16_any hR7
        rw [← HN.out, show ((N - (O + 4) : Nat) : Int) = (N : Int) - ((O : Int) + 4) by omega] at hLe
        have tl : ((N : Int) - ((O : Int) + 4) != (N : Int) - ((O : Int) + 4)) = false := by simp
        go_wp2_with fail
        refine hLe.mono ?_
        rintro e w9 ⟨rfl, d9, rfl⟩
        clear hLe
        have hR9 := hR7.later (below_drewN (Below.refl _ _) d9)
        have hB9 := below_drewN hB7 d9
        clear hR7 hB7
        go_wp2_with fail
        refine (err16_none hR9).mono ?_
        rintro e w10 ⟨rfl, rfl⟩
        go_wp2
        go_roundw
        case rel => exact ⟨k + 1, by omega, by go_num, by rw [HX.out]; go_num, by rw [HX.out]; exact hR9, hB9⟩
        case measure => simp [intOf]; omega
      · have hC := word64_any (little := lt) hR5
        rw [rd2 rfl, (hmo 8 rfl).1, (hmo 8 rfl).2] at hC
        have hwd' : WD = 8 := hwd
        subst hwd'
        have hnx' : offL L (k + 1) = O + 8 := hnx
        rw [hnx'] at hC
        have HX : Hid (offL L (k + 1) = O + 8) := hnx'
        clear rd0 rd1 rd2 hmo hwd hnx hnx'
        have tv : ((V : Int) != (V : Int)) = false := by simp
        go_wp2_with fail
        refine hC.mono ?_
        rintro e w6 ⟨rfl, hR6, hI6⟩
        have hB6 := rdBelow hB5 hg hI6
        obtain ⟨c0, c1, c2⟩ := cl w6 hB6
        clear hC hR5 hB5 hI6
        go_wp2_with fail
        refine (hWd _).mono ?_
        rintro e w7 ⟨rfl, hb7⟩
        have hR7 := hR6.later hb7
        have hB7 := hB6.trans (hb7.mono hB6.size)
        clear hWd hR6 hB6 hb7 c0 c1 c2 cl
        have ea : ((O + 8 : Nat) : Int) = (O : Int) + 8 := by omega
        have hA := at16_any hR7
        rw [ea] at hA
        have ta : ((O : Int) + 8 != (O : Int) + 8) = false := by simp
        go_wp2_with fail
        refine hA.mono ?_
        rintro e w8 ⟨rfl, rfl⟩
        clear hA
        have hLe := left16_any hR7
        rw [← HN.out, show ((N - (O + 8) : Nat) : Int) = (N : Int) - ((O : Int) + 8) by omega] at hLe
        have tl : ((N : Int) - ((O : Int) + 8) != (N : Int) - ((O : Int) + 8)) = false := by simp
        go_wp2_with fail
        refine hLe.mono ?_
        rintro e w9 ⟨rfl, d9, rfl⟩
        clear hLe
        have hR9 := hR7.later (below_drewN (Below.refl _ _) d9)
        have hB9 := below_drewN hB7 d9
        clear hR7 hB7
        go_wp2_with fail
        refine (err16_none hR9).mono ?_
        rintro e w10 ⟨rfl, rfl⟩
        go_wp2
        go_roundw
        case rel => exact ⟨k + 1, by omega, by go_num, by rw [HX.out]; go_num, by rw [HX.out]; exact hR9, hB9⟩
        case measure => simp [intOf]; omega
    · have hke : offL L k = N := by rw [HN.out]; exact offL_end (by rw [HLn.out]; omega)
      rw [hke] at hR ⊢
      have tn : ((N : Int) != (N : Int)) = false := by simp
      have h12 : 12 ≤ N := by rw [HN.out]; exact HT.out.2
      have hsh1 : (laidL L).length - N < 1 := by rw [← HN.out]; omega
      have hby := byte16_any hR
      rw [rV_short hsh1, rK_short hsh1, rF_short hsh1] at hby
      have hl0 : (laidL L).length - N = 0 := by rw [← HN.out]; omega
      clear hke hsh1
      go_wp2_with fail
      refine hby.mono ?_
      rintro e w5 ⟨rfl, hR5, hI5⟩
      have hB5 := rdBelow hB hg hI5
      clear hby hR hB hI5
      go_wp2_with fail
      refine (err16_some hR5).mono ?_
      rintro e w6 ⟨f6, rfl, hF6, hb6⟩
      have hR6 := hR5.later hb6
      have hB6 := hB5.trans (hb6.mono hB5.size)
      have hSE := sameErr_yes hF6 (hE3.later hB6) (by decide)
      clear hR5 hB5 hb6 hF6
      go_wp2_with fail
      refine hSE.mono ?_
      rintro e w7 ⟨rfl, hb7⟩
      have hR7 := hR6.later hb7
      have hB7 := hB6.trans (hb7.mono hB6.size)
      clear hR6 hB6 hb7 hSE
      have hwd7 := word64_any (little := true) hR7
      rw [rV_err, rK_err, rF_err] at hwd7
      go_wp2_with fail
      refine hwd7.mono ?_
      rintro e w8 ⟨rfl, hR8, hI8⟩
      have hB8 := rdBelow hB7 hg hI8
      clear hwd7 hR7 hB7 hI8
      have hwd8 := word32_any (little := false) hR8
      rw [rV_err, rK_err, rF_err] at hwd8
      go_wp2_with fail
      refine hwd8.mono ?_
      rintro e w9 ⟨rfl, hR9, hI9⟩
      have hB9 := rdBelow hB8 hg hI9
      clear hwd8 hR8 hB8 hI9
      go_wp2_with fail
      refine (err16_some hR9).mono ?_
      rintro e w10 ⟨f10, rfl, hF10, hb10⟩
      have hR10 := hR9.later hb10
      have hB10 := hB9.trans (hb10.mono hB9.size)
      have hSE := sameErr_yes hF10 (hE3.later hB10) (by decide)
      clear hR9 hB9 hb10 hF10
      go_wp2_with fail
      refine hSE.mono ?_
      rintro e w11 ⟨rfl, hb11⟩
      have hR11 := hR10.later hb11
      have hB11 := hB10.trans (hb11.mono hB10.size)
      clear hR10 hB10 hb11 hSE
      go_wp2_with fail
      refine (at16_any hR11).mono ?_
      rintro e w12 ⟨rfl, rfl⟩
      have hLe := left16_any hR11
      rw [hl0] at hLe
      go_wp2_with fail
      refine hLe.mono ?_
      rintro e w13 ⟨rfl, d13, rfl⟩
      clear hLe
      have hB13 := below_drewN hB11 d13
      clear hR11 hB11
      generalize w12.drewN d13 = w13 at *
      obtain ⟨D, hD⟩ : ∃ D, N = D + 12 := ⟨N - 12, by omega⟩
      have eD : (N : Int) - 12 = (D : Int) := by omega
      have hDn : (D : Int) ≤ (N : Int) := by omega
      have hrow13 := hrow.later hB13
      have hcc := hrow.2
      have HD : Hid (N = D + 12) := hD
      have e12 : N - D = 12 := by omega
      clear hD
      have hr12 : Rb w13 (Option.map (fun x => x.add D) ba) 12 (bc - D) t12 := by
        have hd := hrow13.drop (k := D) (m := 12) (c' := bc - D) (a' := Option.map (fun x => x.add D) ba) (by have := HD.out; omega) (by have := HD.out; omega) (by have := HD.out; omega) (by omega) (fun _ g o e => by
          rw [e]
          show some ((⟨g, o, none⟩ : Addr).add D) = _
          rw [add_none])
        have ed : (laidL L).drop D = t12 := by
          have := HT.out.1
          rwa [← HN.out, show N - 12 = D by have := HD.out; omega] at this
        rwa [ed] at hd
      have hNw := newReader_any hr12 (by omega)
      clear hr12
      go_wp2_with fail
      refine hNw.mono ?_
      rintro e w14 ⟨g2, rfl, hR14, hg2, hb14⟩
      have hB14 := hB13.trans (hb14.mono hB13.size)
      have hg3 : w3.heap.size ≤ g2 := Nat.le_trans hB13.size hg2
      have hw14 := word64_any (little := true) hR14
      rw [ex_read1, show rK t12 0 false 8 = 8 by decide, show rF t12 0 false 8 = false by decide] at hw14
      clear hNw hR14 hb14 hB13
      go_wp2_with fail
      refine hw14.mono ?_
      rintro e w15 ⟨rfl, hR15, hI15⟩
      have hB15 := rdBelow hB14 hg3 hI15
      have hw15 := word32_any (little := false) hR15
      rw [ex_read2] at hw15
      clear hw14 hB14 hI15 hR15
      go_wp2_with fail
      refine hw15.mono ?_
      rintro e w16 ⟨rfl, hR16, hI16⟩
      have hB16 := rdBelow hB15 hg3 hI16
      clear hw15 hB15 hI16 hR16
      go_wp2
      go_ret
      exact ⟨rfl, hB3.trans (hB16.mono hB3.size)⟩
end Go.Proofs.YtchlflmdannhaaaDoor

/- the walk of LemireBounds. -/
import Derived.Test.YtbbmoaipilmmdaaGreatDoorLemL
import Derived.Test.YtbbmoaipilmmdaaGreatDoorBaseF
namespace Go.Proofs.YtbbmoaipilmmdaaGreatDoor
open Go.ChangeShapes Go.WideShapes Go.ChangeAt Go.RowKit
open Na Ar Lx
set_option linter.unusedVariables false
theorem byte_at {s : ByteArray} {i : Nat} (h : i < s.size) : s.data.toList[i]? = some (s.get! i) := by rw [get_byte h]; exact Lib.data_getElem? s i h
theorem dgt_dec {s : ByteArray} {i : Nat} : dgt s i < 10 ↔ isD (s.get! i) = true := by
  have hb := UInt8.toNat_lt (s.get! i)
  unfold dgt valN isD
  constructor
  · intro h
    split at h
    · rename_i q; simp; omega
    · split at h
      · omega
      · split at h <;> omega
  · intro h
    simp at h
    rw [if_pos (by omega)]; omega
theorem dgt_val {s : ByteArray} {i : Nat} (h : isD (s.get! i) = true) : dgt s i = ((s.get! i).toNat : Int) - 48 := by
  obtain ⟨h0, h1⟩ := isD_bd h
  unfold dgt valN
  rw [if_pos (by omega)]
theorem allD_at {s : ByteArray} : allD s.data.toList = true ↔ ∀ i, i < s.size → dgt s i < 10 := by
  rw [allD_iff]
  constructor
  · intro h i hi
    exact dgt_dec.mpr (h _ (List.mem_of_getElem? (byte_at hi)))
  · intro h b hb
    obtain ⟨j, hj, e⟩ := List.mem_iff_getElem.mp hb
    have hj' : j < s.size := by rw [Lib.size_eq]; exact hj
    have := byte_at hj'
    rw [List.getElem?_eq_getElem hj, e] at this
    rw [Option.some.inj this]
    exact dgt_dec.mp (h j hj')
theorem numB_dv {s : ByteArray} (h : allD s.data.toList = true) : ∀ i, i ≤ s.size → numB s 10 i = dv (s.data.toList.take i) := by
  intro i
  induction i with
  | zero => intro _; simp [numB, dv]
  | succ i ih =>
    intro hi
    have hl : i < s.size := by omega
    rw [List.take_add_one, byte_at hl]
    show numB s 10 i * 10 + dgt s i = dv (_ ++ [s.get! i])
    rw [dv_snoc, ih (by omega), dgt_val (dgt_dec.mp (allD_at.mp h i hl))]
theorem numB_all {s : ByteArray} (h : allD s.data.toList = true) : numB s 10 s.size = dv s.data.toList := by
  rw [numB_dv h s.size (Nat.le_refl _), List.take_of_length_le (by rw [← Lib.size_eq]; exact Nat.le_refl _)]
theorem ordN_three (A B : Int) : (A < B ∧ ordN A B = -1) ∨ (A = B ∧ ordN A B = 0) ∨ (B < A ∧ ordN A B = 1) := by
  rcases Int.lt_trichotomy A B with h | h | h
  · exact Or.inl ⟨h, ordN_lt h⟩
  · exact Or.inr (Or.inl ⟨h, ordN_eq h⟩)
  · exact Or.inr (Or.inr ⟨h, ordN_gt h⟩)
set_option maxHeartbeats 6400000 in
set_option maxRecDepth 100000 in
theorem bounds_walk {s : ByteArray} (hs : s.size ≤ 1048576) {w : World} (hT : TenVar w) (hE : ErrVar w) :
    Calls Tryz.prog 5 #[.string s] w fun r w' => r = .returned (.bool true) ∧ Below w.heap.size w w' := by
  have h1 := lemCut_any s (by omega) w
  have h2 := fun w => parseF_any s 10 (by omega) w
  have hsl : s.data.toList.length = s.size := (Lib.size_eq s).symm
  by_cases h0 : s.size = 0
  · have hem : s.toList.isEmpty = true := by
      rw [Lib.toList_data]
      have : s.data.toList = [] := List.length_eq_zero_iff.mp (by rw [hsl]; exact h0)
      rw [this]; rfl
    have hnil : s.data.toList = [] := List.length_eq_zero_iff.mp (by rw [hsl]; exact h0)
    have c1 : cutV s.data.toList = 0 := by rw [hnil]; decide
    have c2 : cutN s.data.toList = 0 := by rw [hnil]; decide
    have c3 : cutMr s.data.toList = false := by rw [hnil]; decide
    have c4 : cutE s.data.toList = 0 := by rw [hnil]; decide
    rw [c1, c2, c3, c4] at h1
    clear c1 c2 c3 c4 hnil h0 hsl
    go_enter Tryz.func5, Tryz.ntmps5
    go_wp2_with fail
    refine h1.mono ?_
    rintro r w1 ⟨rfl, hB⟩
    clear h1
    go_wp2_with fail
    refine (h2 _).mono ?_
    rintro r w2 ⟨code, p, _, ⟨⟨_, v, rfl, _⟩ | ⟨_, g, rfl, _⟩, hb⟩⟩
    all_goals
      have hB := hB.trans (hb.mono hB.size)
      clear h2 hb
      have ha := alive10_any (hT.later hB)
      go_wp2_with fail
      refine ha.mono ?_
      rintro r w3 ⟨rfl, hb⟩
      have hB := hB.trans (hb.mono hB.size)
      clear ha hb
      go_wp2
      go_ret
      exact ⟨rfl, hB⟩
  · have hem : s.toList.isEmpty = false := by
      rw [Lib.toList_data, List.isEmpty_eq_false_iff]
      intro hc
      rw [hc] at hsl
      exact h0 hsl.symm
    cases hd : allD s.data.toList
    · have c1 : cutV s.data.toList = 0 := by unfold cutV; rw [hd]; rfl
      have c2 : cutN s.data.toList = 0 := by unfold cutN; rw [hd]; rfl
      have c3 : cutMr s.data.toList = false := by unfold cutMr; rw [hd]; rfl
      have c4 : cutE s.data.toList = 41 := by unfold cutE; rw [hd]; rfl
      rw [c1, c2, c3, c4] at h1
      have HP : Hid (∀ code p, PCode s 10 code p → code = 41) := fun code p q => by
        rcases q with ⟨a1, _⟩ | ⟨_, _, a2, _⟩ | ⟨_, i, i1, i2, i3, a2, a3⟩ | ⟨_, ⟨_, a0⟩, _⟩ | ⟨_, ⟨_, a0⟩, _⟩
        · omega
        · exact a2
        · exact a2
        · rw [allD_at.mpr a0] at hd; cases hd
        · rw [allD_at.mpr a0] at hd; cases hd
      clear c1 c2 c3 c4 h0 hsl hd
      go_enter Tryz.func5, Tryz.ntmps5
      go_wp2_with fail
      refine h1.mono ?_
      rintro r w1 ⟨rfl, hB⟩
      clear h1
      go_wp2_with fail
      refine (h2 _).mono ?_
      rintro r w2 ⟨code, p, hp, hq, hb⟩
      obtain rfl := HP.out _ _ hp
      obtain ⟨g, rfl, hF⟩ : ∃ g, r = .returned (.tuple #[.slice none 0 0, .iface 122 (.pointer (some ⟨g, 0, none⟩))]) ∧ FaultAt w2 g p 41 := by
        rcases hq with ⟨hc, _⟩ | ⟨_, hq⟩
        · omega
        · exact hq
      have hB := hB.trans (hb.mono hB.size)
      clear h2 hb hp HP hq
      have ha := alive10_any (hT.later hB)
      go_wp2_with fail
      refine ha.mono ?_
      rintro r w3 ⟨rfl, hb⟩
      have hB := hB.trans (hb.mono hB.size)
      have hC := codeFault_any (hF.later hb) (hE.later hB)
      clear ha hb hF
      go_wp2_with fail
      refine hC.mono ?_
      rintro r w4 ⟨rfl, hb⟩
      have hB := hB.trans (hb.mono hB.size)
      clear hC hb
      go_wp2
      go_ret
      exact ⟨rfl, hB⟩
    · have c4 : cutE s.data.toList = 0 := by unfold cutE; rw [hd]; rfl
      rw [c4] at h1
      obtain ⟨rr, x1, x2, x3, x4, x5, x6, x7, x8⟩ := cut_num hd
      rw [hsl] at x1 x3 x5 x8
      have hnum := numB_all hd
      rw [hnum, x1] at h2
      generalize cutV s.data.toList = V at *
      generalize cutN s.data.toList = n at *
      generalize cutMr s.data.toList = mr at *
      obtain ⟨K, hK⟩ : ∃ K : Nat, s.size - n = K := ⟨_, rfl⟩
      rw [hK] at h2 x1 x3
      have HP : Hid (∀ code p, PCode s 10 code p → (code = 0 ∧ (words (V * 10 ^ K + rr)).length ≤ 4096) ∨ (code = 21 ∧ 4096 < (words (V * 10 ^ K + rr)).length)) := fun code p q => by
        rw [← x1, ← hnum]
        rcases q with ⟨a1, _⟩ | ⟨_, a0, _, _⟩ | ⟨_, i, i1, i2, i3, a2, a3⟩ | ⟨_, _, al, a2, _⟩ | ⟨_, _, al, a2, _⟩
        · omega
        · exact absurd a0 h0
        · have := allD_at.mp hd i i1; omega
        · exact Or.inr ⟨a2, al⟩
        · exact Or.inl ⟨a2, al⟩
      have hV : U V := by unfold U; omega
      have hlong : Hid (4096 < (words (V * 10 ^ K + rr)).length → n < s.size) := fun q => by
        apply Decidable.byContradiction
        intro hc
        have k0 : K = 0 := by omega
        rw [k0, Int.pow_zero] at x3 q
        have e : V * 1 + rr = V := by omega
        rw [e] at q
        have := (Lt.word hV).len
        omega
      have hTp : (0 : Int) < 10 ^ K := Int.pow_pos (by omega)
      have hKI : (s.size : Int) - (n : Int) = (K : Int) := by omega
      have hTen := fun w => ten_any (K : Int) (by omega) (by omega) w
      have n0 : Nm [V] V := Nm.one hV
      have d1 : decide ((n : Int) < 0) = false := by simp
      have d2 : decide ((s.size : Int) < (n : Int)) = false := by simp; omega
      have d2' : decide ((n : Int) > (s.size : Int)) = false := by simp; omega
      have d3 : decide ((9999999999999999999 : Int) < V) = false := by simp; omega
      have d3' : decide (V > (9999999999999999999 : Int)) = false := by simp; omega
      have d4 : decide ((n : Int) ≤ (s.size : Int)) = true := by simp; omega
      have d5 : decide (V ≤ (9999999999999999999 : Int)) = true := by simp; omega
      have hN0 : 0 ≤ V * 10 ^ K := Int.mul_nonneg x6 (by omega)
      clear x1 hnum hd c4 hsl
      go_enter Tryz.func5, Tryz.ntmps5
      go_wp2_with fail
      refine h1.mono ?_
      rintro r w1 ⟨rfl, hB⟩
      clear h1
      go_wp2_with fail
      refine (h2 _).mono ?_
      rintro r w2 ⟨code, p, hp, hq, hb⟩
      have hB := hB.trans (hb.mono hB.size)
      have hcd := HP.out _ _ hp
      clear h2 hp HP
      have ha := fun w3 (h : Below w.heap.size w w3) => alive10_any (hT.later h)
      rcases hcd with ⟨rfl, hl⟩ | ⟨rfl, hl⟩
      · obtain ⟨v, rfl, ho⟩ : ∃ v, r = .returned (.tuple #[v, .nilIface]) ∧ Own .u64 w2 w1.heap.size 22 v (words (V * 10 ^ K + rr)) := by
          rcases hq with ⟨_, hq⟩ | ⟨hc, _⟩
          · exact hq
          · exact absurd rfl hc
        obtain ⟨ax, cx, rfl, rx⟩ := ho.readsC
        have nx : Nm (words (V * 10 ^ K + rr)) (V * 10 ^ K + rr) := ⟨Dg_words _, num_words (by omega), by omega⟩
        clear hq ho hlong hb
        have ha1 := ha _ hB
        have hlx : (words (V * 10 ^ K + rr)).length ≤ 4096 := hl
        clear hl
        obtain ⟨lx, HLX⟩ : ∃ lx, Hid ((words (V * 10 ^ K + rr)).length = lx) := ⟨_, rfl⟩
        rw [HLX.out] at rx hlx ⊢
        generalize words (V * 10 ^ K + rr) = xs at *
        clear HLX
        go_wp2_with fail
        refine ha1.mono ?_
        rintro r w3 ⟨rfl, hb⟩
        have hB := hB.trans (hb.mono hB.size)
        have rx := rx.later hb
        clear ha1 hb
        have hC := codeNil_any w3
        go_wp2_with fail
        refine hC.mono ?_
        rintro r w4 ⟨rfl, hb⟩
        have hB := hB.trans (hb.mono hB.size)
        have rx := rx.later hb
        clear hC hb ha
        have d6 : (decide ((n : Int) < (s.size : Int)) = true ∧ decide (V < (1000000000000000000 : Int)) = false) ∨ decide ((n : Int) < (s.size : Int)) = false := by
          by_cases q : n < s.size
          · left; have := x8 q; exact ⟨by simp; omega, by simp; omega⟩
          · right; simp; omega
        rcases d6 with ⟨d6, d7⟩ | d6
        · go_wp2_with fail
          all_goals
            refine (hTen _).mono ?_
            rintro r w5 ⟨v, rfl, ho, hb⟩
            have hB := hB.trans (hb.mono hB.size)
            have rx := rx.later hb
            clear hTen hb
            by_cases hbig : (78913 : Int) < K
            · have p1 : pwE 78913 (K : Int) = 21 := by unfold pwE; rw [if_neg (by omega), if_pos hbig]
              rw [p1]
              obtain ⟨ap, cp, rfl, _⟩ := ho.readsC
              clear ho p1
              go_wp2
              go_ret
              exact ⟨rfl, hB⟩
            · have p1 : pwE 78913 (K : Int) = 0 := by unfold pwE; rw [if_neg (by omega), if_neg hbig]
              have p2 : pwL 10 78913 (K : Int) = words (10 ^ K) := by unfold pwL; rw [if_neg (by omega), if_neg hbig, Int.toNat_natCast]
              rw [p1]
              rw [p2] at ho
              have lt := ten_lt (n := K) (by omega)
              obtain ⟨ap, kp, cp, ps, rfl, rp, np, hps⟩ := ho.opens lt (by omega)
              have hpl : ps.length ≤ 4096 := by rw [hps.out]; exact lt.len
              clear ho p1 p2 hps lt
              generalize (10 : Int) ^ K = T at *
              have rv := rowC_one w5 V 22
              have bv := alloc_below (w := w5) (.cells #[.int .u64 V] 22)
              have hB := hB.trans (bv.mono hB.size)
              have rx := rx.later bv
              have rp := rp.later bv
              have hM := natMul_any rv rp n0.ws np.ws (by omega) (by have := rp.1.1; omega)
              rw [n0.num, np.num] at hM
              clear rv bv
              go_wp2_with fail
              refine hM.mono ?_
              rintro r w6 ⟨v, rfl, ho, hb⟩
              have hB := hB.trans (hb.mono hB.size)
              have rx := rx.later hb
              have rp := rp.later hb
              clear hM hb
              obtain ⟨al, cl, rfl, rl⟩ := ho.readsC
              have hws : Ws (resL (V * T)) := by
                unfold resL
                split
                · exact Dg_words _
                · exact Dg.nil _
              have hll : (resL (V * T)).length ≤ 4096 := by
                unfold resL
                split
                · assumption
                · simp
              have hA := natAdd_any rl rp hws np.ws (by omega) (by have := rp.1.1; omega)
              rw [np.num] at hA
              clear ho
              obtain ⟨ll, HLL⟩ : ∃ ll, Hid ((resL (V * T)).length = ll) := ⟨_, rfl⟩
              rw [HLL.out] at rl hA ⊢
              by_cases hg : resE (V * T) = 0
              · obtain ⟨g1, g2⟩ := res_ok hg
                rw [hg]
                rw [g1, num_words hN0] at hA
                rw [g1] at rl hll hws HLL
                have nl : Nm (words (V * T)) (V * T) := ⟨hws, num_words hN0, by omega⟩
                clear hg g1 g2 hll hws
                generalize words (V * T) = ls at *
                go_wp2_with fail
                refine hA.mono ?_
                rintro r w7 ⟨v, rfl, ho, hb⟩
                have hB := hB.trans (hb.mono hB.size)
                have rx := rx.later hb
                have rl := rl.later hb
                clear hA hb rp
                obtain ⟨ah, ch, rfl, rh⟩ := ho.readsC
                clear ho
                by_cases hh : resE (V * T + T) = 0
                · obtain ⟨g1, g2⟩ := res_ok hh
                  rw [hh]
                  rw [g1] at rh ⊢
                  have nh : Nm (words (V * T + T)) (V * T + T) := ⟨Dg_words _, num_words (by omega), by omega⟩
                  clear hh g1 g2
                  obtain ⟨lh, HLH⟩ : ∃ lh, Hid ((words (V * T + T)).length = lh) := ⟨_, rfl⟩
                  rw [HLH.out] at rh ⊢
                  generalize words (V * T + T) = hs' at *
                  clear HLH
                  have hc2 : ordN (V * T + rr) (V * T + T) = -1 := ordN_lt (by omega)
                  have hC2 := fun w1 (r1 : RowC w1 ax lx cx xs) (r2 : RowC w1 ah lh ch hs') => cmpK r1 r2 nx nh hc2
                  clear hc2
                  rcases ordN_three (V * T) (V * T + rr) with ⟨q1, q2⟩ | ⟨q1, q2⟩ | ⟨q1, q2⟩
                  · have hmr : mr = true := x4.mpr (by omega)
                    clear x4
                    subst hmr
                    have hC1 := cmpK rl rx nl nx q2
                    clear q1 q2
                    go_wp2_with fail
                    refine hC1.mono ?_
                    rintro r w8 ⟨rfl, hb⟩
                    have hB := hB.trans (hb.mono hB.size)
                    have hC2 := hC2 _ (rx.later hb) (rh.later hb)
                    clear hC1 hb
                    go_wp2_with fail
                    refine hC2.mono ?_
                    rintro r w9 ⟨rfl, hb⟩
                    have hB := hB.trans (hb.mono hB.size)
                    clear hC2 hb
                    go_wp2
                    go_ret
                    exact ⟨rfl, hB⟩
                  · have hmr : mr = false := by
                      cases mr
                      · rfl
                      · have := x4.mp rfl; omega
                    clear x4
                    subst hmr
                    have hC1 := cmpK rl rx nl nx q2
                    clear q1 q2
                    go_wp2_with fail
                    refine hC1.mono ?_
                    rintro r w8 ⟨rfl, hb⟩
                    have hB := hB.trans (hb.mono hB.size)
                    have hC2 := hC2 _ (rx.later hb) (rh.later hb)
                    clear hC1 hb
                    go_wp2_with fail
                    refine hC2.mono ?_
                    rintro r w9 ⟨rfl, hb⟩
                    have hB := hB.trans (hb.mono hB.size)
                    clear hC2 hb
                    go_wp2
                    go_ret
                    exact ⟨rfl, hB⟩
                  · omega
                · have tg : (resE (V * T + T) != 0) = true := bne_yes hh
                  generalize resE (V * T + T) = eh at *
                  generalize (resL (V * T + T)).length = lh at *
                  clear hh
                  go_wp2
                  go_ret
                  exact ⟨rfl, hB⟩
              · have tg : (resE (V * T) != 0) = true := bne_yes hg
                generalize resE (V * T) = eg at *
                clear hg
                go_wp2_with fail
                refine hA.mono ?_
                rintro r w7 ⟨v, rfl, ho, hb⟩
                have hB := hB.trans (hb.mono hB.size)
                obtain ⟨ah, ch, rfl, _⟩ := ho.readsC
                clear hA hb rp rx rl ho
                go_wp2
                go_ret
                exact ⟨rfl, hB⟩
        · go_wp2_with fail
          all_goals
            refine (hTen _).mono ?_
            rintro r w5 ⟨v, rfl, ho, hb⟩
            have hB := hB.trans (hb.mono hB.size)
            have rx := rx.later hb
            clear hTen hb
            by_cases hbig : (78913 : Int) < K
            · have p1 : pwE 78913 (K : Int) = 21 := by unfold pwE; rw [if_neg (by omega), if_pos hbig]
              rw [p1]
              obtain ⟨ap, cp, rfl, _⟩ := ho.readsC
              clear ho p1
              go_wp2
              go_ret
              exact ⟨rfl, hB⟩
            · have p1 : pwE 78913 (K : Int) = 0 := by unfold pwE; rw [if_neg (by omega), if_neg hbig]
              have p2 : pwL 10 78913 (K : Int) = words (10 ^ K) := by unfold pwL; rw [if_neg (by omega), if_neg hbig, Int.toNat_natCast]
              rw [p1]
              rw [p2] at ho
              have lt := ten_lt (n := K) (by omega)
              obtain ⟨ap, kp, cp, ps, rfl, rp, np, hps⟩ := ho.opens lt (by omega)
              have hpl : ps.length ≤ 4096 := by rw [hps.out]; exact lt.len
              clear ho p1 p2 hps lt
              generalize (10 : Int) ^ K = T at *
              have rv := rowC_one w5 V 22
              have bv := alloc_below (w := w5) (.cells #[.int .u64 V] 22)
              have hB := hB.trans (bv.mono hB.size)
              have rx := rx.later bv
              have rp := rp.later bv
              have hM := natMul_any rv rp n0.ws np.ws (by omega) (by have := rp.1.1; omega)
              rw [n0.num, np.num] at hM
              clear rv bv
              go_wp2_with fail
              refine hM.mono ?_
              rintro r w6 ⟨v, rfl, ho, hb⟩
              have hB := hB.trans (hb.mono hB.size)
              have rx := rx.later hb
              have rp := rp.later hb
              clear hM hb
              obtain ⟨al, cl, rfl, rl⟩ := ho.readsC
              have hws : Ws (resL (V * T)) := by
                unfold resL
                split
                · exact Dg_words _
                · exact Dg.nil _
              have hll : (resL (V * T)).length ≤ 4096 := by
                unfold resL
                split
                · assumption
                · simp
              have hA := natAdd_any rl rp hws np.ws (by omega) (by have := rp.1.1; omega)
              rw [np.num] at hA
              clear ho
              obtain ⟨ll, HLL⟩ : ∃ ll, Hid ((resL (V * T)).length = ll) := ⟨_, rfl⟩
              rw [HLL.out] at rl hA ⊢
              by_cases hg : resE (V * T) = 0
              · obtain ⟨g1, g2⟩ := res_ok hg
                rw [hg]
                rw [g1, num_words hN0] at hA
                rw [g1] at rl hll hws HLL
                have nl : Nm (words (V * T)) (V * T) := ⟨hws, num_words hN0, by omega⟩
                clear hg g1 g2 hll hws
                generalize words (V * T) = ls at *
                go_wp2_with fail
                refine hA.mono ?_
                rintro r w7 ⟨v, rfl, ho, hb⟩
                have hB := hB.trans (hb.mono hB.size)
                have rx := rx.later hb
                have rl := rl.later hb
                clear hA hb rp
                obtain ⟨ah, ch, rfl, rh⟩ := ho.readsC
                clear ho
                by_cases hh : resE (V * T + T) = 0
                · obtain ⟨g1, g2⟩ := res_ok hh
                  rw [hh]
                  rw [g1] at rh ⊢
                  have nh : Nm (words (V * T + T)) (V * T + T) := ⟨Dg_words _, num_words (by omega), by omega⟩
                  clear hh g1 g2
                  obtain ⟨lh, HLH⟩ : ∃ lh, Hid ((words (V * T + T)).length = lh) := ⟨_, rfl⟩
                  rw [HLH.out] at rh ⊢
                  generalize words (V * T + T) = hs' at *
                  clear HLH
                  have hc2 : ordN (V * T + rr) (V * T + T) = -1 := ordN_lt (by omega)
                  have hC2 := fun w1 (r1 : RowC w1 ax lx cx xs) (r2 : RowC w1 ah lh ch hs') => cmpK r1 r2 nx nh hc2
                  clear hc2
                  rcases ordN_three (V * T) (V * T + rr) with ⟨q1, q2⟩ | ⟨q1, q2⟩ | ⟨q1, q2⟩
                  · have hmr : mr = true := x4.mpr (by omega)
                    clear x4
                    subst hmr
                    have hC1 := cmpK rl rx nl nx q2
                    clear q1 q2
                    go_wp2_with fail
                    refine hC1.mono ?_
                    rintro r w8 ⟨rfl, hb⟩
                    have hB := hB.trans (hb.mono hB.size)
                    have hC2 := hC2 _ (rx.later hb) (rh.later hb)
                    clear hC1 hb
                    go_wp2_with fail
                    refine hC2.mono ?_
                    rintro r w9 ⟨rfl, hb⟩
                    have hB := hB.trans (hb.mono hB.size)
                    clear hC2 hb
                    go_wp2
                    go_ret
                    exact ⟨rfl, hB⟩
                  · have hmr : mr = false := by
                      cases mr
                      · rfl
                      · have := x4.mp rfl; omega
                    clear x4
                    subst hmr
                    have hC1 := cmpK rl rx nl nx q2
                    clear q1 q2
                    go_wp2_with fail
                    refine hC1.mono ?_
                    rintro r w8 ⟨rfl, hb⟩
                    have hB := hB.trans (hb.mono hB.size)
                    have hC2 := hC2 _ (rx.later hb) (rh.later hb)
                    clear hC1 hb
                    go_wp2_with fail
                    refine hC2.mono ?_
                    rintro r w9 ⟨rfl, hb⟩
                    have hB := hB.trans (hb.mono hB.size)
                    clear hC2 hb
                    go_wp2
                    go_ret
                    exact ⟨rfl, hB⟩
                  · omega
                · have tg : (resE (V * T + T) != 0) = true := bne_yes hh
                  generalize resE (V * T + T) = eh at *
                  generalize (resL (V * T + T)).length = lh at *
                  clear hh
                  go_wp2
                  go_ret
                  exact ⟨rfl, hB⟩
              · have tg : (resE (V * T) != 0) = true := bne_yes hg
                generalize resE (V * T) = eg at *
                clear hg
                go_wp2_with fail
                refine hA.mono ?_
                rintro r w7 ⟨v, rfl, ho, hb⟩
                have hB := hB.trans (hb.mono hB.size)
                obtain ⟨ah, ch, rfl, _⟩ := ho.readsC
                clear hA hb rp rx rl ho
                go_wp2
                go_ret
                exact ⟨rfl, hB⟩
      · obtain ⟨g, rfl, hF⟩ : ∃ g, r = .returned (.tuple #[.slice none 0 0, .iface 122 (.pointer (some ⟨g, 0, none⟩))]) ∧ FaultAt w2 g p 21 := by
          rcases hq with ⟨hc, _⟩ | ⟨_, hq⟩
          · omega
          · exact hq
        have hlt := hlong.out hl
        have hV18 := x8 hlt
        have d8 : decide (V ≥ (1000000000000000000 : Int)) = true := by simp; omega
        have d8' : decide ((1000000000000000000 : Int) ≤ V) = true := by simp; omega
        have ha1 := ha _ hB
        clear hq hl hlong ha hTen hKI
        go_wp2_with fail
        refine ha1.mono ?_
        rintro r w3 ⟨rfl, hb2⟩
        have hB := hB.trans (hb2.mono hB.size)
        have hC := codeFault_any (hF.later hb2) (hE.later hB)
        clear ha1 hb2 hF hb
        go_wp2_with fail
        refine hC.mono ?_
        rintro r w4 ⟨rfl, hb⟩
        have hB := hB.trans (hb.mono hB.size)
        clear hC hb
        go_wp2
        go_ret
        exact ⟨rfl, hB⟩
end Go.Proofs.YtbbmoaipilmmdaaGreatDoor

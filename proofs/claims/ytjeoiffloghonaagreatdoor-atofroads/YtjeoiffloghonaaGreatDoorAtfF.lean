/- package atof: roads. -/
import Derived.Test.YtjeoiffloghonaaGreatDoorAtfE
namespace Go.Proofs.YtjeoiffloghonaaGreatDoor
open Go.ChangeShapes Go.WideShapes Go.ChangeAt Go.RowKit
open Na Ar Lx
set_option linter.unusedVariables false
theorem short_any (k : Int) (ng : Bool) (num : ByteArray) (e : Int) (den : ByteArray) (hk : k = 1 ∨ k = 2 ∨ k = 3) (hs : num.size ≤ 65536) (e0 : -1073741824 ≤ e) (e1 : e ≤ 1073741824) (w : World) :
    Calls Tryz.prog 75 #[.agg (numC k ng num e den)] w fun r w' => r = .returned (.agg (numC k ng (str (shN k num.data.toList)) (shE k num.data.toList e) den)) ∧ Below w.heap.size w w' := by
  by_cases h : k = 3 ∨ num.size ≤ 768
  · have h' : k = 3 ∨ num.data.toList.length ≤ 768 := by rw [← Lib.size_eq]; exact h
    have E1 : shN k num.data.toList = num.data.toList := by unfold shN; rw [if_pos h']
    have E2 : shE k num.data.toList e = e := by unfold shE; rw [if_pos h']
    rw [E1, E2, str_of]
    exact short_same k ng num e den h w
  · exact short_long k ng num e den (by omega) (by omega) hs e0 e1 w
set_option maxHeartbeats 1600000 in
set_option maxRecDepth 100000 in
theorem roads_other (k : Int) (ng : Bool) (num : ByteArray) (e : Int) (den : ByteArray) (hk : k = 2 ∨ k = 3) (hs : num.size ≤ 65536) (e0 : -1073741824 ≤ e) (e1 : e ≤ 1073741824) (w : World) :
    Calls Tryz.prog 33 #[.agg (numC k ng num e den)] w fun r w' => ∃ g h, r = .returned (.slice (some ⟨h, 0, none⟩) 1 1) ∧ Slow1 w' ⟨h, 0, none⟩ g ∧ Bk w' g 23 (numC k ng (str (shN k num.data.toList)) (shE k num.data.toList e) den) ∧ Below w.heap.size w w' := by
  have hS := fun w => short_any k ng num e den (by omega) hs e0 e1 w
  have hR := fun w => slowRoad_any k ng (str (shN k num.data.toList)) (shE k num.data.toList e) den w
  have t : (k != 1) = true := bne_yes (by omega)
  generalize str (shN k num.data.toList) = N at *
  generalize shE k num.data.toList e = E at *
  have B0 := Bk.new w 23 (numC k ng num e den)
  have hb0 : Below w.heap.size w (w.alloc (.cells (numC k ng num e den) 23)) := (Below.refl _ w).alloc (Nat.le_refl _) _
  obtain ⟨w0, hw0⟩ : ∃ w0, w0 = w.alloc (.cells (numC k ng num e den) 23) := ⟨_, rfl⟩
  rw [← hw0] at B0 hb0
  obtain ⟨g, hg⟩ : ∃ g, g = w.heap.size := ⟨_, rfl⟩
  rw [← hg] at B0
  have hsz := hb0.size
  unfold numC at hS hw0 hR ⊢
  go_enter Tryz.func33, Tryz.ntmps33
  go_wp2_with fail
  refine (hS _).mono ?_
  rintro r w1 ⟨rfl, hb1⟩
  rw [← hw0] at hb1
  clear hS
  go_wp2_with fail
  refine (hR _).mono ?_
  rintro r w2 ⟨g2, h2, rfl, s2, b2, hb2⟩
  have B := hb0.trans ((hb1.trans (hb2.mono hb1.size)).mono hsz)
  have c0 := ((B0.later hb1).later hb2).cell 0 (v := .int .i64 k) rfl
  rw [hg] at c0
  have HS : Hid _ := s2
  have HB : Hid _ := b2
  clear hR s2 b2 B0 hb0 hw0 hg
  go_wp2
  go_ret
  exact ⟨g2, h2, rfl, HS.out, HB.out, B⟩
theorem own_two (w4 : World) (F1 F2 : Value) {base : Nat} (h : base ≤ w4.heap.size) (e : TypeId) : (w4.alloc (.cells #[F1, F2] e)).ownsRow base e 1 (.slice (some ⟨w4.heap.size, 0, none⟩) 2 2) 2 [F1, F2] :=
  ⟨rfl, .inr ⟨w4.heap.size, 2, #[F1, F2], rfl, h, heap_alloc_new _ _, by omega, by unfold maxLen; omega, rfl, rfl⟩⟩
theorem own_three {w : World} {base : Nat} {e : TypeId} {v F1 F2 F3 : Value} (h : w.ownsRow base e 1 v 3 [F1, F2, F3]) :
    ∃ h9 cap, v = .slice (some ⟨h9, 0, none⟩) 3 cap ∧ w.cell? ⟨h9, 0, none⟩ = some F1 ∧ w.cell? ⟨h9, 1, none⟩ = some F2 ∧ w.cell? ⟨h9, 2, none⟩ = some F3 := by
  rcases h.2 with ⟨_, hn⟩ | ⟨h9, cap, cur, rfl, _, hc, _, _, _, ht⟩
  · exact absurd hn (by decide)
  · have key : ∀ i, i < 3 → w.cell? ⟨h9, i, none⟩ = ([F1, F2, F3] : List Value)[i]? := fun i hi => by
      rw [← ht, List.getElem?_take, if_pos (by omega), Array.getElem?_toList]
      unfold World.cell?
      rw [hc]
      rfl
    exact ⟨h9, cap, rfl, key 0 (by omega), key 1 (by omega), key 2 (by omega)⟩
theorem info_road : (Tryz.prog.info? 164).map (fun i => (i.zero, i.size, i.bytes)) = some (some .nilFunc, 1, 8) := by kernel_rfl
set_option maxHeartbeats 3200000 in
set_option maxRecDepth 100000 in
theorem roads_dec (ng : Bool) (num : ByteArray) (e : Int) (den : ByteArray) (h0 : 0 < num.size) (hs : num.size ≤ 65536) (e0 : -1073741824 ≤ e) (e1 : e ≤ 1073741824) (hd : ∀ c ∈ num.data.toList, isD c = true) (w : World) :
    Calls Tryz.prog 33 #[.agg (numC 1 ng num e den)] w fun r w' => ∃ h g gm ge gr c, r = .returned (.slice (some ⟨h, 0, none⟩) 3 c) ∧ Roads3 w' h g gm ge gr ∧ Bk w' g 23 (numC 1 ng (str (shN 1 num.data.toList)) (shE 1 num.data.toList e) den) ∧
      w'.cell? ⟨gm, 0, none⟩ = some (.int .u64 (cutV (trimR [48] num.data.toList))) ∧ w'.cell? ⟨ge, 0, none⟩ = some (.int .i64 (e + num.data.toList.length - cutN (trimR [48] num.data.toList))) ∧ w'.cell? ⟨gr, 0, none⟩ = some (.bool (cutMr (trimR [48] num.data.toList))) ∧ Below w.heap.size w w' := by
  obtain ⟨i_r, hi_r, hz0_r, hz1_r, hz2_r⟩ := info_parts info_road
  have hS := fun w => short_any 1 ng num e den (by omega) hs e0 e1 w
  have hR := fun w => slowRoad_any 1 ng (str (shN 1 num.data.toList)) (shE 1 num.data.toList e) den w
  have hT := fun w => trimRight_zero num (by omega) h0 w
  obtain ⟨z, hz⟩ := trimR_split num.data.toList
  have hlen : num.data.toList.length = (trimR [48] num.data.toList).length + z := by
    have := congrArg List.length hz
    rw [List.length_append, List.length_replicate] at this; exact this
  have hC := fun w => lemCut_any (str (trimR [48] num.data.toList)) (by rw [str_size]; rw [← Lib.size_eq] at hlen; omega) w
  rw [str_list] at hC
  obtain ⟨_, _, _, _, _, hcn, _⟩ := cut_num (l := trimR [48] num.data.toList) (allD_iff.mpr (fun c hc => hd c (by rw [hz]; exact List.mem_append_left _ hc)))
  rw [← Lib.size_eq] at hlen
  rw [show (num.data.toList.length : Int) = (num.size : Int) by rw [← Lib.size_eq]]
  clear hz hd
  generalize str (shN 1 num.data.toList) = N at *
  generalize shE 1 num.data.toList e = E at *
  generalize (trimR [48] num.data.toList).length = L at *
  generalize cutN (trimR [48] num.data.toList) = cn at *
  generalize cutV (trimR [48] num.data.toList) = cv at *
  generalize cutMr (trimR [48] num.data.toList) = cm at *
  generalize cutE (trimR [48] num.data.toList) = ce at *
  generalize str (trimR [48] num.data.toList) = TR at *
  have wm1 : IntKind.i64.wrap (e + (num.size : Int)) = e + (num.size : Int) := wrapI (by omega) (by omega)
  have wm2 : IntKind.i64.wrap (e + (num.size : Int) - (cn : Int)) = e + (num.size : Int) - (cn : Int) := wrapI (by omega) (by omega)
  have hle : cn ≤ num.size := by omega
  clear hlen hcn
  have B0 := Bk.new w 23 (numC 1 ng num e den)
  have hb0 : Below w.heap.size w (w.alloc (.cells (numC 1 ng num e den) 23)) := (Below.refl _ w).alloc (Nat.le_refl _) _
  obtain ⟨w0, hw0⟩ : ∃ w0, w0 = w.alloc (.cells (numC 1 ng num e den) 23) := ⟨_, rfl⟩
  rw [← hw0] at B0 hb0
  obtain ⟨g, hg⟩ : ∃ g, g = w.heap.size := ⟨_, rfl⟩
  rw [← hg] at B0
  have hsz := hb0.size
  unfold numC at hS hw0 hR ⊢
  go_enter Tryz.func33, Tryz.ntmps33
  go_wp2_with fail
  refine (hS _).mono ?_
  rintro r w1 ⟨rfl, hb1⟩
  rw [← hw0] at hb1
  clear hS
  go_wp2_with fail
  refine (hR _).mono ?_
  rintro r w2 ⟨g2, h2, rfl, s2, b2, hb2⟩
  have B := hb0.trans ((hb1.trans (hb2.mono hb1.size)).mono hsz)
  have B2 := (B0.later hb1).later hb2
  rw [hg] at B2
  have c0 := B2.cell 0 (v := .int .i64 1) rfl
  have c2 := B2.cell 2 (v := .string num) rfl
  have c3 := B2.cell 3 (v := .int .i64 e) rfl
  have HS : Hid (Slow1 w2 ⟨h2, 0, none⟩ g2) := s2
  have HB : Hid (Bk w2 g2 23 (numC 1 ng N E den)) := b2
  have HL : Hid (w.heap.size < w2.heap.size) := B2.lt
  clear hR s2 b2 B0 hb0 hw0 hg hb1 hb2
  go_wp2_with fail
  refine (hT _).mono ?_
  rintro r w3 ⟨rfl, hw3⟩
  rw [hw3]
  clear hT hw3
  go_wp2_with fail
  refine (hC _).mono ?_
  rintro r w3 ⟨rfl, hb3⟩
  clear hC
  have B3 := B2.later hb3
  have d0 := B3.cell 0 (v := .int .i64 1) rfl
  have d2 := B3.cell 2 (v := .string num) rfl
  have d3 := B3.cell 3 (v := .int .i64 e) rfl
  have hlt := B3.lt
  clear c0 c2 c3 B2 B3
  obtain ⟨F1, hF1⟩ : ∃ F1, F1 = Value.func (Fn.func 78) #[] #[.pointer (some ⟨w3.heap.size, 0, none⟩), .pointer (some ⟨w3.heap.size + 1 + 1, 0, none⟩), .pointer (some ⟨w3.heap.size + 1, 0, none⟩)] := ⟨_, rfl⟩
  obtain ⟨F2, hF2⟩ : ∃ F2, F2 = Value.func (Fn.func 80) #[] #[.pointer (some ⟨w3.heap.size, 0, none⟩), .pointer (some ⟨w3.heap.size + 1 + 1, 0, none⟩), .pointer (some ⟨w3.heap.size + 1, 0, none⟩)] := ⟨_, rfl⟩
  obtain ⟨F3, hF3⟩ : ∃ F3, F3 = Value.func (Fn.func 82) #[] #[.pointer (some ⟨g2, 0, none⟩)] := ⟨_, rfl⟩

  obtain ⟨W, hW⟩ : ∃ W, W = (((w3.alloc (.cells #[.int .u64 cv] 25)).alloc (.cells #[.bool cm] 4)).alloc (.cells #[.int .i64 (e + (num.size : Int) - (cn : Int))] 3)).alloc (.cells #[F1, F2] 164) := ⟨_, rfl⟩
  have OWN : W.ownsRow w3.heap.size 164 1 (.slice (some ⟨w3.heap.size + 1 + 1 + 1, 0, none⟩) 2 2) 2 [F1, F2] := by
    have := own_two (((w3.alloc (.cells #[.int .u64 cv] 25)).alloc (.cells #[.bool cm] 4)).alloc (.cells #[.int .i64 (e + (num.size : Int) - (cn : Int))] 3)) F1 F2 (base := w3.heap.size) (by simp; omega) 164
    rw [← hW] at this
    simp only [World.size_alloc] at this
    exact this
  have hWb : Below w3.heap.size w3 W := by
    rw [hW]
    exact ((((Below.refl _ w3).alloc (Nat.le_refl _) _).alloc (by simp) _).alloc (by simp; omega) _).alloc (by simp; omega) _
  have NEW : ∀ j u, ([F3] : List Value)[j]? = some u → W.cell? ((⟨h2, 0, none⟩ : Addr).add j) = some u := by
    intro j u hj
    match j, hj with
    | 0, hj =>
      simp at hj
      subst hj
      have q : Slow1 w2 ⟨h2, 0, none⟩ g2 := HS.out
      have l2 := cell_lt7 q
      have l3 := hb3.size
      show W.cell? ⟨h2, 0 + 0, none⟩ = _
      rw [Nat.add_zero, hWb.cell (p := ⟨h2, 0, none⟩) (by show h2 < _; have : h2 < w2.heap.size := l2; omega), hb3.cell (p := ⟨h2, 0, none⟩) l2, hF3]
      exact q
  have ONE : ∀ u ∈ [F3], u.oneCell' = true := by
    intro u hu; simp at hu; subst hu; rw [hF3]; rfl
  have HWS : W.heap.size = w3.heap.size + 1 + 1 + 1 + 1 := by rw [hW]; simp
  have a1 : Below w3.heap.size w3 (w3.alloc (.cells #[.int .u64 cv] 25)) := (Below.refl _ w3).alloc (Nat.le_refl _) _
  have GM : Bk W w3.heap.size 25 #[.int .u64 cv] := by
    rw [hW]
    exact (((Bk.new w3 _ _).later ((Below.refl _ _).alloc (Nat.le_refl _) _)).later ((Below.refl _ _).alloc (Nat.le_refl _) _)).later ((Below.refl _ _).alloc (Nat.le_refl _) _)
  have GR : Bk W (w3.heap.size + 1) 4 #[.bool cm] := by
    rw [hW]
    have := ((Bk.new (w3.alloc (.cells #[.int .u64 cv] 25)) 4 #[.bool cm]).later ((Below.refl _ _).alloc (Nat.le_refl _) (.cells #[.int .i64 (e + (num.size : Int) - (cn : Int))] 3))).later ((Below.refl _ _).alloc (Nat.le_refl _) (.cells #[F1, F2] 164))
    simp only [World.size_alloc] at this
    exact this
  have GE : Bk W (w3.heap.size + 1 + 1) 3 #[.int .i64 (e + (num.size : Int) - (cn : Int))] := by
    rw [hW]
    have := (Bk.new ((w3.alloc (.cells #[.int .u64 cv] 25)).alloc (.cells #[.bool cm] 4)) 3 #[.int .i64 (e + (num.size : Int) - (cn : Int))]).later ((Below.refl _ _).alloc (Nat.le_refl _) (.cells #[F1, F2] 164))
    simp only [World.size_alloc] at this
    exact this
  clear a1
  subst hF1 hF2
  subst hW
  go_wp2_with (first | (at_builtin; (refine wpList_append_own _ rfl _ _ 112 rfl w3.heap.size 164 i_r .nilFunc 1 8 Tryz.underlying112 hi_r hz0_r hz1_r hz2_r rfl (by decide) _ _ _ rfl OWN ⟨h2, 0, none⟩ 1 1 [F3] rfl rfl NEW ONE (by unfold maxLen; omega) (by omega) (by omega) ?_)) | go_step)
  intro v' w' hown' hgrow hiff
  have hb' : Below w3.heap.size w3 w' := hWb.grown hgrow (by omega) (fun k hk => by
    have : some (w3.heap.size + 1 + 1 + 1) = some k := hk
    simp only [Option.some.injEq] at this
    omega)
  obtain ⟨h9, cap, rfl, t0, t1, t2⟩ := own_three hown'
  have G0 : w'.cell? ⟨w3.heap.size, 0, none⟩ = some (.int .u64 cv) := hgrow.cell (GM.cell 0 rfl) (by simp [Value.ownBlock]; omega)
  have G1 : w'.cell? ⟨w3.heap.size + 1, 0, none⟩ = some (.bool cm) := hgrow.cell (GR.cell 0 rfl) (by simp [Value.ownBlock])
  have G2 : w'.cell? ⟨w3.heap.size + 1 + 1, 0, none⟩ = some (.int .i64 (e + (num.size : Int) - (cn : Int))) := hgrow.cell (GE.cell 0 rfl) (by simp [Value.ownBlock])
  have HR : Hid (Roads3 w' h9 g2 w3.heap.size (w3.heap.size + 1 + 1) (w3.heap.size + 1)) := ⟨t0, t1, t2⟩
  have B9 := B.trans ((hb3.trans (hb'.mono hb3.size)).mono B.size)
  have HB9 : Hid (Bk w' g2 23 (numC 1 ng N E den)) := (HB.out.later hb3).later hb'
  clear t0 t1 t2 hgrow hown' OWN NEW ONE HWS hWb hb' hb3 GM GR GE hiff d0 d2 d3
  go_wp2
  go_ret
  exact ⟨h9, g2, _, _, _, cap, rfl, HR.out, HB9.out, G0, G2, G1, B9⟩
end Go.Proofs.YtjeoiffloghonaaGreatDoor

/- AtofFar. -/
import Derived.Test.YtjeoiffloghonaaGreatDoorAtfJ
import Derived.Test.YtjeoiffloghonaaGreatDoorRadixBackB
namespace Go.Proofs.YtjeoiffloghonaaGreatDoor
open Go.ChangeShapes Go.WideShapes Go.ChangeAt Go.RowKit
open Na Ar Lx
set_option linter.unusedVariables false
theorem into11_any {n top : Int} (h0 : 0 < top) (h1 : top ≤ 1000000) (w : World) :
    Calls Tryz.prog 13 #[.int .i64 n, .int .i64 top] w fun e w' => e = .returned (.int .i64 (n % top)) ∧ w' = w := by
  have z : (top == 0) = false := by simp; omega
  have hne : ¬ top = -1 := by omega
  have hz0 : ¬ top = 0 := by omega
  have e1 : n.tmod top < top := Int.tmod_lt_of_pos n h0
  have e2 : -top < n.tmod top := Int.lt_tmod_of_pos n h0
  have hd := Int.emod_emod_of_dvd n (Int.dvd_refl top)
  have hm : n % top = if n.tmod top < 0 then n.tmod top + top else n.tmod top := by
    have q1 := Int.emod_nonneg n hz0
    have q2 := Int.emod_lt_of_pos n h0
    have hN : (top.natAbs : Int) = top := by omega
    rw [Int.tmod_eq_emod]
    split
    · split <;> omega
    · rw [hN]; split <;> omega
  rw [hm]
  clear hm hd
  generalize hq : n.tmod top = q at *
  by_cases h : q < 0
  · rw [if_pos h]
    have d : decide (q < 0) = true := by simp; omega
    go_enter Tryz.func13, Tryz.ntmps13
    go_wp2
    go_ret
    exact ⟨rfl, rfl⟩
  · rw [if_neg h]
    have d : decide (q < 0) = false := by simp; omega
    go_enter Tryz.func13, Tryz.ntmps13
    go_wp2
    go_ret
    exact ⟨rfl, rfl⟩
theorem info11_u8 : (Tryz.prog.info? 5).map (fun i => (i.zero, i.size, i.bytes)) = some (some (.int .u8 0), 1, 1) := by kernel_rfl
theorem rep_set (m : Nat) (x : Int) : (List.replicate (m + 1) (48 : Int)).set 0 x = x :: List.replicate m 48 := by rw [List.replicate_succ]; rfl
theorem bytes_far (d : UInt8) (m : Nat) : (⟨(bytesOf ((d.toNat : Int) :: List.replicate m 48)).toArray⟩ : ByteArray) = str (farL d m) := by
  unfold str farL bytesOf
  rw [List.map_cons, List.map_replicate]
  congr 3
  simp
set_option maxHeartbeats 3200000 in
set_option maxRecDepth 100000 in
theorem far_walk {n c : Int} {b2 : Bool} (i0 : -9223372036854775808 ≤ n) (i1 : n ≤ 9223372036854775807) (c0 : 0 ≤ c) (c1 : c ≤ 255) {w : World} (hT : TenVar w) (hG : GrVar w) :
    Calls Tryz.prog 4 #[.int .i64 n, .int .u8 c, .bool b2] w fun r w' => r = .returned (.bool true) ∧ Below w.heap.size w w' := by
  obtain ⟨i_u8, hi_u8, hz0_u8, hz1_u8, hz2_u8⟩ := info_parts info11_u8
  have hI := fun w => into11_any (n := n) (top := 3000) (by omega) (by omega) w
  obtain ⟨m, hm, hm9⟩ : ∃ m : Nat, n % 3000 = (m : Int) ∧ m < 3000 := ⟨(n % 3000).toNat, by omega, by omega⟩
  rw [hm] at hI
  have w1' : IntKind.i64.wrap (1 + (m : Int)) = ((m + 1 : Nat) : Int) := by rw [wrapI (by omega) (by omega)]; omega
  obtain ⟨d, hd, h0, h1⟩ : ∃ d : UInt8, (d.toNat : Int) = 49 + c % 9 ∧ 49 ≤ d.toNat ∧ d.toNat ≤ 57 := by
    refine ⟨UInt8.ofNat (49 + c % 9).toNat, ?_, ?_, ?_⟩ <;> rw [UInt8.toNat_ofNat'] <;> omega
  have ec : c.tmod 9 = c % 9 := Int.tmod_eq_emod_of_nonneg c0
  have w2' : IntKind.u8.wrap (49 + c % 9) = (d.toNat : Int) := by
    rw [hd]
    show (49 + c % 9) % 256 = _
    omega
  clear hm hd
  go_enter Tryz.func4, Tryz.ntmps4
  go_wp2_with fail
  refine (hI _).mono ?_
  rintro r wA ⟨rfl, hwA⟩
  rw [hwA]
  clear hI hwA
  go_wp2_with (at_make; refine wpList_make_full _ rfl _ _ 33 rfl w.heap.size 5 i_u8 (.int .u8 0) 1 Tryz.underlying33 hi_u8 hz0_u8 hz1_u8 .i64 .i64 _ _ (m + 1) rfl rfl (by omega) (by omega) (by rw [hz2_u8]; omega) (by unfold maxLen; omega) (Nat.le_refl _) ?_)
  intro w6 hmade hgr
  have hown := own_zeros hmade
  have hb6 : Below w.heap.size w w6 := (Below.refl _ _).grown hgr (Nat.le_refl _) (fun k hk => by cases hk)
  obtain ⟨g2, hg2⟩ : ∃ g2, g2 = w.heap.size := ⟨_, rfl⟩
  rw [← hg2] at hown ⊢
  have HG2 : Hid (w.heap.size = g2) := hg2.symm
  have hbz := BO.of_own hown (by simp)
  have hzf : ZF (List.replicate (m + 1) (0 : Int)) (m + 1) 0 := ⟨by simp, fun i hi => by omega⟩
  generalize List.replicate (m + 1) (0 : Int) = zs0 at *
  clear hmade hgr hg2 hown
  go_wp2_with fail
  go_loopw [10] (fun i wz => ∃ (k : Nat) (zs : List Int), i = .int .i64 (k : Int) ∧ k ≤ m + 1 ∧ ZF zs (m + 1) k ∧ BO wz g2 zs ∧ In g2 (g2 + 1) w6 wz) (fun i _ => m + 1 - (RowKit.intOf i).toNat)
  case atStart => exact ⟨0, zs0, rfl, by omega, hzf, hbz, In.refl _ _ _⟩
  case round =>
    obtain ⟨k, zs, rfl, hk, hzk, hoz, hin2⟩ := hrel
    by_cases hlt2 : k < m + 1
    · have hzl := hzk.1
      have hce := hoz.2.1 k (by omega)
      have hfz := hoz.2.2 k (by omega)
      have hset := hoz.set (j := k) (by omega) 48
      have hzn := hzk.set hlt2
      have tlt : decide ((k : Int) < ((m + 1 : Nat) : Int)) = true := by simp; omega
      clear hoz hbz hzl
      go_wp2
      go_roundw
      case rel => exact ⟨k + 1, _, by go_num, by omega, hzn, hset, hin2.set1 _ _⟩
      case measure => simp [RowKit.intOf]; omega
    · have hkM : k = m + 1 := by omega
      rw [hkM] at hzk
      rw [hzk.all] at hoz
      have hb7 := below_inn hb6 hin2 (by have := HG2.out; omega) (Nat.le_refl _)
      have hce := hoz.2.1 0 (by simp)
      have hfz := hoz.2.2 0 (by simp)
      have hset := hoz.set (j := 0) (by simp) (d.toNat : Int)
      rw [rep_set] at hset
      have hb8 : Below w.heap.size w (wr.setCell ⟨g2, 0, none⟩ (.int .u8 (d.toNat : Int))) := below_inn hb6 (hin2.set1 0 _) (by have := HG2.out; omega) (Nat.le_refl _)
      have cz := hset.conv (N := m + 1) (cap := m + 1) (by simp) (fun x hx => by
        rcases List.mem_cons.mp hx with rfl | hx
        · omega
        · have := List.eq_of_mem_replicate hx; omega)
      rw [bytes_far] at cz
      subst hkM
      have tlt : decide (((m + 1 : Nat) : Int) < ((m + 1 : Nat) : Int)) = false := by simp
      have cd : ∀ W : World, (convert 33 9 (.slice (some ⟨W.heap.size, 0, none⟩) 1 1)).run Tryz.prog (W.alloc (.cells #[.int .u8 (d.toNat : Int)] 5)) = .ok (.string (str [d])) (W.alloc (.cells #[.int .u8 (d.toNat : Int)] 5)) := fun W => by
        have := run_convert_bytes_back (P := Tryz.prog) (W.alloc (.cells #[.int .u8 (d.toNat : Int)] 5)) 33 9 5 ⟨W.heap.size, 0, none⟩ 1 [d] Tryz.underlying33 Tryz.underlying5 Tryz.underlying9 (fun j hj => by
          have : j = 0 := by simpa using hj
          subst this
          exact (Bk.new W 5 #[.int .u8 (d.toNat : Int)]).cell 0 rfl)
        exact this
      clear hin2 hb6 hzk hzf hbz hoz hb7
      have cd2 : ∀ (W : World) (a : Addr) (v : Value) (o : Obj), (convert 33 9 (.slice (some ⟨W.heap.size + 1, 0, none⟩) 1 1)).run Tryz.prog (((W.setCell a v).alloc o).alloc (.cells #[.int .u8 (d.toNat : Int)] 5)) = .ok (.string (str [d])) (((W.setCell a v).alloc o).alloc (.cells #[.int .u8 (d.toNat : Int)] 5)) := fun W a v o => by
        have := cd ((W.setCell a v).alloc o)
        simp only [World.size_alloc, World.size_setCell] at this
        exact this
      have wsz : IntKind.i64.wrap (1 - ((m : Int) + 1)) = -(m : Int) := by rw [wrapI (by omega) (by omega)]; omega
      obtain ⟨W2, hW2⟩ : ∃ W2, W2 = (((wr.setCell ⟨g2, 0, none⟩ (.int .u8 (d.toNat : Int))).alloc (.cells #[.int .i64 1, .bool b2, .string (str (farL d m)), .int .i64 (-(m : Int)), .string ⟨#[]⟩] 23)).alloc (.cells #[.int .u8 (d.toNat : Int)] 5)).alloc (.cells #[.int .i64 1, .bool b2, .string (str [d]), .int .i64 0, .string ⟨#[]⟩] 23) := ⟨_, rfl⟩
      have BX : Bk W2 wr.heap.size 23 (numC 1 b2 (str (farL d m)) (-(m : Int)) ⟨#[]⟩) := by
        have := ((Bk.new (wr.setCell ⟨g2, 0, none⟩ (.int .u8 (d.toNat : Int))) 23 (numC 1 b2 (str (farL d m)) (-(m : Int)) ⟨#[]⟩)).later ((Below.refl _ _).alloc (Nat.le_refl _) (.cells #[.int .u8 (d.toNat : Int)] 5))).later ((Below.refl _ _).alloc (Nat.le_refl _) (.cells #[.int .i64 1, .bool b2, .string (str [d]), .int .i64 0, .string ⟨#[]⟩] 23))
        rw [World.size_setCell] at this
        rw [hW2]
        exact this
      have BY : Bk W2 (wr.heap.size + 1 + 1) 23 (numC 1 b2 (str [d]) 0 ⟨#[]⟩) := by
        have := Bk.new (((wr.setCell ⟨g2, 0, none⟩ (.int .u8 (d.toNat : Int))).alloc (.cells #[.int .i64 1, .bool b2, .string (str (farL d m)), .int .i64 (-(m : Int)), .string ⟨#[]⟩] 23)).alloc (.cells #[.int .u8 (d.toNat : Int)] 5)) 23 (numC 1 b2 (str [d]) 0 ⟨#[]⟩)
        simp only [World.size_alloc, World.size_setCell] at this
        rw [hW2]
        exact this
      have BW : Below w.heap.size w W2 := by
        rw [hW2]
        have s := hb8.size
        rw [World.size_setCell] at s
        exact ((hb8.alloc (by simpa using s) _).alloc (by simp; omega) _).alloc (by simp; omega) _
      -- the calls
      have hgx : w.heap.size ≤ wr.heap.size := by have s := hb8.size; rw [World.size_setCell] at s; exact s
      have hWs : wr.heap.size < W2.heap.size := BX.lt
      go_wp2_with fail
      rw [← hW2]
      clear hW2 cd cd2 cz hb8 hset hce hfz w2' ec hi_u8 hz0_u8 hz1_u8 hz2_u8 hlt2 tlt hk wsz w1'
      obtain ⟨gx, hx⟩ : ∃ gx, gx = wr.heap.size := ⟨_, rfl⟩
      rw [← hx] at BX BY hgx hWs ⊢
      clear hx
      have hS := str_size (farL d m)
      rw [farL_len] at hS
      have hS1 : (str [d]).size = 1 := rfl
      have x0 := BX.cell 0 (v := .int .i64 1) rfl
      have x1 := BX.cell 1 (v := .bool b2) rfl
      have x2 := BX.cell 2 (v := .string (str (farL d m))) rfl
      have x3 := BX.cell 3 (v := .int .i64 (-(m : Int))) rfl
      have x4 := BX.cell 4 (v := .string ⟨#[]⟩) rfl
      have f0 := BX.frozen 0
      have f3 := BX.frozen 3
      have hc := bits11_any 1 b2 (str (farL d m)) (-(m : Int)) ⟨#[]⟩ (by omega) (by decide) (hG.later BW) (hT.later BW)
      unfold numC at hc
      refine hc.mono ?_
      rintro r V1 ⟨p, E1, rfl, hq, ub, hb⟩
      rw [str_list] at hq
      obtain ⟨hp, rfl⟩ := far_one h0 h1 (by omega) hq
      have HP : Hid (BitsIs 1 b2 [d] 0 [] p 0) := hp
      clear hq hp
      clear x0 x1 x2 x3 x4 f0 f3
      have BX := BX.later hb
      have BY := BY.later hb
      have BW := BW.trans (hb.mono BW.size)
      clear hb hc ub
      have x0 := BX.cell 0 (v := .int .i64 1) rfl
      have x1 := BX.cell 1 (v := .bool b2) rfl
      have x2 := BX.cell 2 (v := .string (str (farL d m))) rfl
      have x3 := BX.cell 3 (v := .int .i64 (-(m : Int))) rfl
      have x4 := BX.cell 4 (v := .string ⟨#[]⟩) rfl
      have f0 := BX.frozen 0
      have f3 := BX.frozen 3
      have y0 := BY.cell 0 (v := .int .i64 1) rfl
      have y1 := BY.cell 1 (v := .bool b2) rfl
      have y2 := BY.cell 2 (v := .string (str [d])) rfl
      have y3 := BY.cell 3 (v := .int .i64 0) rfl
      have y4 := BY.cell 4 (v := .string ⟨#[]⟩) rfl
      have hc := bits11_any 1 b2 (str [d]) 0 ⟨#[]⟩ (by omega) (by decide) (hG.later BW) (hT.later BW)
      unfold numC at hc
      go_wp2_with fail
      refine hc.mono ?_
      rintro r V2 ⟨q, E2, rfl, hq, ub, hb⟩
      obtain ⟨rfl, rfl⟩ := bits_uniq hq HP.out
      clear hq y0 y1 y2 y3 y4
      clear x0 x1 x2 x3 x4 f0 f3
      have BX := BX.later hb
      have BY := BY.later hb
      have BW := BW.trans (hb.mono BW.size)
      clear hb hc ub
      clear BY
      have x0 := BX.cell 0 (v := .int .i64 1) rfl
      have x1 := BX.cell 1 (v := .bool b2) rfl
      have x2 := BX.cell 2 (v := .string (str (farL d m))) rfl
      have x3 := BX.cell 3 (v := .int .i64 (-(m : Int))) rfl
      have x4 := BX.cell 4 (v := .string ⟨#[]⟩) rfl
      have f0 := BX.frozen 0
      have f3 := BX.frozen 3
      obtain ⟨V2s, hV2s⟩ : ∃ W, W = V2.setCell ⟨gx, 3, none⟩ (.int .i64 1073741824) := ⟨_, rfl⟩
      have BXs : Bk V2s gx 23 (numC 1 b2 (str (farL d m)) 1073741824 ⟨#[]⟩) := by rw [hV2s]; exact Bk.set BX 3 _
      have BWs : Below w.heap.size w V2s := by rw [hV2s]; exact Tn.below BW ((Tn.refl gx _).set 3 _) hgx (Nat.le_refl _)
      have hc := bits11_any 1 b2 (str (farL d m)) 1073741824 ⟨#[]⟩ (by omega) (by decide) (hG.later BWs) (hT.later BWs)
      unfold numC at hc
      go_wp2_with fail
      rw [← hV2s]
      refine hc.mono ?_
      rintro r V3 ⟨bb, EE, rfl, hq, ub, hb⟩
      rw [str_list] at hq
      obtain rfl := far_over h0 h1 (by omega) hq
      clear hq x0 x1 x2 x3 x4 f0 f3 BX BW hV2s
      have BX := BXs.later hb
      have BW := BWs.trans (hb.mono BWs.size)
      clear hb hc ub BXs BWs
      have x0 := BX.cell 0 (v := .int .i64 1) rfl
      have x1 := BX.cell 1 (v := .bool b2) rfl
      have x2 := BX.cell 2 (v := .string (str (farL d m))) rfl
      have x3 := BX.cell 3 (v := .int .i64 1073741824) rfl
      have x4 := BX.cell 4 (v := .string ⟨#[]⟩) rfl
      have f0 := BX.frozen 0
      have f3 := BX.frozen 3
      obtain ⟨V3s, hV3s⟩ : ∃ W, W = V3.setCell ⟨gx, 3, none⟩ (.int .i64 (-1073741824)) := ⟨_, rfl⟩
      have BXs : Bk V3s gx 23 (numC 1 b2 (str (farL d m)) (-1073741824) ⟨#[]⟩) := by rw [hV3s]; exact Bk.set BX 3 _
      have BWs : Below w.heap.size w V3s := by rw [hV3s]; exact Tn.below BW ((Tn.refl gx _).set 3 _) hgx (Nat.le_refl _)
      have hc := bits11_any 1 b2 (str (farL d m)) (-1073741824) ⟨#[]⟩ (by omega) (by decide) (hG.later BWs) (hT.later BWs)
      unfold numC at hc
      go_wp2_with fail
      rw [← hV3s]
      refine hc.mono ?_
      rintro r V4 ⟨bb, EE, rfl, hq, ub, hb⟩
      rw [str_list] at hq
      obtain ⟨rfl, rfl⟩ := far_none h0 h1 (by omega) hq
      clear hq x0 x1 x2 x3 x4 f0 f3 BX BW hV3s
      have BX := BXs.later hb
      have BW := BWs.trans (hb.mono BWs.size)
      clear hb hc ub BXs BWs
      have x0 := BX.cell 0 (v := .int .i64 1) rfl
      have x1 := BX.cell 1 (v := .bool b2) rfl
      have x2 := BX.cell 2 (v := .string (str (farL d m))) rfl
      have x3 := BX.cell 3 (v := .int .i64 (-1073741824)) rfl
      have x4 := BX.cell 4 (v := .string ⟨#[]⟩) rfl
      have f0 := BX.frozen 0
      have f3 := BX.frozen 3
      obtain ⟨V4s, hV4s⟩ : ∃ W, W = V4.setCell ⟨gx, 0, none⟩ (.int .i64 2) := ⟨_, rfl⟩
      have BXs : Bk V4s gx 23 (numC 2 b2 (str (farL d m)) (-1073741824) ⟨#[]⟩) := by rw [hV4s]; exact Bk.set BX 0 _
      have BWs : Below w.heap.size w V4s := by rw [hV4s]; exact Tn.below BW ((Tn.refl gx _).set 0 _) hgx (Nat.le_refl _)
      have hc := slow11_any 2 b2 (str (farL d m)) (-1073741824) ⟨#[]⟩ (by omega) (by decide) (hG.later BWs)
      unfold numC at hc
      go_wp2_with fail
      rw [← hV4s]
      refine hc.mono ?_
      rintro r V5 ⟨bb, EE, rfl, hq, ub, hb⟩
      rw [str_list] at hq
      obtain ⟨rfl, rfl⟩ := far_hex0 h0 h1 (by omega) hq
      clear hq x0 x1 x2 x3 x4 f0 f3 BX BW hV4s
      have BX := BXs.later hb
      have BW := BWs.trans (hb.mono BWs.size)
      clear hb hc ub BXs BWs
      have x0 := BX.cell 0 (v := .int .i64 2) rfl
      have x1 := BX.cell 1 (v := .bool b2) rfl
      have x2 := BX.cell 2 (v := .string (str (farL d m))) rfl
      have x3 := BX.cell 3 (v := .int .i64 (-1073741824)) rfl
      have x4 := BX.cell 4 (v := .string ⟨#[]⟩) rfl
      have f0 := BX.frozen 0
      have f3 := BX.frozen 3
      obtain ⟨V5s, hV5s⟩ : ∃ W, W = V5.setCell ⟨gx, 3, none⟩ (.int .i64 1073741824) := ⟨_, rfl⟩
      have BXs : Bk V5s gx 23 (numC 2 b2 (str (farL d m)) 1073741824 ⟨#[]⟩) := by rw [hV5s]; exact Bk.set BX 3 _
      have BWs : Below w.heap.size w V5s := by rw [hV5s]; exact Tn.below BW ((Tn.refl gx _).set 3 _) hgx (Nat.le_refl _)
      have hc := slow11_any 2 b2 (str (farL d m)) 1073741824 ⟨#[]⟩ (by omega) (by decide) (hG.later BWs)
      unfold numC at hc
      go_wp2_with fail
      rw [← hV5s]
      refine hc.mono ?_
      rintro r V6 ⟨bb, EE, rfl, hq, ub, hb⟩
      rw [str_list] at hq
      obtain rfl := far_hex1 h0 h1 (by omega) hq
      clear hq x0 x1 x2 x3 x4 f0 f3 BX BW hV5s
      have BX := BXs.later hb
      have BW := BWs.trans (hb.mono BWs.size)
      clear hb hc ub BXs BWs
      have x0 := BX.cell 0 (v := .int .i64 2) rfl
      have x1 := BX.cell 1 (v := .bool b2) rfl
      have x2 := BX.cell 2 (v := .string (str (farL d m))) rfl
      have x3 := BX.cell 3 (v := .int .i64 1073741824) rfl
      have x4 := BX.cell 4 (v := .string ⟨#[]⟩) rfl
      have f0 := BX.frozen 0
      have f3 := BX.frozen 3
      clear HP
      have hA := fun (w1 : World) (h : Below w.heap.size w w1) => alive11_any (hG.later h) (hT.later h)
      have hR := fun (w1 : World) (h : Below w.heap.size w w1) => bits11_any 3 b2 ⟨#[49]⟩ 0 (str (farL d m)) (by decide) (by omega) (hG.later h) (hT.later h)
      have BN : Below w.heap.size w (V6.alloc (.cells (numC 3 b2 ⟨#[49]⟩ 0 (str (farL d m))) 23)) := BW.alloc BW.size _
      have HF : Hid (∀ b E, BitsIs 3 b2 ([49] : B) 0 (farL d m) b E → E = 0 ∧ (329 ≤ m → b = sgB b2)) := fun b E h => far_rat h0 h1 (by omega) h
      have hR := hR _ BN
      unfold numC at hR BN
      rw [str_list] at hR
      cases b2
      all_goals
        go_wp2_with fail
        refine hR.mono ?_
        rintro r W8 ⟨rr, E8, rfl, hq, ub, hb⟩
        obtain ⟨rfl, hz⟩ := HF.out rr E8 hq
        have BW := BN.trans (hb.mono BN.size)
        have hA := hA _ BW
        clear hq HF hR BN hb ub x0 x1 x2 x3 x4 f0 f3 BX
        go_wp2_with fail
        refine hA.mono ?_
        rintro r W9 ⟨rfl, hb⟩
        have BW := BW.trans (hb.mono BW.size)
        clear hA hb
        by_cases hk : m < 329
        · have tk : decide ((m : Int) + 1 < 330) = true := by simp; omega
          clear hz
          go_wp2
          go_ret
          exact ⟨rfl, BW⟩
        · have tk : decide ((m : Int) + 1 < 330) = false := by simp; omega
          obtain rfl := hz (by omega)
          go_wp2
          go_ret
          exact ⟨rfl, BW⟩
end Go.Proofs.YtjeoiffloghonaaGreatDoor

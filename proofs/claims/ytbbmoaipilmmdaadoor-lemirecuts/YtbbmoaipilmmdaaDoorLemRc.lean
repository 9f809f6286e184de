/- plumbref10.Cut; the walk of LemireCuts. -/
import Derived.Test.YtbbmoaipilmmdaaDoorLemL
namespace Go.Proofs.YtbbmoaipilmmdaaDoor
open Go.ChangeShapes Go.WideShapes Go.ChangeAt Go.RowKit
open Na Ar Lx
set_option linter.unusedVariables false
namespace Lx
theorem all_upto {l : B} {k : Nat} {x : UInt8} (h : ∀ (j : Nat) b, j < k → l[j]? = some b → isD b = true) (hx : l[k]? = some x) (hd : isD x = true) : ∀ (j : Nat) b, j < k + 1 → l[j]? = some b → isD b = true := fun j b hj hb => by
  by_cases e : j = k
  · subst e; rw [hx] at hb; rw [← Option.some.inj hb]; exact hd
  · exact h j b (by omega) hb
theorem zero_upto {l : B} {k : Nat} {x : UInt8} (h : ∀ (j : Nat) b, j < k → l[j]? = some b → ([48] : B).contains b = true) (hx : l[k]? = some x) (hd : x = 48) : ∀ (j : Nat) b, j < k + 1 → l[j]? = some b → ([48] : B).contains b = true := fun j b hj hb => by
  by_cases e : j = k
  · subst e; rw [hx] at hb; rw [← Option.some.inj hb, hd]; decide
  · exact h j b (by omega) hb
theorem all_is {l : B} (h : ∀ (j : Nat) b, j < l.length → l[j]? = some b → isD b = true) : allD l = true := allD_iff.mpr fun b hb => by
  obtain ⟨j, hj, e⟩ := List.mem_iff_getElem.mp hb
  exact h j b hj (by rw [List.getElem?_eq_getElem hj, e])
theorem all_not {l : B} {k : Nat} {x : UInt8} (hx : l[k]? = some x) (hd : isD x = false) : allD l = false := by
  cases h : allD l
  · rfl
  · have := allD_iff.mp h x (List.mem_of_getElem? hx)
    rw [hd] at this; cases this
theorem said_at {l : B} {k : Nat} (hk : k ≤ l.length) (h1 : ∀ (j : Nat) b, j < k → l[j]? = some b → ([48] : B).contains b = true) (h2 : ∀ b, l[k]? = some b → ([48] : B).contains b = false) : said l = l.drop k := dropWhile_at l [48] k hk h1 h2
end Lx
set_option maxHeartbeats 6400000 in
set_option maxRecDepth 100000 in
theorem rcut_any (s : ByteArray) (hs : s.size ≤ 9223372036854775807) (w : World) :
    Calls Tryd.prog 9 #[.string s] w fun e w' => e = .returned (.tuple #[.int .u64 (cutV s.data.toList), .int .i64 (cutN s.data.toList : Int), .bool (cutMr s.data.toList), .int .i64 (cutE s.data.toList)]) ∧ w' = w := by
  have hsl : s.data.toList.length = s.size := (Lib.size_eq s).symm
  go_enter Tryd.func9, Tryd.ntmps9
  go_wp2
  go_loop [6] (fun i => ∃ k : Nat, k ≤ s.size ∧ i = .int .i64 (k : Int) ∧ Hid (∀ (j : Nat) b, j < k → s.data.toList[j]? = some b → isD b = true)) (fun i => s.size - (RowKit.intOf i).toNat)
  case atStart => exact ⟨0, Nat.zero_le _, rfl, fun j b hj => absurd hj (Nat.not_lt_zero _)⟩
  case round =>
    obtain ⟨k, hk, rfl, hc⟩ := hrel
    by_cases hlt : k < s.size
    · have hi : decide ((k : Int) < (s.size : Int)) = true := by simp; omega
      have HX : Hid (s.data.toList[k]? = some (s[k]'hlt)) := Lib.data_getElem? s k hlt
      generalize hq : (s[k]'hlt) = x at HX
      have hx255 : x.toNat < 256 := UInt8.toNat_lt x
      cases hd : isD x
      · have ha := all_not HX.out hd
        have c1 : Hid (cutV s.data.toList = 0) := by show _ = _; unfold cutV; rw [ha]; rfl
        have c2 : Hid (cutN s.data.toList = 0) := by show _ = _; unfold cutN; rw [ha]; rfl
        have c3 : Hid (cutMr s.data.toList = false) := by show _ = _; unfold cutMr; rw [ha]; rfl
        have c4 : Hid (cutE s.data.toList = 41) := by show _ = _; unfold cutE; rw [ha]; rfl
        have hb : ¬ (48 ≤ x.toNat ∧ x.toNat ≤ 57) := fun h => by
          unfold isD at hd
          simp [h.1, h.2] at hd
        by_cases h1 : x.toNat < 48
        · have d1 : decide ((x.toNat : Int) < 48) = true := by simp; omega
          clear ha hd hc hb HX
          go_wp2
          ((try simp only [Exit.inBlock, Exit.then]); refine bodyPost_ret (results_tmp4 rfl _ _ _) rfl ?_)
          exact ⟨by rw [c1.out, c2.out, c3.out, c4.out]; rfl, rfl⟩
        · have d1 : decide ((x.toNat : Int) < 48) = false := by simp; omega
          have d2 : decide (57 < (x.toNat : Int)) = true := by simp; omega
          have d2' : decide ((x.toNat : Int) > 57) = true := by simp; omega
          clear ha hd hc hb HX
          go_wp2
          ((try simp only [Exit.inBlock, Exit.then]); refine bodyPost_ret (results_tmp4 rfl _ _ _) rfl ?_)
          exact ⟨by rw [c1.out, c2.out, c3.out, c4.out]; rfl, rfl⟩
      · have HN := all_upto hc.out HX.out hd
        have HN' : Hid _ := HN
        obtain ⟨b0, b1⟩ := isD_bd hd
        have d1 : decide ((x.toNat : Int) < 48) = false := by simp; omega
        have d2 : decide (57 < (x.toNat : Int)) = false := by simp; omega
        have d2' : decide ((x.toNat : Int) > 57) = false := by simp; omega
        clear hd hc HX HN
        go_wp2
        refine ⟨⟨k + 1, by omega, by go_num, HN'.out⟩, ?_⟩
        simp [RowKit.intOf]
        omega
    · have hkk : k = s.size := by omega
      subst hkk
      have ha : allD s.data.toList = true := all_is (by rw [hsl]; exact hc.out)
      have HA : Hid (allD s.data.toList = true) := ha
      clear hc ha hlt hk
      go_wp2
      go_loop [7] (fun i => ∃ k : Nat, k ≤ s.size ∧ i = .int .i64 (k : Int) ∧ Hid (∀ (j : Nat) b, j < k → s.data.toList[j]? = some b → ([48] : B).contains b = true)) (fun i => s.size - (RowKit.intOf i).toNat)
      case atStart => exact ⟨0, Nat.zero_le _, rfl, fun j b hj => absurd hj (Nat.not_lt_zero _)⟩
      case round =>
        obtain ⟨z, hz, rfl, hc⟩ := hrel
        by_cases hlt : z < s.size
        · have hi : decide ((z : Int) < (s.size : Int)) = true := by simp; omega
          have HX : Hid (s.data.toList[z]? = some (s[z]'hlt)) := Lib.data_getElem? s z hlt
          generalize hq : (s[z]'hlt) = x at HX
          by_cases hd : x = 48
          · have HN : Hid _ := zero_upto hc.out HX.out hd
            have d1 : ((x.toNat : Int) == 48) = true := by rw [hd]; rfl
            clear hc HX hd
            go_wp2
            refine ⟨⟨z + 1, by omega, by go_num, HN.out⟩, ?_⟩
            simp [RowKit.intOf]
            omega
          · have d1 : ((x.toNat : Int) == 48) = false := beq_no fun e => hd (UInt8.toNat_inj.1 (by show x.toNat = 48; omega))
            have hsd := said_at (by rw [hsl]; exact hz) hc.out (fun b hb => by rw [HX.out] at hb; rw [← Option.some.inj hb]; simpa using hd)
            clear hc HX hd
            have HS : Hid (said s.data.toList = s.data.toList.drop z) := hsd
            clear hsd
            go_wp2
            go_loop [7, 8, 9] (fun i v m => ∃ n : Nat, n ≤ 19 ∧ z + n ≤ s.size ∧ i = .int .i64 ((z + n : Nat) : Int) ∧ v = .int .u64 (dv ((s.data.toList.drop z).take n)) ∧ m = .int .i64 (n : Int)) (fun _ _ m => 19 - (RowKit.intOf m).toNat)
            case atStart => exact ⟨0, by omega, by omega, rfl, rfl, rfl⟩
            case round =>
              obtain ⟨n, hn, hzn, rfl, rfl, rfl⟩ := hrel
              by_cases hlt3 : z + n < s.size ∧ n < 19
              · obtain ⟨l1, l2⟩ := hlt3
                have hi3 : decide (((z + n : Nat) : Int) < (s.size : Int)) = true := by simp; omega
                have hi3' : decide ((n : Int) < 19) = true := by simp; omega
                have HX : Hid (s.data.toList[z + n]? = some (s[z + n]'l1)) := Lib.data_getElem? s _ l1
                have hD := allD_iff.mp HA.out _ (List.mem_of_getElem? HX.out)
                have HV : Hid (dv ((s.data.toList.drop z).take (n + 1)) = dv ((s.data.toList.drop z).take n) * 10 + (((s[z + n]'l1).toNat : Int) - 48)) := by
                  show _ = _
                  rw [← dv_snoc, List.take_add_one, List.getElem?_drop, HX.out]
                  rfl
                have hv := dv_bd (l := (s.data.toList.drop z).take n) (fun b hb => allD_iff.mp HA.out b (List.mem_of_mem_drop (List.mem_of_mem_take hb)))
                have hp : (10 : Int) ^ ((s.data.toList.drop z).take n).length ≤ 10 ^ 18 := by
                  have hle : ((s.data.toList.drop z).take n).length ≤ 18 := by rw [List.length_take]; omega
                  have e : (10 : Int) ^ 18 = 10 ^ ((s.data.toList.drop z).take n).length * 10 ^ (18 - ((s.data.toList.drop z).take n).length) := by
                    rw [← Int.pow_add]; congr 1; omega
                  have p1 := ten_pos ((s.data.toList.drop z).take n).length
                  have p2 := ten_pos (18 - ((s.data.toList.drop z).take n).length)
                  have := Int.mul_le_mul_of_nonneg_left (show (1 : Int) ≤ 10 ^ (18 - ((s.data.toList.drop z).take n).length) by omega) (Int.le_of_lt p1)
                  omega
                have e18 : (10 : Int) ^ 18 = 1000000000000000000 := by rfl
                obtain ⟨v0, v1⟩ := hv
                have v2 : dv ((s.data.toList.drop z).take n) ≤ 1000000000000000000 := by omega
                obtain ⟨b0, b1⟩ := isD_bd hD
                clear v1 hp e18 hD HX
                generalize dv ((s.data.toList.drop z).take n) = V at *
                generalize hq : (s[z + n]'l1) = x at HV b0 b1
                have b2 : 48 ≤ (x.toNat : Int) := by omega
                have b3 : (x.toNat : Int) ≤ 57 := by omega
                generalize hw : z + n = q at *
                go_wp2
                refine ⟨⟨n + 1, by omega, by omega, by rw [← Nat.add_assoc, hw]; go_num, by rw [HV.out, Int.mul_comm V 10], by go_num⟩, ?_⟩
                simp [RowKit.intOf]
                omega
              · by_cases hl3 : z + n < s.size
                · have hi3 : decide (((z + n : Nat) : Int) < (s.size : Int)) = true := by simp; omega
                  have hi3' : decide ((n : Int) < 19) = false := by simp; omega
                  have hN : Hid (usedN s.data.toList = n) := by
                    show usedN _ = n
                    unfold usedN
                    rw [HS.out, List.length_drop, hsl]
                    omega
                  clear hlt3
                  go_wp2
                  go_loop [10, 11] (fun m i => ∃ j : Nat, z + n + j ≤ s.size ∧ m = .bool (((s.data.toList.drop (z + n)).take j).any (fun b => b != 48)) ∧ i = .int .i64 ((z + n + j : Nat) : Int)) (fun _ i => s.size - (RowKit.intOf i).toNat)
                  case atStart => exact ⟨0, by omega, rfl, by go_num⟩
                  case round =>
                    obtain ⟨j, hj, rfl, rfl⟩ := hrel
                    by_cases hlt4 : z + n + j < s.size
                    · have hi4 : decide (((z + n + j : Nat) : Int) < (s.size : Int)) = true := by simp; omega
                      have HX : Hid (s.data.toList[z + n + j]? = some (s[z + n + j]'hlt4)) := Lib.data_getElem? s _ hlt4
                      have HA4 : Hid (((s.data.toList.drop (z + n)).take (j + 1)).any (fun b => b != 48) = (((s.data.toList.drop (z + n)).take j).any (fun b => b != 48) || ((s[z + n + j]'hlt4) != 48))) := by
                        show _ = _
                        rw [List.take_add_one, List.getElem?_drop, HX.out, List.any_append]
                        simp
                      generalize hq : (s[z + n + j]'hlt4) = x at HX HA4
                      generalize ((s.data.toList.drop (z + n)).take j).any (fun b => b != 48) = mr at *
                      have hb : ((x.toNat : Int) != 48) = (x != 48) := by
                        by_cases e : x = 48
                        · subst e; rfl
                        · have : (x.toNat : Int) ≠ 48 := fun h => e (UInt8.toNat_inj.1 (by show x.toNat = 48; omega))
                          rw [bne_yes this]; simp [e]
                      generalize hw : z + n + j = q at *
                      cases mr
                      · rw [Bool.false_or] at HA4
                        clear HX
                        go_wp2
                        refine ⟨⟨j + 1, by omega, by rw [HA4.out], by rw [← Nat.add_assoc, hw]; go_num⟩, ?_⟩
                        simp [RowKit.intOf]
                        omega
                      · rw [Bool.true_or] at HA4
                        clear HX hb
                        go_wp2
                        refine ⟨⟨j + 1, by omega, by rw [HA4.out], by rw [← Nat.add_assoc, hw]; go_num⟩, ?_⟩
                        simp [RowKit.intOf]
                        omega
                    · have hjj : z + n + j = s.size := by omega
                      have HM : Hid (((s.data.toList.drop (z + n)).take j).any (fun b => b != 48) = cutMr s.data.toList) := by
                        show _ = _
                        unfold cutMr
                        rw [HA.out, hN.out, HS.out, List.drop_drop, List.take_of_length_le (by rw [List.length_drop, hsl]; omega)]
                        rfl
                      have HV : Hid (dv ((s.data.toList.drop z).take n) = cutV s.data.toList) := by
                        show _ = _
                        unfold cutV
                        rw [HA.out, hN.out, HS.out]; rfl
                      have HC : Hid (z + n = cutN s.data.toList) := by
                        show _ = _
                        unfold cutN
                        rw [HA.out, hN.out, HS.out, List.length_drop, hsl]
                        simp
                        omega
                      have HE : Hid (cutE s.data.toList = 0) := by
                        show _ = _
                        unfold cutE
                        rw [HA.out]; rfl
                      have hi4 : decide (((z + n + j : Nat) : Int) < (s.size : Int)) = false := by simp; omega
                      generalize ((s.data.toList.drop (z + n)).take j).any (fun b => b != 48) = mr at *
                      generalize dv ((s.data.toList.drop z).take n) = V at *
                      generalize hw : z + n + j = q at *
                      go_wp2
                      ((try simp only [Exit.inBlock, Exit.then]); refine bodyPost_ret (results_tmp4 rfl _ _ _) rfl ?_)
                      refine ⟨?_, rfl⟩
                      rw [← HM.out, ← HV.out, HE.out, ← HC.out]
                      simp
                · have hi3 : decide (((z + n : Nat) : Int) < (s.size : Int)) = false := by simp; omega
                  have hN : Hid (usedN s.data.toList = n) := by
                    show usedN _ = n
                    unfold usedN
                    rw [HS.out, List.length_drop, hsl]
                    omega
                  clear hlt3
                  go_wp2
                  go_loop [10, 11] (fun m i => ∃ j : Nat, z + n + j ≤ s.size ∧ m = .bool (((s.data.toList.drop (z + n)).take j).any (fun b => b != 48)) ∧ i = .int .i64 ((z + n + j : Nat) : Int)) (fun _ i => s.size - (RowKit.intOf i).toNat)
                  case atStart => exact ⟨0, by omega, rfl, by go_num⟩
                  case round =>
                    obtain ⟨j, hj, rfl, rfl⟩ := hrel
                    by_cases hlt4 : z + n + j < s.size
                    · have hi4 : decide (((z + n + j : Nat) : Int) < (s.size : Int)) = true := by simp; omega
                      have HX : Hid (s.data.toList[z + n + j]? = some (s[z + n + j]'hlt4)) := Lib.data_getElem? s _ hlt4
                      have HA4 : Hid (((s.data.toList.drop (z + n)).take (j + 1)).any (fun b => b != 48) = (((s.data.toList.drop (z + n)).take j).any (fun b => b != 48) || ((s[z + n + j]'hlt4) != 48))) := by
                        show _ = _
                        rw [List.take_add_one, List.getElem?_drop, HX.out, List.any_append]
                        simp
                      generalize hq : (s[z + n + j]'hlt4) = x at HX HA4
                      generalize ((s.data.toList.drop (z + n)).take j).any (fun b => b != 48) = mr at *
                      have hb : ((x.toNat : Int) != 48) = (x != 48) := by
                        by_cases e : x = 48
                        · subst e; rfl
                        · have : (x.toNat : Int) ≠ 48 := fun h => e (UInt8.toNat_inj.1 (by show x.toNat = 48; omega))
                          rw [bne_yes this]; simp [e]
                      generalize hw : z + n + j = q at *
                      cases mr
                      · rw [Bool.false_or] at HA4
                        clear HX
                        go_wp2
                        refine ⟨⟨j + 1, by omega, by rw [HA4.out], by rw [← Nat.add_assoc, hw]; go_num⟩, ?_⟩
                        simp [RowKit.intOf]
                        omega
                      · rw [Bool.true_or] at HA4
                        clear HX hb
                        go_wp2
                        refine ⟨⟨j + 1, by omega, by rw [HA4.out], by rw [← Nat.add_assoc, hw]; go_num⟩, ?_⟩
                        simp [RowKit.intOf]
                        omega
                    · have hjj : z + n + j = s.size := by omega
                      have HM : Hid (((s.data.toList.drop (z + n)).take j).any (fun b => b != 48) = cutMr s.data.toList) := by
                        show _ = _
                        unfold cutMr
                        rw [HA.out, hN.out, HS.out, List.drop_drop, List.take_of_length_le (by rw [List.length_drop, hsl]; omega)]
                        rfl
                      have HV : Hid (dv ((s.data.toList.drop z).take n) = cutV s.data.toList) := by
                        show _ = _
                        unfold cutV
                        rw [HA.out, hN.out, HS.out]; rfl
                      have HC : Hid (z + n = cutN s.data.toList) := by
                        show _ = _
                        unfold cutN
                        rw [HA.out, hN.out, HS.out, List.length_drop, hsl]
                        simp
                        omega
                      have HE : Hid (cutE s.data.toList = 0) := by
                        show _ = _
                        unfold cutE
                        rw [HA.out]; rfl
                      have hi4 : decide (((z + n + j : Nat) : Int) < (s.size : Int)) = false := by simp; omega
                      generalize ((s.data.toList.drop (z + n)).take j).any (fun b => b != 48) = mr at *
                      generalize dv ((s.data.toList.drop z).take n) = V at *
                      generalize hw : z + n + j = q at *
                      go_wp2
                      ((try simp only [Exit.inBlock, Exit.then]); refine bodyPost_ret (results_tmp4 rfl _ _ _) rfl ?_)
                      refine ⟨?_, rfl⟩
                      rw [← HM.out, ← HV.out, HE.out, ← HC.out]
                      simp
        · have hi : decide ((z : Int) < (s.size : Int)) = false := by simp; omega
          have hsd := said_at (by rw [hsl]; exact hz) hc.out (fun b hb => by rw [List.getElem?_eq_none (by rw [hsl]; omega)] at hb; cases hb)
          clear hc
          have HS : Hid (said s.data.toList = s.data.toList.drop z) := hsd
          clear hsd
          go_wp2
          go_loop [7, 8, 9] (fun i v m => ∃ n : Nat, n ≤ 19 ∧ z + n ≤ s.size ∧ i = .int .i64 ((z + n : Nat) : Int) ∧ v = .int .u64 (dv ((s.data.toList.drop z).take n)) ∧ m = .int .i64 (n : Int)) (fun _ _ m => 19 - (RowKit.intOf m).toNat)
          case atStart => exact ⟨0, by omega, by omega, rfl, rfl, rfl⟩
          case round =>
            obtain ⟨n, hn, hzn, rfl, rfl, rfl⟩ := hrel
            by_cases hlt3 : z + n < s.size ∧ n < 19
            · obtain ⟨l1, l2⟩ := hlt3
              have hi3 : decide (((z + n : Nat) : Int) < (s.size : Int)) = true := by simp; omega
              have hi3' : decide ((n : Int) < 19) = true := by simp; omega
              have HX : Hid (s.data.toList[z + n]? = some (s[z + n]'l1)) := Lib.data_getElem? s _ l1
              have hD := allD_iff.mp HA.out _ (List.mem_of_getElem? HX.out)
              have HV : Hid (dv ((s.data.toList.drop z).take (n + 1)) = dv ((s.data.toList.drop z).take n) * 10 + (((s[z + n]'l1).toNat : Int) - 48)) := by
                show _ = _
                rw [← dv_snoc, List.take_add_one, List.getElem?_drop, HX.out]
                rfl
              have hv := dv_bd (l := (s.data.toList.drop z).take n) (fun b hb => allD_iff.mp HA.out b (List.mem_of_mem_drop (List.mem_of_mem_take hb)))
              have hp : (10 : Int) ^ ((s.data.toList.drop z).take n).length ≤ 10 ^ 18 := by
                have hle : ((s.data.toList.drop z).take n).length ≤ 18 := by rw [List.length_take]; omega
                have e : (10 : Int) ^ 18 = 10 ^ ((s.data.toList.drop z).take n).length * 10 ^ (18 - ((s.data.toList.drop z).take n).length) := by
                  rw [← Int.pow_add]; congr 1; omega
                have p1 := ten_pos ((s.data.toList.drop z).take n).length
                have p2 := ten_pos (18 - ((s.data.toList.drop z).take n).length)
                have := Int.mul_le_mul_of_nonneg_left (show (1 : Int) ≤ 10 ^ (18 - ((s.data.toList.drop z).take n).length) by omega) (Int.le_of_lt p1)
                omega
              have e18 : (10 : Int) ^ 18 = 1000000000000000000 := by rfl
              obtain ⟨v0, v1⟩ := hv
              have v2 : dv ((s.data.toList.drop z).take n) ≤ 1000000000000000000 := by omega
              obtain ⟨b0, b1⟩ := isD_bd hD
              clear v1 hp e18 hD HX
              generalize dv ((s.data.toList.drop z).take n) = V at *
              generalize hq : (s[z + n]'l1) = x at HV b0 b1
              have b2 : 48 ≤ (x.toNat : Int) := by omega
              have b3 : (x.toNat : Int) ≤ 57 := by omega
              generalize hw : z + n = q at *
              go_wp2
              refine ⟨⟨n + 1, by omega, by omega, by rw [← Nat.add_assoc, hw]; go_num, by rw [HV.out, Int.mul_comm V 10], by go_num⟩, ?_⟩
              simp [RowKit.intOf]
              omega
            · by_cases hl3 : z + n < s.size
              · exfalso; omega
              · have hi3 : decide (((z + n : Nat) : Int) < (s.size : Int)) = false := by simp; omega
                have hN : Hid (usedN s.data.toList = n) := by
                  show usedN _ = n
                  unfold usedN
                  rw [HS.out, List.length_drop, hsl]
                  omega
                clear hlt3
                go_wp2
                go_loop [10, 11] (fun m i => ∃ j : Nat, z + n + j ≤ s.size ∧ m = .bool (((s.data.toList.drop (z + n)).take j).any (fun b => b != 48)) ∧ i = .int .i64 ((z + n + j : Nat) : Int)) (fun _ i => s.size - (RowKit.intOf i).toNat)
                case atStart => exact ⟨0, by omega, rfl, by go_num⟩
                case round =>
                  obtain ⟨j, hj, rfl, rfl⟩ := hrel
                  by_cases hlt4 : z + n + j < s.size
                  · have hi4 : decide (((z + n + j : Nat) : Int) < (s.size : Int)) = true := by simp; omega
                    have HX : Hid (s.data.toList[z + n + j]? = some (s[z + n + j]'hlt4)) := Lib.data_getElem? s _ hlt4
                    have HA4 : Hid (((s.data.toList.drop (z + n)).take (j + 1)).any (fun b => b != 48) = (((s.data.toList.drop (z + n)).take j).any (fun b => b != 48) || ((s[z + n + j]'hlt4) != 48))) := by
                      show _ = _
                      rw [List.take_add_one, List.getElem?_drop, HX.out, List.any_append]
                      simp
                    generalize hq : (s[z + n + j]'hlt4) = x at HX HA4
                    generalize ((s.data.toList.drop (z + n)).take j).any (fun b => b != 48) = mr at *
                    have hb : ((x.toNat : Int) != 48) = (x != 48) := by
                      by_cases e : x = 48
                      · subst e; rfl
                      · have : (x.toNat : Int) ≠ 48 := fun h => e (UInt8.toNat_inj.1 (by show x.toNat = 48; omega))
                        rw [bne_yes this]; simp [e]
                    generalize hw : z + n + j = q at *
                    cases mr
                    · rw [Bool.false_or] at HA4
                      clear HX
                      go_wp2
                      refine ⟨⟨j + 1, by omega, by rw [HA4.out], by rw [← Nat.add_assoc, hw]; go_num⟩, ?_⟩
                      simp [RowKit.intOf]
                      omega
                    · rw [Bool.true_or] at HA4
                      clear HX hb
                      go_wp2
                      refine ⟨⟨j + 1, by omega, by rw [HA4.out], by rw [← Nat.add_assoc, hw]; go_num⟩, ?_⟩
                      simp [RowKit.intOf]
                      omega
                  · have hjj : z + n + j = s.size := by omega
                    have HM : Hid (((s.data.toList.drop (z + n)).take j).any (fun b => b != 48) = cutMr s.data.toList) := by
                      show _ = _
                      unfold cutMr
                      rw [HA.out, hN.out, HS.out, List.drop_drop, List.take_of_length_le (by rw [List.length_drop, hsl]; omega)]
                      rfl
                    have HV : Hid (dv ((s.data.toList.drop z).take n) = cutV s.data.toList) := by
                      show _ = _
                      unfold cutV
                      rw [HA.out, hN.out, HS.out]; rfl
                    have HC : Hid (z + n = cutN s.data.toList) := by
                      show _ = _
                      unfold cutN
                      rw [HA.out, hN.out, HS.out, List.length_drop, hsl]
                      simp
                      omega
                    have HE : Hid (cutE s.data.toList = 0) := by
                      show _ = _
                      unfold cutE
                      rw [HA.out]; rfl
                    have hi4 : decide (((z + n + j : Nat) : Int) < (s.size : Int)) = false := by simp; omega
                    generalize ((s.data.toList.drop (z + n)).take j).any (fun b => b != 48) = mr at *
                    generalize dv ((s.data.toList.drop z).take n) = V at *
                    generalize hw : z + n + j = q at *
                    go_wp2
                    ((try simp only [Exit.inBlock, Exit.then]); refine bodyPost_ret (results_tmp4 rfl _ _ _) rfl ?_)
                    refine ⟨?_, rfl⟩
                    rw [← HM.out, ← HV.out, HE.out, ← HC.out]
                    simp
set_option maxHeartbeats 3200000 in
set_option maxRecDepth 100000 in
theorem cuts_walk {s : ByteArray} (hs : s.size ≤ maxLen) {w : World} (hT : TenVar w) :
    Calls Tryd.prog 4 #[.string s] w fun r w' => r = .returned (.bool true) ∧ Below w.heap.size w w' := by
  have hs2 : s.size ≤ 9223372036854775807 := hs
  have h1 := fun w => lemCut_any s (by omega) w
  have h2 := fun w => rcut_any s hs2 w
  generalize cutV s.data.toList = V at *
  generalize cutN s.data.toList = N at *
  generalize cutMr s.data.toList = M at *
  generalize cutE s.data.toList = E at *
  go_enter Tryd.func4, Tryd.ntmps4
  go_wp2_with fail
  refine (h1 _).mono ?_
  rintro r w1 ⟨rfl, hB⟩
  clear h1
  go_wp2_with fail
  refine (h2 _).mono ?_
  rintro r w2 ⟨rfl, rfl⟩
  clear h2
  have ha := alive10_any (hT.later hB)
  go_wp2_with fail
  refine ha.mono ?_
  rintro r w3 ⟨rfl, hb⟩
  have hB := hB.trans (hb.mono hB.size)
  clear ha hb
  go_wp2
  go_ret
  exact ⟨by simp, hB⟩
end Go.Proofs.YtbbmoaipilmmdaaDoor

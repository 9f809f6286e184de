/- plumbref07: parts, against. -/
import Derived.Test.YtbbmoaipilmmdabGreatDoorNearScl
import Derived.Test.YtbbmoaipilmmdabGreatDoorRef3Shl
import Derived.Test.YtbbmoaipilmmdabGreatDoorRef3MulW
import Derived.Deep.RegionHeld3
namespace Go.Proofs.YtbbmoaipilmmdabGreatDoor
open Go.ChangeShapes Go.WideShapes Go.ChangeAt Go.RowKit
open Na Ar
set_option linter.unusedVariables false
/-- an exact number in its variable -/
def Q7 (w : World) (g : Nat) (x y z u : Value) : Prop := w.heap[g]? = some (.cells #[x, y, z, u] 60)
section
variable {w w' : World} {g : Nat} {x y z u : Value}
theorem Q7.lt (h : Q7 w g x y z u) : g < w.heap.size := by
  by_cases hlt : g < w.heap.size
  · exact hlt
  · unfold Q7 at h; simp [Array.getElem?_eq_none (Nat.le_of_not_lt hlt)] at h
theorem Q7.later (h : Q7 w g x y z u) (hb : Below w.heap.size w w') : Q7 w' g x y z u := by
  have := h.lt
  unfold Q7
  rw [hb.block g this]; exact h
theorem Q7.cells (h : Q7 w g x y z u) : w.cell? ⟨g, 0, none⟩ = some x ∧ w.cell? ⟨g, 1, none⟩ = some y ∧ w.cell? ⟨g, 2, none⟩ = some z ∧ w.cell? ⟨g, 3, none⟩ = some u := by
  unfold Q7 at h
  simp [World.cell?, h]
theorem q7_new (w : World) (x y z u : Value) : Q7 (w.alloc (.cells #[x, y, z, u] 60)) w.heap.size x y z u := heap_alloc_new _ _
end
theorem r7parts_any {b : Int} (h0 : 0 ≤ b) (h1 : b ≤ mostP) (w : World) :
    Calls Tryz.prog 55 #[.int .u64 b] w fun e w' => e = .returned (.tuple #[.int .u64 (spM b), .int .i64 (spX b)]) ∧ w = w' := by
  obtain ⟨f1, f2, f3⟩ := fields_of h0 h1
  obtain ⟨hu, hf, _⟩ := size_fin h0 h1
  have h2 := frac_bits hu
  have hb := fr_bd b
  have h4 := hid_or hb.1 hb.2
  have h5 : 0 ≤ ef b := (ef_bd b).1
  by_cases he : ef b = 0
  · have E1 : Hid (spM b = fr b) := by show _ = _; unfold spM; simp [he]
    have E2 : Hid (spX b = -1074) := by show _ = _; unfold spX; simp [he]
    have t1 : b / 4503599627370496 = 0 := by omega
    generalize fr b = F at *
    clear he f1 f2 f3 hf hb h4 h5
    go_enter Tryz.func55, Tryz.ntmps55
    go_wp2
    go_ret2
    exact ⟨by rw [E1.out, E2.out]; rfl, rfl⟩
  · have E1 : Hid (spM b = 4503599627370496 + fr b) := by show _ = _; unfold spM; simp [he, hf]
    have E2 : Hid (spX b = ef b - 1075) := by show _ = _; unfold spX; simp [he, hf]
    have t1 : b / 4503599627370496 = ef b := f1.symm
    have t2 : (ef b == 0) = false := by simp [he]
    generalize fr b = F at *
    generalize ef b = e at *
    clear he f1 f2 hf hb
    go_enter Tryz.func55, Tryz.ntmps55
    go_wp2
    go_ret2
    exact ⟨by rw [E1.out, E2.out]; rfl, rfl⟩
theorem agn0_ord (a b : Int) (more : Bool) : agn0 a b more = if ordN a b = 0 ∧ more = true then 1 else ordN a b := by
  unfold agn0 ordN
  by_cases h : a < b
  · simp [h]
  · by_cases h2 : b < a
    · have : ¬ a = b := by omega
      simp [h, h2, this]
    · have : a = b := by omega
      cases more <;> simp [this]
theorem word_at {w0 w1 : World} {v : Int} (hv : U v) (h : Below w0.heap.size w0 w1) : Calls Tryz.prog 78 #[.int .u64 v] w1 fun e w' => ∃ b m d l, e = .returned (.slice b m d) ∧ RowC w' b m d l ∧ Nm l v ∧ m ≤ 1 ∧ Below w0.heap.size w0 w' ∧ Below w1.heap.size w1 w' := by
  refine (ref3Word_any hv w1).mono ?_
  rintro e w' ⟨o, rfl, ho, hb⟩
  obtain ⟨a, n, c, l, rfl, r, nm, E⟩ := ho.opens (Lt.word hv) (by omega)
  have h1 := r.1.1
  have h2 := (Lt.word hv).len
  rw [← E.out, h1] at h2
  exact ⟨_, _, _, _, rfl, r, nm, h2, h.trans (hb.mono h.size), hb⟩
set_option maxHeartbeats 3200000 in
set_option maxRecDepth 100000 in
theorem against_any {w : World} {a b : Option Addr} {n m c1 c2 : Nat} {xs ys : List Int} (hr1 : RowC w a n c1 xs) (hr2 : RowC w b m c2 ys) (hx : Ws xs) (hy : Ws ys) (hn : n ≤ 1100000) (hm : m ≤ 1100000) {x mm e : Int} (hmm : U mm) {more : Bool} (x0 : -100000000 ≤ x) (x1 : x ≤ 100000000) (e0 : -10000 ≤ e) (e1 : e ≤ 10000) :
    Calls Tryz.prog 56 #[.agg #[.slice a n c1, .slice b m c2, .int .i64 x, .bool more], .int .u64 mm, .int .i64 e] w fun r w' => r = .returned (.int .i64 (agX (num xs) (num ys) x mm e more)) ∧ Below w.heap.size w w' := by
  have t0 := q7_new w (.slice a n c1) (.slice b m c2) (.int .i64 x) (.bool more)
  have hb0 := alloc_below (w := w) (.cells #[.slice a n c1, .slice b m c2, .int .i64 x, .bool more] 60)
  obtain ⟨w0, hw0⟩ : ∃ w0, w0 = w.alloc (.cells #[.slice a n c1, .slice b m c2, .int .i64 x, .bool more] 60) := ⟨_, rfl⟩
  rw [← hw0] at t0 hb0
  have r1 := hr1.later hb0
  have r2 := hr2.later hb0
  have l2 := hr2.1.1
  clear hr1 hr2
  obtain ⟨g, hg⟩ : ∃ g, g = w.heap.size := ⟨_, rfl⟩
  have HG : Hid (w.heap.size = g) := hg.symm
  rw [← hg] at t0 hb0
  have hcl : ∀ w1, Below w0.heap.size w0 w1 → w1.cell? ⟨g, 0, none⟩ = some (.slice a n c1) ∧ w1.cell? ⟨g, 1, none⟩ = some (.slice b m c2) ∧ w1.cell? ⟨g, 2, none⟩ = some (.int .i64 x) ∧ w1.cell? ⟨g, 3, none⟩ = some (.bool more) := fun w1 h => (t0.later h).cells
  obtain ⟨p0, p1, p2, p3⟩ := hcl w0 (Below.refl _ _)
  have fW := fun w1 h => word_at (w0 := w0) (w1 := w1) hmm h
  obtain ⟨K, hK⟩ : ∃ K, K = agX (num xs) (num ys) x mm e more := ⟨_, rfl⟩
  rw [← hK]
  have HK : Hid (K = agX (num xs) (num ys) x mm e more) := hK
  clear hK
  have HS : g ≤ w0.heap.size := by rw [hg]; exact hb0.size
  go_enter Tryz.func56, Tryz.ntmps56
  go_wp2
  rw [← hw0, ← hg]
  clear hw0 hg t0
  go_region_held3 (fun w' => w'.cell? ⟨g, 1, none⟩ = some (.slice b m c2)) (go_keep) (first | (go_at_call 78; refine (fW _ (by first | exact Below.refl _ _ | exact below_drewN (Below.refl _ _) _)).mono ?_; rintro e wA ⟨xa, xn, xc, xl, rfl, rx, mx, lx, hBA, hbA⟩; obtain ⟨p0, p1, p2, p3⟩ := hcl wA hBA; have hM := ref3Mul_any (c1 := xc) (c2 := c2) rx.1 (r2.later hBA).1 mx.ws hy (by omega) (by omega)) | (go_at_call 11; refine hM.mono ?_; rintro e wB ⟨vB, rfl, oB, hbB⟩; have hBB := hBA.trans (hbB.mono hBA.size); obtain ⟨p0, p1, p2, p3⟩ := hcl wB hBB))
  have ly : Lt (num ys) m := ⟨num_nonneg hy, by have := num_bd hy; rw [l2] at this; exact this⟩
  have lp : Lt (mm * num ys) (1 + m) := (Lt.word hmm).mul ly
  rw [mx.num] at oB
  obtain ⟨ya, yn, yc, yl, rfl, ry, my, EY⟩ := oB.opens lp (by omega)
  have hyl := ry.1.1
  have hyl' := lp.len
  rw [← EY.out, hyl] at hyl'
  have r1B := r1.later hBB
  have HBB := hb0.trans (hBB.mono HS)
  have l1 := r1B.1.1
  have lx1 : Lt (num xs) n := ⟨num_nonneg hx, by have := num_bd hx; rw [l1] at this; exact this⟩
  clear hM fW hbA hbB hBA oB rx mx lx r1 r2 EY hyl
  have hcl' : ∀ w1, Below wB.heap.size wB w1 → w1.cell? ⟨g, 3, none⟩ = some (.bool more) := fun w1 h => (hcl w1 (hBB.trans (h.mono hBB.size))).2.2.2
  have hgB : g ≤ wB.heap.size := by rw [← HG.out]; exact HBB.size
  clear hcl p0 p1
  by_cases hd : 0 < x - e
  · obtain ⟨t, ht⟩ : ∃ t : Nat, x - e = (t : Int) := ⟨(x - e).toNat, by omega⟩
    have hS := ref3Shl_any (c1 := c1) r1B.1 hx (by omega) t (by omega)
    have HE : Hid (K = if ordN (num xs * 2 ^ t) (mm * num ys) = 0 ∧ more = true then 1 else ordN (num xs * 2 ^ t) (mm * num ys)) := by
      show _ = _
      rw [HK.out]; unfold agX; rw [if_pos hd, agn0_ord, ht, show e2 (t : Int) = 2 ^ t by unfold e2; rw [Int.toNat_natCast]]
    have lS := lx1.pow2 (t := t)
    have tg3 : decide (0 < t) = true := by simp; omega
    have tg4 : 0 < t := by omega
    generalize num xs * 2 ^ t = P at *
    generalize mm * num ys = R at *
    clear HK r1B lx1 hd
    go_wp2_with fail
    refine hS.mono ?_
    rintro e' wC ⟨v, rfl, oC, hbC⟩
    obtain ⟨za, zn, zc, zl, rfl, rz, mz, EZ⟩ := oC.opens lS (by omega)
    have hzl := rz.1.1
    have hzl' := lS.len
    rw [← EZ.out, hzl] at hzl'
    have hC := ref3Cmp_any (c1 := zc) (c2 := yc) rz.1 (ry.later hbC).1 mz.ws my.ws (by omega) (by omega)
    rw [mz.num, my.num] at hC
    have pm := hcl' wC hbC
    have hb := HBB.trans (hbC.mono hgB)
    clear hS oC rz mz EZ hzl hzl' ry my hcl' hbC
    generalize ordN P R = C at *
    go_wp2_with fail
    refine hC.mono ?_
    rintro e' wD ⟨rfl, rfl⟩
    clear hC
    by_cases hc : C = 0
    · have tc : (C == 0) = true := by simp [hc]
      cases more
      · have HF : Hid (C = K) := by show _ = _; rw [HE.out]; simp
        clear HE hc
        go_wp2
        go_ret
        exact ⟨ret_i HF.out, by rw [HG.out]; exact hb⟩
      · have HF : Hid (1 = K) := by show _ = _; rw [HE.out, if_pos ⟨hc, rfl⟩]
        clear HE hc
        go_wp2
        go_ret
        exact ⟨ret_i HF.out, by rw [HG.out]; exact hb⟩
    · have tc : (C == 0) = false := by simp [hc]
      have HF : Hid (C = K) := by show _ = _; rw [HE.out, if_neg (fun h => hc h.1)]
      clear HE hc
      go_wp2
      go_ret
      exact ⟨ret_i HF.out, by rw [HG.out]; exact hb⟩
  · obtain ⟨t, ht⟩ : ∃ t : Nat, x - e = -(t : Int) := ⟨(-(x - e)).toNat, by omega⟩
    have hS := ref3Shl_any (c1 := yc) ry.1 my.ws (by omega) t (by omega)
    rw [my.num] at hS
    have HE : Hid (K = if ordN (num xs) (mm * num ys * 2 ^ t) = 0 ∧ more = true then 1 else ordN (num xs) (mm * num ys * 2 ^ t)) := by
      show _ = _
      rw [HK.out]; unfold agX; rw [if_neg hd, agn0_ord, ht, Int.neg_neg, show e2 (t : Int) = 2 ^ t by unfold e2; rw [Int.toNat_natCast]]
    have lS := lp.pow2 (t := t)
    have tg : decide (-(t : Int) > 0) = false := by simp
    have tg2 : decide (0 < -(t : Int)) = false := by simp
    generalize mm * num ys * 2 ^ t = R at *
    clear HK hd
    go_wp2_with fail
    refine hS.mono ?_
    rintro e' wC ⟨v, rfl, oC, hbC⟩
    obtain ⟨za, zn, zc, zl, rfl, rz, mz, EZ⟩ := oC.opens lS (by omega)
    have hzl := rz.1.1
    have hzl' := lS.len
    rw [← EZ.out, hzl] at hzl'
    have hC := ref3Cmp_any (c1 := c1) (c2 := zc) (r1B.later hbC).1 rz.1 hx mz.ws (by omega) (by omega)
    rw [mz.num] at hC
    have pm := hcl' wC hbC
    have hb := HBB.trans (hbC.mono hgB)
    clear hS oC rz mz EZ hzl hzl' ry my hcl' hbC r1B lx1
    generalize ordN (num xs) R = C at *
    go_wp2_with fail
    refine hC.mono ?_
    rintro e' wD ⟨rfl, rfl⟩
    clear hC
    by_cases hc : C = 0
    · have tc : (C == 0) = true := by simp [hc]
      cases more
      · have HF : Hid (C = K) := by show _ = _; rw [HE.out]; simp
        clear HE hc
        go_wp2
        go_ret
        exact ⟨ret_i HF.out, by rw [HG.out]; exact hb⟩
      · have HF : Hid (1 = K) := by show _ = _; rw [HE.out, if_pos ⟨hc, rfl⟩]
        clear HE hc
        go_wp2
        go_ret
        exact ⟨ret_i HF.out, by rw [HG.out]; exact hb⟩
    · have tc : (C == 0) = false := by simp [hc]
      have HF : Hid (C = K) := by show _ = _; rw [HE.out, if_neg (fun h => hc h.1)]
      clear HE hc
      go_wp2
      go_ret
      exact ⟨ret_i HF.out, by rw [HG.out]; exact hb⟩
end Go.Proofs.YtbbmoaipilmmdabGreatDoor

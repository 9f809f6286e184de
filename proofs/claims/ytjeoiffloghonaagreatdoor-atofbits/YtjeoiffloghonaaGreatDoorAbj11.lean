import Derived.Deep.RegionHeld3
import Derived.Below
import Derived.BigQuiet
import Derived.BigRegion
import Derived.ChangeOld
import Derived.Deep.QuietTactic
import Derived.Deep.RegionLaw
import Derived.Deep.RegionWith
import Derived.KernelRfl
import Derived.Laws.BitsAllLaws
import Derived.Laws.CopyRow
import Derived.Laws.EntriesVeiled
import Derived.Laws.IdiomCopy
import Derived.Laws.IdiomRangeMap
import Derived.OpenShut
import Derived.OwnWalk
import Derived.ProofKit
import Derived.ShutString
import Derived.WalkKit
import Derived.WalkLawsBesides
import Derived.WalkSpells
import Derived.Test.YtjeoiffloghonaaGreatDoorAbj5
import Derived.Test.YtjeoiffloghonaaGreatDoorAbj7
import Derived.Test.YtjeoiffloghonaaGreatDoorAbj8
/- plumbref07: parts, against. -/
namespace Go.Proofs.YtjeoiffloghonaaGreatDoor
open Go.ChangeShapes Go.WideShapes Go.ChangeAt Go.RowKit
open Na Ar
set_option linter.unusedVariables false
/-- an exact number in its variable -/
def Q7 (w : World) (g : Nat) (x y z u : Value) : Prop := w.heap[g]? = some (.cells #[x, y, z, u] 160)
section
variable {w w' : World} {g : Nat} {x y z u : Value}
theorem Q7.lt (h : Q7 w g x y z u) : g < w.heap.size := by
  by_cases hlt : g < w.heap.size
  · exact hlt
  · unfold Q7 at h; simp [Array.getElem?_eq_none (Nat.le_of_not_lt hlt)] at h
theorem Q7.later (h : Q7 w g x y z u) (hb : Below w.heap.size w w') : Q7 w' g x y z u := by
  have := h.lt
  unfold Q7
  rw [hb.block g this]; exact h
theorem Q7.cells (h : Q7 w g x y z u) : w.cell? ⟨g, 0, none⟩ = some x ∧ w.cell? ⟨g, 1, none⟩ = some y ∧ w.cell? ⟨g, 2, none⟩ = some z ∧ w.cell? ⟨g, 3, none⟩ = some u := by
  unfold Q7 at h
  simp [World.cell?, h]
theorem q7_new (w : World) (x y z u : Value) : Q7 (w.alloc (.cells #[x, y, z, u] 160)) w.heap.size x y z u := heap_alloc_new _ _
end
theorem r7parts_any {b : Int} (h0 : 0 ≤ b) (h1 : b ≤ mostP) (w : World) :
    Calls Tryz.prog 179 #[.int .u64 b] w fun e w' => e = .returned (.tuple #[.int .u64 (spM b), .int .i64 (spX b)]) ∧ w = w' := by
  obtain ⟨f1, f2, f3⟩ := fields_of h0 h1
  obtain ⟨hu, hf, _⟩ := size_fin h0 h1
  have h2 := frac_bits hu
  have hb := fr_bd b
  have h4 := hid_or hb.1 hb.2
  have h5 : 0 ≤ ef b := (ef_bd b).1
  by_cases he : ef b = 0
  · have E1 : Hid (spM b = fr b) := by show _ = _; unfold spM; simp [he]
    have E2 : Hid (spX b = -1074) := by show _ = _; unfold spX; simp [he]
    have t1 : b / 4503599627370496 = 0 := by omega
    generalize fr b = F at *
    clear he f1 f2 f3 hf hb h4 h5
    go_enter Tryz.func179, Tryz.ntmps179
    go_wp2
    go_ret2
    exact ⟨by rw [E1.out, E2.out]; rfl, rfl⟩
  · have E1 : Hid (spM b = 4503599627370496 + fr b) := by show _ = _; unfold spM; simp [he, hf]
    have E2 : Hid (spX b = ef b - 1075) := by show _ = _; unfold spX; simp [he, hf]
    have t1 : b / 4503599627370496 = ef b := f1.symm
    have t2 : (ef b == 0) = false := by simp [he]
    generalize fr b = F at *
    generalize ef b = e at *
    clear he f1 f2 hf hb
    go_enter Tryz.func179, Tryz.ntmps179
    go_wp2
    go_ret2
    exact ⟨by rw [E1.out, E2.out]; rfl, rfl⟩
theorem agn0_ord (a b : Int) (more : Bool) : agn0 a b more = if ordN a b = 0 ∧ more = true then 1 else ordN a b := by
  unfold agn0 ordN
  by_cases h : a < b
  · simp [h]
  · by_cases h2 : b < a
    · have : ¬ a = b := by omega
      simp [h, h2, this]
    · have : a = b := by omega
      cases more <;> simp [this]
theorem word_at {w0 w1 : World} {v : Int} (hv : U v) (h : Below w0.heap.size w0 w1) : Calls Tryz.prog 225 #[.int .u64 v] w1 fun e w' => ∃ b m d l, e = .returned (.slice b m d) ∧ RowC w' b m d l ∧ Nm l v ∧ m ≤ 1 ∧ Below w0.heap.size w0 w' ∧ Below w1.heap.size w1 w' := by
  refine (ref3Word_any hv w1).mono ?_
  rintro e w' ⟨o, rfl, ho, hb⟩
  obtain ⟨a, n, c, l, rfl, r, nm, E⟩ := ho.opens (Lt.word hv) (by omega)
  have h1 := r.1.1
  have h2 := (Lt.word hv).len
  rw [← E.out, h1] at h2
  exact ⟨_, _, _, _, rfl, r, nm, h2, h.trans (hb.mono h.size), hb⟩
set_option maxHeartbeats 3200000 in
set_option maxRecDepth 100000 in
theorem against_any {w : World} {a b : Option Addr} {n m c1 c2 : Nat} {xs ys : List Int} (hr1 : RowC w a n c1 xs) (hr2 : RowC w b m c2 ys) (hx : Ws xs) (hy : Ws ys) (hn : n ≤ 1100000) (hm : m ≤ 1100000) {x mm e : Int} (hmm : U mm) {more : Bool} (x0 : -100000000 ≤ x) (x1 : x ≤ 100000000) (e0 : -10000 ≤ e) (e1 : e ≤ 10000) :
    Calls Tryz.prog 180 #[.agg #[.slice a n c1, .slice b m c2, .int .i64 x, .bool more], .int .u64 mm, .int .i64 e] w fun r w' => r = .returned (.int .i64 (agX (num xs) (num ys) x mm e more)) ∧ Below w.heap.size w w' := by
  have t0 := q7_new w (.slice a n c1) (.slice b m c2) (.int .i64 x) (.bool more)
  have hb0 := alloc_below (w := w) (.cells #[.slice a n c1, .slice b m c2, .int .i64 x, .bool more] 160)
  obtain ⟨w0, hw0⟩ : ∃ w0, w0 = w.alloc (.cells #[.slice a n c1, .slice b m c2, .int .i64 x, .bool more] 160) := ⟨_, rfl⟩
  rw [← hw0] at t0 hb0
  have r1 := hr1.later hb0
  have r2 := hr2.later hb0
  have l2 := hr2.1.1
  clear hr1 hr2
  obtain ⟨g, hg⟩ : ∃ g, g = w.heap.size := ⟨_, rfl⟩
  have HG : Hid (w.heap.size = g) := hg.symm
  rw [← hg] at t0 hb0
  have hcl : ∀ w1, Below w0.heap.size w0 w1 → w1.cell? ⟨g, 0, none⟩ = some (.slice a n c1) ∧ w1.cell? ⟨g, 1, none⟩ = some (.slice b m c2) ∧ w1.cell? ⟨g, 2, none⟩ = some (.int .i64 x) ∧ w1.cell? ⟨g, 3, none⟩ = some (.bool more) := fun w1 h => (t0.later h).cells
  obtain ⟨p0, p1, p2, p3⟩ := hcl w0 (Below.refl _ _)
  have fW := fun w1 h => word_at (w0 := w0) (w1 := w1) hmm h
  obtain ⟨K, hK⟩ : ∃ K, K = agX (num xs) (num ys) x mm e more := ⟨_, rfl⟩
  rw [← hK]
  have HK : Hid (K = agX (num xs) (num ys) x mm e more) := hK
  clear hK
  have HS : g ≤ w0.heap.size := by rw [hg]; exact hb0.size
  go_enter Tryz.func180, Tryz.ntmps180
  go_wp2
  rw [← hw0, ← hg]
  clear hw0 hg t0
  go_region_held3 (fun w' => w'.cell? ⟨g, 1, none⟩ = some (.slice b m c2)) (go_keep) (first | (go_at_call 225; refine (fW _ (by first | exact Below.refl _ _ | exact below_drewN (Below.refl _ _) _)).mono ?_; rintro e wA ⟨xa, xn, xc, xl, rfl, rx, mx, lx, hBA, hbA⟩; obtain ⟨p0, p1, p2, p3⟩ := hcl wA hBA; have hM := ref3Mul_any (c1 := xc) (c2 := c2) rx.1 (r2.later hBA).1 mx.ws hy (by omega) (by omega)) | (go_at_call 224; refine hM.mono ?_; rintro e wB ⟨vB, rfl, oB, hbB⟩; have hBB := hBA.trans (hbB.mono hBA.size); obtain ⟨p0, p1, p2, p3⟩ := hcl wB hBB))
  have ly : Lt (num ys) m := ⟨num_nonneg hy, by have := num_bd hy; rw [l2] at this; exact this⟩
  have lp : Lt (mm * num ys) (1 + m) := (Lt.word hmm).mul ly
  rw [mx.num] at oB
  obtain ⟨ya, yn, yc, yl, rfl, ry, my, EY⟩ := oB.opens lp (by omega)
  have hyl := ry.1.1
  have hyl' := lp.len
  rw [← EY.out, hyl] at hyl'
  have r1B := r1.later hBB
  have HBB := hb0.trans (hBB.mono HS)
  have l1 := r1B.1.1
  have lx1 : Lt (num xs) n := ⟨num_nonneg hx, by have := num_bd hx; rw [l1] at this; exact this⟩
  clear hM fW hbA hbB hBA oB rx mx lx r1 r2 EY hyl
  have hcl' : ∀ w1, Below wB.heap.size wB w1 → w1.cell? ⟨g, 3, none⟩ = some (.bool more) := fun w1 h => (hcl w1 (hBB.trans (h.mono hBB.size))).2.2.2
  have hgB : g ≤ wB.heap.size := by rw [← HG.out]; exact HBB.size
  clear hcl p0 p1
  by_cases hd : 0 < x - e
  · obtain ⟨t, ht⟩ : ∃ t : Nat, x - e = (t : Int) := ⟨(x - e).toNat, by omega⟩
    have hS := ref3Shl_any (c1 := c1) r1B.1 hx (by omega) t (by omega)
    have HE : Hid (K = if ordN (num xs * 2 ^ t) (mm * num ys) = 0 ∧ more = true then 1 else ordN (num xs * 2 ^ t) (mm * num ys)) := by
      show _ = _
      rw [HK.out]; unfold agX; rw [if_pos hd, agn0_ord, ht, show e2 (t : Int) = 2 ^ t by unfold e2; rw [Int.toNat_natCast]]
    have lS := lx1.pow2 (t := t)
    have tg3 : decide (0 < t) = true := by simp; omega
    have tg4 : 0 < t := by omega
    generalize num xs * 2 ^ t = P at *
    generalize mm * num ys = R at *
    clear HK r1B lx1 hd
    go_wp2_with fail
    refine hS.mono ?_
    rintro e' wC ⟨v, rfl, oC, hbC⟩
    obtain ⟨za, zn, zc, zl, rfl, rz, mz, EZ⟩ := oC.opens lS (by omega)
    have hzl := rz.1.1
    have hzl' := lS.len
    rw [← EZ.out, hzl] at hzl'
    have hC := ref3Cmp_any (c1 := zc) (c2 := yc) rz.1 (ry.later hbC).1 mz.ws my.ws (by omega) (by omega)
    rw [mz.num, my.num] at hC
    have pm := hcl' wC hbC
    have hb := HBB.trans (hbC.mono hgB)
    clear hS oC rz mz EZ hzl hzl' ry my hcl' hbC
    generalize ordN P R = C at *
    go_wp2_with fail
    refine hC.mono ?_
    rintro e' wD ⟨rfl, rfl⟩
    clear hC
    by_cases hc : C = 0
    · have tc : (C == 0) = true := by simp [hc]
      cases more
      · have HF : Hid (C = K) := by show _ = _; rw [HE.out]; simp
        clear HE hc
        go_wp2
        go_ret
        exact ⟨ret_i HF.out, by rw [HG.out]; exact hb⟩
      · have HF : Hid (1 = K) := by show _ = _; rw [HE.out, if_pos ⟨hc, rfl⟩]
        clear HE hc
        go_wp2
        go_ret
        exact ⟨ret_i HF.out, by rw [HG.out]; exact hb⟩
    · have tc : (C == 0) = false := by simp [hc]
      have HF : Hid (C = K) := by show _ = _; rw [HE.out, if_neg (fun h => hc h.1)]
      clear HE hc
      go_wp2
      go_ret
      exact ⟨ret_i HF.out, by rw [HG.out]; exact hb⟩
  · obtain ⟨t, ht⟩ : ∃ t : Nat, x - e = -(t : Int) := ⟨(-(x - e)).toNat, by omega⟩
    have hS := ref3Shl_any (c1 := yc) ry.1 my.ws (by omega) t (by omega)
    rw [my.num] at hS
    have HE : Hid (K = if ordN (num xs) (mm * num ys * 2 ^ t) = 0 ∧ more = true then 1 else ordN (num xs) (mm * num ys * 2 ^ t)) := by
      show _ = _
      rw [HK.out]; unfold agX; rw [if_neg hd, agn0_ord, ht, Int.neg_neg, show e2 (t : Int) = 2 ^ t by unfold e2; rw [Int.toNat_natCast]]
    have lS := lp.pow2 (t := t)
    have tg : decide (-(t : Int) > 0) = false := by simp
    have tg2 : decide (0 < -(t : Int)) = false := by simp
    generalize mm * num ys * 2 ^ t = R at *
    clear HK hd
    go_wp2_with fail
    refine hS.mono ?_
    rintro e' wC ⟨v, rfl, oC, hbC⟩
    obtain ⟨za, zn, zc, zl, rfl, rz, mz, EZ⟩ := oC.opens lS (by omega)
    have hzl := rz.1.1
    have hzl' := lS.len
    rw [← EZ.out, hzl] at hzl'
    have hC := ref3Cmp_any (c1 := c1) (c2 := zc) (r1B.later hbC).1 rz.1 hx mz.ws (by omega) (by omega)
    rw [mz.num] at hC
    have pm := hcl' wC hbC
    have hb := HBB.trans (hbC.mono hgB)
    clear hS oC rz mz EZ hzl hzl' ry my hcl' hbC r1B lx1
    generalize ordN (num xs) R = C at *
    go_wp2_with fail
    refine hC.mono ?_
    rintro e' wD ⟨rfl, rfl⟩
    clear hC
    by_cases hc : C = 0
    · have tc : (C == 0) = true := by simp [hc]
      cases more
      · have HF : Hid (C = K) := by show _ = _; rw [HE.out]; simp
        clear HE hc
        go_wp2
        go_ret
        exact ⟨ret_i HF.out, by rw [HG.out]; exact hb⟩
      · have HF : Hid (1 = K) := by show _ = _; rw [HE.out, if_pos ⟨hc, rfl⟩]
        clear HE hc
        go_wp2
        go_ret
        exact ⟨ret_i HF.out, by rw [HG.out]; exact hb⟩
    · have tc : (C == 0) = false := by simp [hc]
      have HF : Hid (C = K) := by show _ = _; rw [HE.out, if_neg (fun h => hc h.1)]
      clear HE hc
      go_wp2
      go_ret
      exact ⟨ret_i HF.out, by rw [HG.out]; exact hb⟩
end Go.Proofs.YtjeoiffloghonaaGreatDoor

/- plumbref07: below, up, round. -/
namespace Go.Proofs.YtjeoiffloghonaaGreatDoor
open Go.ChangeShapes Go.WideShapes Go.ChangeAt Go.RowKit
open Na Ar
set_option linter.unusedVariables false
/-- an exact number, as the document's way has it -/
structure Ex7 (w : World) (a b : Option Addr) (n m c1 c2 : Nat) (x N D : Int) (xs ys : List Int) : Prop where
  r1 : RowC w a n c1 xs
  r2 : RowC w b m c2 ys
  hx : Ws xs
  hy : Ws ys
  hn : n ≤ 1100000
  hm : m ≤ 1100000
  x0 : -100000000 ≤ x
  x1 : x ≤ 100000000
  hN : num xs = N
  hD : num ys = D
  pD : 0 < D
section
variable {w w' : World} {a b : Option Addr} {n m c1 c2 : Nat} {x N D : Int} {xs ys : List Int} {more neg : Bool}
theorem Ex7.later (h : Ex7 w a b n m c1 c2 x N D xs ys) (hb : Below w.heap.size w w') : Ex7 w' a b n m c1 c2 x N D xs ys := ⟨h.r1.later hb, h.r2.later hb, h.hx, h.hy, h.hn, h.hm, h.x0, h.x1, h.hN, h.hD, h.pD⟩
theorem Ex7.A0 (h : Ex7 w a b n m c1 c2 x N D xs ys) : 0 ≤ scA N x := by
  unfold scA
  rw [← h.hN]
  exact Int.mul_nonneg (num_nonneg h.hx) (Int.le_of_lt (e2_pos _))
theorem Ex7.B0 (h : Ex7 w a b n m c1 c2 x N D xs ys) : 0 < scB D x := scB_pos h.pD
/-- against a pattern -/
theorem ag_pat (h : Ex7 w a b n m c1 c2 x N D xs ys) {p : Int} (h0 : 0 ≤ p) (h1 : p ≤ mostP) :
    Calls Tryz.prog 180 #[.agg #[.slice a n c1, .slice b m c2, .int .i64 x, .bool more], .int .u64 (spM p), .int .i64 (spX p)] w fun r w' => r = .returned (.int .i64 (agn (scA N x) (scB D x) (numW p) more)) ∧ Below w.heap.size w w' := by
  have hsp : -1074 ≤ spX p ∧ spX p ≤ 971 := by
    obtain ⟨u1, f1, _⟩ := size_fin h0 h1
    obtain ⟨q, e1, e2', _⟩ := num_parts u1 f1
    omega
  have := against_any (more := more) h.r1 h.r2 h.hx h.hy h.hn h.hm (U_spM p) h.x0 h.x1 (e := spX p) (by omega) (by omega)
  rw [h.hN, h.hD, agX_pat h0 h1] at this
  exact this
theorem ag_mid (h : Ex7 w a b n m c1 c2 x N D xs ys) {p : Int} (h0 : 0 ≤ p) (h1 : p ≤ mostP) :
    Calls Tryz.prog 180 #[.agg #[.slice a n c1, .slice b m c2, .int .i64 x, .bool more], .int .u64 (2 * spM p + 1), .int .i64 (spX p - 1)] w fun r w' => r = .returned (.int .i64 (agn (2 * scA N x) (scB D x) (numW p + nxtN p) more)) ∧ Below w.heap.size w w' := by
  obtain ⟨u1, f1, _⟩ := size_fin h0 h1
  obtain ⟨q, e1, e2', e3, e4, _⟩ := num_parts u1 f1
  have := against_any (more := more) (mm := 2 * spM p + 1) h.r1 h.r2 h.hx h.hy h.hn h.hm (by unfold U; omega) h.x0 h.x1 (e := spX p - 1) (by omega) (by omega)
  rw [h.hN, h.hD, agX_mid h0 h1] at this
  exact this
theorem agn_ge (A B n : Int) (more : Bool) : (0 ≤ agn A B n more ↔ n * B ≤ A) ∧ -1 ≤ agn A B n more ∧ agn A B n more ≤ 1 := by
  rcases agn_cases A B n more with ⟨h, k⟩ | ⟨h, k⟩ | ⟨h, k⟩ <;> rw [k]
  · omega
  · cases more <;> simp <;> omega
  · omega
set_option maxHeartbeats 3200000 in
set_option maxRecDepth 100000 in
theorem below_any (h : Ex7 w a b n m c1 c2 x N D xs ys) :
    Calls Tryz.prog 178 #[.agg #[.slice a n c1, .slice b m c2, .int .i64 x, .bool more]] w fun r w' => ∃ d, r = .returned (.int .u64 d) ∧ BelP (scA N x) (scB D x) d ∧ Below w.heap.size w w' := by
  have t0 := q7_new w (.slice a n c1) (.slice b m c2) (.int .i64 x) (.bool more)
  have hb0 := alloc_below (w := w) (.cells #[.slice a n c1, .slice b m c2, .int .i64 x, .bool more] 160)
  obtain ⟨w0, hw0⟩ : ∃ w0, w0 = w.alloc (.cells #[.slice a n c1, .slice b m c2, .int .i64 x, .bool more] 160) := ⟨_, rfl⟩
  rw [← hw0] at t0 hb0
  have hA := h.A0
  have hB := h.B0
  have h0 := h.later hb0
  have hag := fun w1 (hb : Below w0.heap.size w0 w1) {p : Int} (q0 : 0 ≤ p) (q1 : p ≤ mostP) => ag_pat (more := more) (h0.later hb) q0 q1
  clear h h0
  generalize scA N x = A at *
  generalize scB D x = B at *
  obtain ⟨g, hg⟩ : ∃ g, g = w.heap.size := ⟨_, rfl⟩
  have HG : Hid (w.heap.size = g) := hg.symm
  rw [← hg] at t0 hb0
  have HS : g ≤ w0.heap.size := by rw [hg]; exact hb0.size
  have hst : HalfI A B 0 mostP := hav_start hA
  go_enter Tryz.func178, Tryz.ntmps178
  go_wp2
  rw [← hw0, ← hg]
  clear hw0 hg
  go_loopw [3, 4] (fun lo hi w4 => ∃ l h : Int, lo = .int .u64 l ∧ hi = .int .u64 h ∧ HalfI A B l h ∧ Below w0.heap.size w0 w4) (fun lo hi _ => (intOf hi - intOf lo).toNat)
  case atStart => exact ⟨0, mostP, rfl, rfl, hst, Below.refl _ _⟩
  case round =>
    clear hst
    obtain ⟨l, h, rfl, rfl, hI, hnx⟩ := hrel
    obtain ⟨i1, i2, i3, i4, i5⟩ := id hI
    have e0 : mostP = 9218868437227405311 := rfl
    rw [e0] at i3
    by_cases hlt : l < h
    · obtain ⟨mid, hmid⟩ : ∃ mid, mid = l + (h - l + 1) / 2 := ⟨_, rfl⟩
      have m1 : l < mid := by omega
      have m2 : mid ≤ h := by omega
      have hup := hav_up hI m1 m2
      have hdn := hav_down hI m1 m2
      have q1 : mid ≤ mostP := by rw [e0]; omega
      have hc := hag _ hnx (p := mid) (by omega) q1
      obtain ⟨g1, g2, g3⟩ := agn_ge A B (numW mid) more
      obtain ⟨p0, p1, p2, p3⟩ := (t0.later hnx).cells
      have hP := fun w => r7parts_any (b := mid) (by omega) q1 w
      generalize agn A B (numW mid) more = C at *
      generalize spM mid = sM at *
      generalize spX mid = sX at *
      have hmid' : l + (h - l + 1) / 2 = mid := hmid.symm
      clear hmid hI i4 i5 e0 hag
      by_cases hge : 0 ≤ C
      · have HI : Hid (HalfI A B mid h) := hup (g1.mp hge)
        clear hup hdn g1
        go_wp2_with fail
        refine (hP _).mono ?_
        rintro e w1 ⟨rfl, rfl⟩
        clear hP
        go_wp2_with fail
        refine hc.mono ?_
        rintro e w1 ⟨rfl, hb1⟩
        have hb := hnx.trans (hb1.mono hnx.size)
        clear hc p0 p1 p2 p3 hnx hb1
        go_wp2
        go_roundw
        case rel => exact ⟨mid, h, rfl, rfl, HI, hb⟩
        case measure => simp [intOf]; omega
      · have HI : Hid (HalfI A B l (mid - 1)) := hdn (by omega)
        clear hup hdn g1
        go_wp2_with fail
        refine (hP _).mono ?_
        rintro e w1 ⟨rfl, rfl⟩
        clear hP
        go_wp2_with fail
        refine hc.mono ?_
        rintro e w1 ⟨rfl, hb1⟩
        have hb := hnx.trans (hb1.mono hnx.size)
        clear hc p0 p1 p2 p3 hnx hb1
        go_wp2
        go_roundw
        case rel => exact ⟨l, mid - 1, rfl, rfl, HI, hb⟩
        case measure => simp [intOf]; omega
    · have HE : Hid (BelP A B l) := hav_end hI hlt
      have hb := hb0.trans (hnx.mono HS)
      clear hI i4 i5 e0 hag
      go_wp2
      go_ret
      exact ⟨l, rfl, HE.out, by rw [HG.out]; exact hb⟩
set_option maxHeartbeats 3200000 in
set_option maxRecDepth 100000 in
theorem up7_any (h : Ex7 w a b n m c1 c2 x N D xs ys) {d mode : Int} (h0 : 0 ≤ d) (h1 : d ≤ mostP) (m0 : 0 ≤ mode) (m1 : mode ≤ 4) :
    Calls Tryz.prog 181 #[.agg #[.slice a n c1, .slice b m c2, .int .i64 x, .bool more], .bool neg, .int .u64 d, .int .i64 mode] w fun r w' => r = .returned (.bool (upP (scA N x) (scB D x) more neg mode d)) ∧ Below w.heap.size w w' := by
  have t0 := q7_new w (.slice a n c1) (.slice b m c2) (.int .i64 x) (.bool more)
  have hb0 := alloc_below (w := w) (.cells #[.slice a n c1, .slice b m c2, .int .i64 x, .bool more] 160)
  obtain ⟨w0, hw0⟩ : ∃ w0, w0 = w.alloc (.cells #[.slice a n c1, .slice b m c2, .int .i64 x, .bool more] 160) := ⟨_, rfl⟩
  rw [← hw0] at t0 hb0
  have hc := ag_mid (more := more) (h.later hb0) h0 h1
  have hsp : 0 ≤ spM d ∧ spM d < 9007199254740992 ∧ -1074 ≤ spX d ∧ spX d ≤ 971 := by
    obtain ⟨u1, f1, _⟩ := size_fin h0 h1
    obtain ⟨q, e1, e2', e3, e4, _⟩ := num_parts u1 f1
    omega
  have hP := fun w => r7parts_any (b := d) h0 h1 w
  have hu : U d := (size_fin h0 h1).1
  have hand := and_one hu
  obtain ⟨V, hV⟩ : ∃ V, V = upP (scA N x) (scB D x) more neg mode d := ⟨_, rfl⟩
  rw [← hV]
  have HV : Hid (V = upP (scA N x) (scB D x) more neg mode d) := hV
  obtain ⟨g2, g3⟩ := (agn_ge (2 * scA N x) (scB D x) (numW d + nxtN d) more).2
  clear hV h
  generalize scA N x = A at *
  generalize scB D x = B at *
  obtain ⟨g, hg⟩ : ∃ g, g = w.heap.size := ⟨_, rfl⟩
  have HG : Hid (w.heap.size = g) := hg.symm
  rw [← hg] at t0 hb0
  have HS : g ≤ w0.heap.size := by rw [hg]; exact hb0.size
  have HB0 : Below w.heap.size w w0 := by rw [← hg]; exact hb0
  obtain ⟨p0, p1, p2, p3⟩ := t0.cells
  obtain ⟨s1, s2, s3, s4⟩ := hsp
  rcases mode_cases m0 m1 with rfl | rfl | rfl | rfl | rfl
  · have HE : Hid (V = (decide (0 < agn (2 * A) B (numW d + nxtN d) more) || (decide (agn (2 * A) B (numW d + nxtN d) more = 0) && decide (d % 2 = 1)))) := HV.out
    generalize agn (2 * A) B (numW d + nxtN d) more = C at *
    generalize spM d = sM at *
    generalize spX d = sX at *
    clear HV
    go_enter Tryz.func181, Tryz.ntmps181
    go_wp2_with fail
    refine (hP _).mono ?_
    rintro e w1 ⟨rfl, rfl⟩
    rw [← hw0, ← hg]
    clear hP hw0 hg
    go_wp2_with fail
    refine hc.mono ?_
    rintro e w1 ⟨rfl, hb1⟩
    have hb := HB0.trans (hb1.mono (by rw [HG.out]; exact HS))
    clear hc p0 p1 p2 p3 hb1
    rcases Int.lt_trichotomy C 0 with hC | hC | hC
    · have t1 : decide (0 < C) = false := by simp; omega
      have t2 : (C == 0) = false := by simp; omega
      have HF : Hid (false = V) := by show _ = _; rw [HE.out]; simp; omega
      clear HE
      go_wp2
      go_ret
      exact ⟨by rw [← HF.out]; rfl, hb⟩
    · subst hC
      have HF : Hid ((d % 2 == 1) = V) := by show _ = _; rw [HE.out]; simp; rw [Bool.eq_iff_iff]; simp
      clear HE
      go_wp2
      go_ret
      exact ⟨by rw [← HF.out]; rfl, hb⟩
    · have t1 : decide (0 < C) = true := by simp; omega
      have HF : Hid (true = V) := by show _ = _; rw [HE.out, t1]; rfl
      clear HE
      go_wp2
      go_ret
      exact ⟨by rw [← HF.out]; rfl, hb⟩
  · have HE : Hid (V = false) := HV.out
    clear HV hP hc hand
    go_enter Tryz.func181, Tryz.ntmps181
    go_wp2
    go_ret
    rw [← hw0]
    exact ⟨by rw [HE.out]; rfl, HB0⟩
  · have HE : Hid (V = true) := HV.out
    clear HV hP hc hand
    go_enter Tryz.func181, Tryz.ntmps181
    go_wp2
    go_ret
    rw [← hw0]
    exact ⟨by rw [HE.out]; rfl, HB0⟩
  · have HE : Hid (V = !neg) := HV.out
    clear HV hP hc hand
    go_enter Tryz.func181, Tryz.ntmps181
    go_wp2
    go_ret
    rw [← hw0]
    exact ⟨by rw [HE.out]; rfl, HB0⟩
  · have HE : Hid (V = neg) := HV.out
    clear HV hP hc hand
    go_enter Tryz.func181, Tryz.ntmps181
    go_wp2
    go_ret
    rw [← hw0]
    exact ⟨by rw [HE.out]; rfl, HB0⟩
end
end Go.Proofs.YtjeoiffloghonaaGreatDoor

/- plumbref07: round, Quotient, Scaled. -/
namespace Go.Proofs.YtjeoiffloghonaaGreatDoor
open Go.ChangeShapes Go.WideShapes Go.ChangeAt Go.RowKit
open Na Ar
set_option linter.unusedVariables false
section
variable {w w' : World} {a b : Option Addr} {n m c1 c2 : Nat} {x N D : Int} {xs ys : List Int} {more neg : Bool}
set_option maxHeartbeats 3200000 in
set_option maxRecDepth 100000 in
theorem round7_any (h : Ex7 w a b n m c1 c2 x N D xs ys) {mode : Int} (m0 : 0 ≤ mode) (m1 : mode ≤ 4) :
    Calls Tryz.prog 125 #[.agg #[.slice a n c1, .slice b m c2, .int .i64 x, .bool more], .bool neg, .int .i64 mode] w fun r w' => ∃ v E, r = .returned (.tuple #[.int .u64 v, .int .i64 E]) ∧ RoundIs (scA N x) (scB D x) more neg mode v E ∧ U v ∧ Below w.heap.size w w' := by
  have t0 := q7_new w (.slice a n c1) (.slice b m c2) (.int .i64 x) (.bool more)
  have hb0 := alloc_below (w := w) (.cells #[.slice a n c1, .slice b m c2, .int .i64 x, .bool more] 160)
  obtain ⟨w0, hw0⟩ : ∃ w0, w0 = w.alloc (.cells #[.slice a n c1, .slice b m c2, .int .i64 x, .bool more] 160) := ⟨_, rfl⟩
  rw [← hw0] at t0 hb0
  have h0 := h.later hb0
  have hbl := below_any (more := more) h0
  have hag := fun w1 (hb : Below w0.heap.size w0 w1) {p : Int} (q0 : 0 ≤ p) (q1 : p ≤ mostP) => ag_pat (more := more) (h0.later hb) q0 q1
  have hup := fun w1 (hb : Below w0.heap.size w0 w1) {p : Int} (q0 : 0 ≤ p) (q1 : p ≤ mostP) => up7_any (more := more) (neg := neg) (h0.later hb) q0 q1 m0 m1
  clear h h0
  generalize scA N x = A at *
  generalize scB D x = B at *
  obtain ⟨g, hg⟩ : ∃ g, g = w.heap.size := ⟨_, rfl⟩
  have HG : Hid (w.heap.size = g) := hg.symm
  rw [← hg] at t0 hb0
  have HS : g ≤ w0.heap.size := by rw [hg]; exact hb0.size
  have HB0 : Below w.heap.size w w0 := by rw [← hg]; exact hb0
  have HS' : w.heap.size ≤ w0.heap.size := by rw [HG.out]; exact HS
  obtain ⟨p0, p1, p2, p3⟩ := t0.cells
  go_enter Tryz.func125, Tryz.ntmps125
  go_wp2_with fail
  rw [← hw0, ← hg]
  refine hbl.mono ?_
  rintro e w1 ⟨d, rfl, hbp, hb1⟩
  obtain ⟨d0, d1, _, _⟩ := id hbp
  have hP := fun w => r7parts_any (b := d) d0 d1 w
  have hc1 := hag w1 hb1 d0 d1
  have hu1 := fun w2 (hb2 : Below w1.heap.size w1 w2) => hup w2 (hb1.trans (hb2.mono hb1.size)) d0 d1
  obtain ⟨p0, p1, p2, p3⟩ := (t0.later hb1).cells
  have t1 := t0.later hb1
  clear hbl hag hup hw0 hg t0
  obtain ⟨ng, ud⟩ := neg_of d0 d1
  have hor := sign_or (b := d) ud (by unfold mostP at d1; omega)
  have e0 : mostP = 9218868437227405311 := rfl
  have hsgt : sgB true = 9223372036854775808 := rfl
  have hsgf : sgB false = 0 := rfl
  go_wp2_with fail
  refine (hP w1).mono ?_
  rintro e w2 ⟨rfl, rfl⟩
  clear hP
  go_wp2_with fail
  refine hc1.mono ?_
  rintro e w2 ⟨rfl, hb2⟩
  have hu := hu1 w2 hb2
  have hB2 := HB0.trans ((hb1.trans (hb2.mono hb1.size)).mono HS')
  obtain ⟨p0, p1, p2, p3⟩ := (t1.later hb2).cells
  clear hc1 hu1
  have HRI : Hid (∀ v E, (((agn A B (numW d) more = 0 ∨ upP A B more neg mode d = false) ∧ v = d + sgB neg ∧ E = 0) ∨
   ((agn A B (numW d) more ≠ 0 ∧ upP A B more neg mode d = true) ∧ ((d = mostP ∧ v = 0 ∧ E = 70) ∨ (d < mostP ∧ v = d + 1 + sgB neg ∧ E = 0)))) → RoundIs A B more neg mode v E) := fun v E hh => ⟨d, hbp, hh⟩
  generalize agn A B (numW d) more = C at *
  generalize upP A B more neg mode d = V at *
  rw [e0] at HRI d1
  clear hbp ng
  by_cases hC : C = 0
  · have tC : (C != 0) = false := by simp [hC]
    have HR : Hid (RoundIs A B more neg mode (d + sgB neg) 0) := HRI.out _ _ (Or.inl ⟨Or.inl hC, rfl, rfl⟩)
    clear hC HRI hu
    cases neg
    · have HR' : Hid (RoundIs A B more false mode d 0) := by have := HR.out; rw [hsgf, Int.add_zero] at this; exact this
      clear HR hor hsgt hsgf
      go_wp2
      go_ret2
      exact ⟨_, _, rfl, HR'.out, ud, hB2⟩
    · rw [hsgt] at HR
      clear hsgt hsgf
      have HU : Hid (U (d + 9223372036854775808)) := by show U _; unfold U; omega
      generalize d + 9223372036854775808 = d9 at *
      go_wp2
      go_ret2
      exact ⟨_, _, rfl, HR.out, HU.out, hB2⟩
  · have tC : (C != 0) = true := by simp [hC]
    go_wp2_with fail
    refine hu.mono ?_
    rintro e w3 ⟨rfl, hb3⟩
    have hB3 := hB2.trans (hb3.mono hB2.size)
    clear hu p0 p1 p2 p3
    cases V
    · have HR : Hid (RoundIs A B more neg mode (d + sgB neg) 0) := HRI.out _ _ (Or.inl ⟨Or.inr rfl, rfl, rfl⟩)
      clear hC HRI
      cases neg
      · have HR' : Hid (RoundIs A B more false mode d 0) := by have := HR.out; rw [hsgf, Int.add_zero] at this; exact this
        clear HR hor hsgt hsgf
        go_wp2
        go_ret2
        exact ⟨_, _, rfl, HR'.out, ud, hB3⟩
      · rw [hsgt] at HR
        clear hsgt hsgf
        have HU : Hid (U (d + 9223372036854775808)) := by show U _; unfold U; omega
        generalize d + 9223372036854775808 = d9 at *
        go_wp2
        go_ret2
        exact ⟨_, _, rfl, HR.out, HU.out, hB3⟩
    · by_cases hd : d = 9218868437227405311
      · have HR : Hid (RoundIs A B more neg mode 0 70) := HRI.out _ _ (Or.inr ⟨⟨hC, rfl⟩, Or.inl ⟨hd, rfl, rfl⟩⟩)
        have tD : (d == 9218868437227405311) = true := by simp [hd]
        clear hC HRI hd hor
        go_wp2
        go_ret2
        exact ⟨_, _, rfl, HR.out, by unfold U; omega, hB3⟩
      · have HR : Hid (RoundIs A B more neg mode (d + 1 + sgB neg) 0) := HRI.out _ _ (Or.inr ⟨⟨hC, rfl⟩, Or.inr ⟨by omega, rfl, rfl⟩⟩)
        have tD : (d == 9218868437227405311) = false := by simp [hd]
        have hor' := sign_or (b := d + 1) (by unfold U; omega) (by omega)
        clear hC HRI hor
        cases neg
        · have HR' : Hid (RoundIs A B more false mode (d + 1) 0) := by have := HR.out; rw [hsgf, Int.add_zero] at this; exact this
          have HU : Hid (U (d + 1)) := by show U _; unfold U; omega
          clear HR hor' hsgt hsgf
          go_wp2
          go_ret2
          exact ⟨_, _, rfl, HR'.out, HU.out, hB3⟩
        · rw [hsgt] at HR
          clear hsgt hsgf
          have HU : Hid (U (d + 1 + 9223372036854775808)) := by show U _; unfold U; omega
          generalize d + 1 + 9223372036854775808 = d9 at *
          go_wp2
          go_ret2
          exact ⟨_, _, rfl, HR.out, HU.out, hB3⟩
end
set_option maxHeartbeats 1600000 in
theorem r7Quotient_any {w : World} {a b : Option Addr} {n m c1 c2 : Nat} {xs ys : List Int} (hr1 : RowC w a n c1 xs) (hr2 : RowC w b m c2 ys) (hx : Ws xs) (hy : Ws ys) (hn : n ≤ 1100000) (hm : m ≤ 1100000) {mode : Int} {neg : Bool} (m0 : 0 ≤ mode) (m1 : mode ≤ 4) (hD : 0 < num ys) :
    Calls Tryz.prog 70 #[.bool neg, .slice a n c1, .slice b m c2, .int .i64 mode] w fun e w' => ∃ v E, e = .returned (.tuple #[.int .u64 v, .int .i64 E]) ∧ RoundIs (scA (num xs) 0) (scB (num ys) 0) false neg mode v E ∧ U v ∧ Below w.heap.size w w' := by
  have hN := ref3Norm_any (cap := c2) hr2.1 hy (by omega)
  have hN1 := fun w1 (h : Below w.heap.size w w1) => ref3Norm_any (cap := c1) (hr1.later h).1 hx (by omega)
  have l1 := hr1.1.1
  have l2 := hr2.1.1
  have lx : Lt (num xs) n := ⟨num_nonneg hx, by have := num_bd hx; rw [l1] at this; exact this⟩
  have ly : Lt (num ys) m := ⟨num_nonneg hy, by have := num_bd hy; rw [l2] at this; exact this⟩
  have hz := words_nil (N := num ys) (Int.le_of_lt hD)
  have q1 : ¬ mode < 0 := by omega
  have q2 : ¬ 4 < mode := by omega
  clear hr1 hr2 hx hy l1 l2
  generalize num xs = N at *
  generalize num ys = D at *
  go_enter Tryz.func70, Tryz.ntmps70
  go_wp2_with fail
  refine hN.mono ?_
  rintro e w1 ⟨v, rfl, ho, hb⟩
  obtain ⟨a2, n2, d2, l2, rfl, r2, nm2, E2⟩ := ho.opens ly (by omega)
  have hl2 := r2.1.1
  have hl2' := ly.len
  rw [← E2.out, hl2] at hl2' hz
  have hN1' := hN1 w1 hb
  have t0 : ((n2 : Int) == 0) = false := by
    have : n2 ≠ 0 := fun h => by have := hz.mp h; omega
    simp; omega
  clear hN ho hz hN1
  go_wp2_with fail
  refine hN1'.mono ?_
  rintro e w2 ⟨v, rfl, ho, hb2⟩
  obtain ⟨a3, n3, d3, l3, rfl, r3, nm3, E3⟩ := ho.opens lx (by omega)
  have hl3 := r3.1.1
  have hl3' := lx.len
  rw [← E3.out, hl3] at hl3'
  have hex : Ex7 w2 a3 a2 n3 n2 d3 d2 0 N D l3 l2 := ⟨r3, r2.later hb2, nm3.ws, nm2.ws, by omega, by omega, by omega, by omega, nm3.num, nm2.num, hD⟩
  have hR := round7_any (more := false) (neg := neg) hex m0 m1
  have hB2 := hb.trans (hb2.mono hb.size)
  clear hN1' ho r2 r3 nm2 nm3 E2 E3 hex hl2 hl2' hl3 hl3' lx ly
  go_wp2_with fail
  refine hR.mono ?_
  rintro e w3 ⟨v, E, rfl, hr, hu, hb3⟩
  have hb9 := hB2.trans (hb3.mono hB2.size)
  clear hR
  go_wp2
  go_ret2
  exact ⟨_, _, rfl, hr, hu, hb9⟩
end Go.Proofs.YtjeoiffloghonaaGreatDoor

/- plumbref07: Scaled. -/
namespace Go.Proofs.YtjeoiffloghonaaGreatDoor
open Go.ChangeShapes Go.WideShapes Go.ChangeAt Go.RowKit
open Na Ar
set_option linter.unusedVariables false
/-- the four ways of the document's Scaled -/
theorem sref_none {x mode v E : Int} {neg : Bool} (h : RoundIs (scA 0 0) (scB 1 0) false neg mode v E) : RoundIs (scA 0 x) (scB 1 x) false neg mode v E := by
  refine (round_cross (scB_pos (by omega)) (scB_pos (by omega)) ?_).mp h
  unfold scA; rw [Int.zero_mul, Int.zero_mul, Int.zero_mul, Int.zero_mul]
theorem one_tiny : 0 < scA 1 (-1300) ∧ 2 * scA 1 (-1300) < scB 1 (-1300) := cut_tiny (L := 1) (by omega) (by rw [e2_one]; omega) (by omega) (by omega)
theorem sref_tiny0 {x mode v E : Int} {neg : Bool} (m0 : 0 ≤ mode) (m1 : mode ≤ 4) (h : RoundIs (scA 1 (-1300)) (scB 1 (-1300)) false neg mode v E) : RoundIs (scA 0 x) (scB 1 x) true neg mode v E := by
  have hB : 0 < scB 1 x := scB_pos (by omega)
  have e : scA 0 x = 0 := by unfold scA; rw [Int.zero_mul]
  exact tiny_same (scB_pos (by omega)) hB (Or.inl one_tiny.1) (Or.inr ⟨e, rfl⟩) one_tiny.2 (by rw [e]; omega) m0 m1 h
theorem sref_tiny {M x mode v E : Int} {neg more : Bool} (hM : 0 < M) (hx : x < -1200 - bitsN M) (m0 : 0 ≤ mode) (m1 : mode ≤ 4) (h : RoundIs (scA 1 (-1300)) (scB 1 (-1300)) false neg mode v E) : RoundIs (scA M x) (scB 1 x) more neg mode v E := by
  obtain ⟨L1, L2, L3⟩ := bits_char hM
  obtain ⟨a1, a2⟩ := cut_tiny (x := x) hM L3 (by omega) (by omega)
  exact tiny_same (scB_pos (by omega)) (scB_pos (by omega)) (Or.inl one_tiny.1) (Or.inl a1) one_tiny.2 a2 m0 m1 h
theorem sref_huge {M x mode v E : Int} {neg more : Bool} (hM : 0 < M) (hx : 1100 - bitsN M < x) (m0 : 0 ≤ mode) (m1 : mode ≤ 4) (h : RoundIs (scA M (1100 - bitsN M)) (scB 1 (1100 - bitsN M)) more neg mode v E) : RoundIs (scA M x) (scB 1 x) more neg mode v E := by
  obtain ⟨L1, L2, L3⟩ := bits_char hM
  exact huge_same (scB_pos (by omega)) (scB_pos (by omega)) (cut_huge L2 L1 (by omega)) (cut_huge L2 L1 (by omega)) m0 m1 h
theorem lits7 (w : World) (N : Nat) (hN : w.heap.size = N) (x y : Int) : RowC ((w.alloc (.cells #[.int .u64 x] 25)).alloc (.cells #[.int .u64 y] 25)) (some ⟨N, 0, none⟩) 1 1 [x] ∧ RowC ((w.alloc (.cells #[.int .u64 x] 25)).alloc (.cells #[.int .u64 y] 25)) (some ⟨N + 1, 0, none⟩) 1 1 [y] := by
  have r1 := rowC_one w x 25
  have b1 := alloc_below (w := w) (.cells #[.int .u64 x] 25)
  have r2 := rowC_one (w.alloc (.cells #[.int .u64 x] 25)) y 25
  have b2 := alloc_below (w := w.alloc (.cells #[.int .u64 x] 25)) (.cells #[.int .u64 y] 25)
  have es : (w.alloc (.cells #[.int .u64 x] 25)).heap.size = N + 1 := by simp [hN]
  rw [es] at r2
  rw [hN] at r1
  exact ⟨r1.later b2, r2⟩
theorem ex7_one {w : World} {a b : Nat} (r1 : RowC w (some ⟨a, 0, none⟩) 1 1 [1]) (r2 : RowC w (some ⟨b, 0, none⟩) 1 1 [1]) : Ex7 w (some ⟨a, 0, none⟩) (some ⟨b, 0, none⟩) 1 1 1 1 (-1300) 1 1 [1] [1] :=
  ⟨r1, r2, Dg.one (by omega), Dg.one (by omega), by omega, by omega, by omega, by omega, by simp [num, val], by simp [num, val], by omega⟩
set_option maxHeartbeats 1600000 in
set_option maxRecDepth 100000 in
theorem r7Scaled_any {w : World} {a : Option Addr} {n c : Nat} {xs : List Int} (hr : RowC w a n c xs) (hx : Ws xs) (hn : n ≤ 1050000) {x mode : Int} (x0 : -9223372036854775808 ≤ x) (x1 : x ≤ 9223372036854775807) {neg more : Bool} (m0 : 0 ≤ mode) (m1 : mode ≤ 4) :
    Calls Tryz.prog 69 #[.bool neg, .slice a n c, .int .i64 x, .bool more, .int .i64 mode] w fun e w' => ∃ v E, e = .returned (.tuple #[.int .u64 v, .int .i64 E]) ∧ RoundIs (scA (num xs) x) (scB 1 x) more neg mode v E ∧ U v ∧ Below w.heap.size w w' := by
  obtain ⟨i_u64, hi_u64, hz0_u64, hz1_u64, hz2_u64⟩ := info_parts info_u64
  have hN := ref3Norm_any (cap := c) hr.1 hx (by omega)
  have l1 := hr.1.1
  have p1 := num_nonneg hx
  have hble := bits_le (N := num xs) (k := xs.length) p1 (num_bd hx)
  have hbn := bits_nonneg (num xs)
  have lx : Lt (num xs) n := ⟨num_nonneg hx, by have := num_bd hx; rw [l1] at this; exact this⟩
  have hL0 : bitsN (num xs) = 0 ↔ num xs = 0 := by
    constructor
    · intro h
      apply Decidable.byContradiction
      intro hc
      have := (bits_char (N := num xs) (by omega)).1
      omega
    · intro h; rw [h]; rfl
  have q1 : ¬ mode < 0 := by omega
  have q2 : ¬ 4 < mode := by omega
  rw [l1] at hble
  clear hr hx l1
  generalize num xs = M at *
  go_enter Tryz.func69, Tryz.ntmps69
  go_wp2_with fail
  refine hN.mono ?_
  rintro e w1 ⟨v, rfl, ho, hb1⟩
  obtain ⟨a2, n2, d2, l2, rfl, r2, nm2, E2⟩ := ho.opens lx (by omega)
  have hl2 := r2.1.1
  have hl2' := lx.len
  rw [← E2.out, hl2] at hl2'
  have hBt := ref3Bits_any (cap := d2) r2.1 nm2.ws (by omega)
  rw [nm2.num] at hBt
  clear hN ho
  go_wp2_with fail
  refine hBt.mono ?_
  rintro e w2 ⟨rfl, rfl⟩
  clear hBt
  have hex : Hid (∀ W X, Below (w1.alloc (.cells #[.int .u64 1] 25)).heap.size (w1.alloc (.cells #[.int .u64 1] 25)) W → -100000000 ≤ X → X ≤ 100000000 → Ex7 W a2 (some ⟨w1.heap.size, 0, none⟩) n2 1 d2 1 X M 1 l2 [1]) := fun W X h e0 e1 =>
    ⟨(r2.later (alloc_below _)).later h, (rowC_one w1 1 25).later h, nm2.ws, Dg.one (by omega), by omega, by omega, e0, e1, nm2.num, by simp [num, val], by omega⟩
  have HL0 : Hid (bitsN M = 0 ↔ M = 0) := hL0
  clear hL0 r2 nm2 E2 hl2 hl2' lx
  obtain ⟨L, hL⟩ : ∃ L, L = bitsN M := ⟨_, rfl⟩
  rw [← hL] at hble hbn ⊢
  have HL : Hid (L = bitsN M) := hL
  clear hL
  have HB2 : Hid (∀ o1 o2, Below w.heap.size w ((w1.alloc o1).alloc o2)) := fun o1 o2 => (hb1.alloc hb1.size o1).alloc (Nat.le_trans hb1.size (by simp)) o2
  have HB4 : Hid (∀ o1 o2 o3 o4, Below w.heap.size w ((((w1.alloc o1).alloc o2).alloc o3).alloc o4)) := fun o1 o2 o3 o4 => ((HB2.out o1 o2).alloc (Nat.le_trans hb1.size (by simp; omega)) o3).alloc (Nat.le_trans hb1.size (by simp; omega)) o4
  by_cases hM : M = 0
  · have tL : L = 0 := by rw [HL.out]; exact HL0.out.mpr hM
    have HM : Hid (M = 0) := hM
    subst tL
    clear hM
    cases more
    · go_wp2_with fail
      refine (round7_any (hex.out _ 0 (alloc_below _) (by omega) (by omega)) m0 m1).mono ?_
      rintro e w3 ⟨v, E, rfl, hr, hu, hb3⟩
      have HR := (by rw [HM.out] at hr ⊢; exact sref_none hr : RoundIs (scA M x) (scB 1 x) false neg mode v E)
      have hb := (HB2.out _ _).trans (hb3.mono ((HB2.out _ _).size))
      clear hr hb3 hex HL0 HL
      go_wp2
      go_ret2
      exact ⟨_, _, rfl, HR, hu, hb⟩
    · go_wp2_with fail
      refine (round7_any (ex7_one (lits7 _ (w1.heap.size + 1 + 1) (by simp) 1 1).1 (lits7 _ (w1.heap.size + 1 + 1) (by simp) 1 1).2) m0 m1).mono ?_
      rintro e w3 ⟨v, E, rfl, hr, hu, hb3⟩
      have HR := (by rw [HM.out]; exact sref_tiny0 m0 m1 hr : RoundIs (scA M x) (scB 1 x) true neg mode v E)
      have hb := (HB4.out _ _ _ _).trans (hb3.mono ((HB4.out _ _ _ _).size))
      clear hr hb3 hex HL0 HL
      go_wp2
      go_ret2
      exact ⟨_, _, rfl, HR, hu, hb⟩
  · have hMp : 0 < M := by omega
    have tL : (L == 0) = false := by
      have : L ≠ 0 := fun h => hM (HL0.out.mp (by rw [← HL.out]; exact h))
      simp [this]
    clear hM
    by_cases hbig : 1100 - L < x
    · go_wp2_with fail
      refine (round7_any (hex.out _ (1100 - L) (alloc_below _) (by omega) (by omega)) m0 m1).mono ?_
      rintro e w3 ⟨v, E, rfl, hr, hu, hb3⟩
      have HR := (by rw [HL.out] at hr hbig; exact sref_huge hMp hbig m0 m1 hr : RoundIs (scA M x) (scB 1 x) more neg mode v E)
      have hb := (HB2.out _ _).trans (hb3.mono ((HB2.out _ _).size))
      clear hr hb3 hex HL0 HL
      go_wp2
      go_ret2
      exact ⟨_, _, rfl, HR, hu, hb⟩
    · by_cases hsm : x < -1200 - L
      · go_wp2_with fail
        refine (round7_any (ex7_one (lits7 _ (w1.heap.size + 1 + 1) (by simp) 1 1).1 (lits7 _ (w1.heap.size + 1 + 1) (by simp) 1 1).2) m0 m1).mono ?_
        rintro e w3 ⟨v, E, rfl, hr, hu, hb3⟩
        have HR := (by rw [HL.out] at hsm; exact sref_tiny hMp hsm m0 m1 hr : RoundIs (scA M x) (scB 1 x) more neg mode v E)
        have hb := (HB4.out _ _ _ _).trans (hb3.mono ((HB4.out _ _ _ _).size))
        clear hr hb3 hex HL0 HL
        go_wp2
        go_ret2
        exact ⟨_, _, rfl, HR, hu, hb⟩
      · go_wp2_with fail
        refine (round7_any (hex.out _ x (alloc_below _) (by omega) (by omega)) m0 m1).mono ?_
        rintro e w3 ⟨v, E, rfl, hr, hu, hb3⟩
        have HR := hr
        have hb := (HB2.out _ _).trans (hb3.mono ((HB2.out _ _).size))
        clear hb3 hex HL0 HL
        go_wp2
        go_ret2
        exact ⟨_, _, rfl, HR, hu, hb⟩
end Go.Proofs.YtjeoiffloghonaaGreatDoor


import Derived.Deep.RegionHeld3
import Derived.Deep.DeepCutAuto
import Derived.Below
import Derived.BigQuiet
import Derived.BigRegion
import Derived.ChangeOld
import Derived.Deep.DeepFit
import Derived.Deep.LoopGhost
import Derived.Deep.QuietTactic
import Derived.Deep.RegionLaw
import Derived.Deep.RegionWith
import Derived.Defers
import Derived.KernelRfl
import Derived.Laws.BitsAllLaws
import Derived.Laws.CopyRow
import Derived.Laws.EntriesVeiled
import Derived.Laws.IdiomCopy
import Derived.Laws.IdiomRangeMap
import Derived.OpenShut
import Derived.Orders
import Derived.OwnWalk
import Derived.ProofKit
import Derived.Recover
import Derived.Scope
import Derived.ShutString
import Derived.WalkKit
import Derived.WalkLawsBesides
import Derived.WalkMore
import Derived.WalkSpells
import Derived.Test.YtbonkgmcpjaepabGreatPa17
/- plumbref22: InCircle, Between (written by genzi.py). -/
namespace Go.Proofs.YtbonkgmcpjaepabGreat
open Go.ChangeShapes Go.WideShapes Go.ChangeAt Go.RowKit
open Na Ar
set_option linter.unusedVariables false
/-- a whole number that a call has laid into a block of its own -/
def ZnQ (w0 : World) (x : Int) (k : Nat) (v : Value) (wx : World) : Prop := ∃ gP s a n c, v = .pointer (some ⟨gP, 0, none⟩) ∧ Pb wx gP 67 #[.bool s, .slice a n c] ∧ Zr wx s a n c x k ∧ Below w0.heap.size w0 wx
theorem znq_set {w0 W : World} {base gP : Nat} {t0 : Array Value} {s : Bool} {a : Option Addr} {n c k l : Nat} {x : Int} (hB : Below w0.heap.size w0 W) (u : Pb W gP 67 t0) (h4 : t0.size = 2) (hx : ZO W base s (.slice a n c) x k) (hg : gP < base) (hw : w0.heap.size ≤ gP) (hl : k ≤ l) :
    ZnQ w0 x l (.pointer (some ⟨gP, 0, none⟩)) ((W.setCell ⟨gP, 0, none⟩ (.bool s)).setCell ⟨gP, 1, none⟩ (.slice a n c)) := by
  have i9 : In gP (gP + 1) W ((W.setCell ⟨gP, 0, none⟩ (.bool s)).setCell ⟨gP, 1, none⟩ (.slice a n c)) := ((In.refl gP (gP + 1) W).set1 0 _).set1 1 _
  have q9 := (u.set 0 (.bool s)).set 1 (.slice a n c)
  obtain ⟨y0, y1, rfl⟩ : ∃ y0 y1, t0 = #[y0, y1] := by
    match t0, h4 with
    | ⟨[y0, y1]⟩, _ => exact ⟨y0, y1, rfl⟩
  exact ⟨gP, s, a, n, c, rfl, q9, (zo_mono (hx.inn i9 hg) hl).zr, below_in hB i9 hw (Nat.le_refl _)⟩
theorem znq_new {w0 W : World} {base : Nat} {s : Bool} {a : Option Addr} {n c k l : Nat} {x : Int} (hB : Below w0.heap.size w0 W) (hx : ZO W base s (.slice a n c) x k) (hl : k ≤ l) :
    ZnQ w0 x l (.pointer (some ⟨W.heap.size, 0, none⟩)) (W.alloc (.cells #[.bool s, .slice a n c] 67)) := by
  have al := alloc_below (w := W) (.cells #[.bool s, .slice a n c] 67)
  exact ⟨_, s, a, n, c, rfl, Pb.new W _ _, ((zo_mono hx hl).later al).zr, hB.trans (al.mono hB.size)⟩
set_option maxHeartbeats 6400000 in
set_option maxRecDepth 100000 in
theorem zInCircle_fin {w : World} {a0 a1 : Int} {b0 b1 : Int} {c0 c1 : Int} {d0 d1 : Int} (ua0 : U a0) (ua1 : U a1) (ub0 : U b0) (ub1 : U b1) (uc0 : U c0) (uc1 : U c1) (ud0 : U d0) (ud1 : U d1) (fa0 : ef a0 ≠ 2047) (fa1 : ef a1 ≠ 2047) (fb0 : ef b0 ≠ 2047) (fb1 : ef b1 ≠ 2047) (fc0 : ef c0 ≠ 2047) (fc1 : ef c1 ≠ 2047) (fd0 : ef d0 ≠ 2047) (fd1 : ef d1 ≠ 2047) (hfin : ∀ i, i < 4 → fin2 ([(a0, a1), (b0, b1), (c0, c1), (d0, d1)].getD i (0, 0))) :
    Calls Tryz.prog 17 #[.agg #[.int .u64 a0, .int .u64 a1], .agg #[.int .u64 b0, .int .u64 b1], .agg #[.int .u64 c0, .int .u64 c1], .agg #[.int .u64 d0, .int .u64 d1]] w fun e w' => e = .returned (.tuple #[.int .i64 (sgI (inI (wv a0 - wv d0) (wv a1 - wv d1) (wv b0 - wv d0) (wv b1 - wv d1) (wv c0 - wv d0) (wv c1 - wv d1))), .int .i64 0]) ∧ Below w.heap.size w w' := by
  obtain ⟨w0, hw0, u0, u1, u2, u3, hb0, e0⟩ := blocks4 w #[.int .u64 a0, .int .u64 a1] #[.int .u64 b0, .int .u64 b1] #[.int .u64 c0, .int .u64 c1] #[.int .u64 d0, .int .u64 d1] 34 34 34 34
  have hPt := ptAt4 w0 34 (u2_of ua0 ua1) (u2_of ub0 ub1) (u2_of uc0 uc1) (u2_of ud0 ud1)
  have al := alloc_below (w := w0) (.cells #[.int .u64 a0, .int .u64 a1, .int .u64 b0, .int .u64 b1, .int .u64 c0, .int .u64 c1, .int .u64 d0, .int .u64 d1] 34)
  have hq := zFinite_any (c := 4) hPt (by omega)
  have hB1 := hb0.trans (al.mono hb0.size)
  replace u0 := u0.later al
  replace u1 := u1.later al
  replace u2 := u2.later al
  replace u3 := u3.later al
  obtain ⟨g, hg⟩ : ∃ g, g = w.heap.size := ⟨_, rfl⟩
  have hs : w0.heap.size = g + 1 + 1 + 1 + 1 := by omega
  rw [hs] at hq
  rw [← hg] at u0 u1 u2 u3
  clear hPt e0 al hs
  go_enter Tryz.func17, Tryz.ntmps17
  go_wp2_with fail
  rw [← hw0, ← hg]
  clear hw0 hg
  generalize w0.alloc (.cells #[.int .u64 a0, .int .u64 a1, .int .u64 b0, .int .u64 b1, .int .u64 c0, .int .u64 c1, .int .u64 d0, .int .u64 d1] 34) = w1 at *
  refine hq.mono ?_
  rintro e w2 ⟨FB, rfl, hFB, hb2⟩
  obtain rfl : FB = true := hFB.mpr hfin
  have B2 := hB1.trans (hb2.mono hB1.size)
  replace u0 := u0.later hb2
  obtain ⟨j00, j01⟩ := zcells u0
  replace u1 := u1.later hb2
  obtain ⟨j10, j11⟩ := zcells u1
  replace u2 := u2.later hb2
  obtain ⟨j20, j21⟩ := zcells u2
  replace u3 := u3.later hb2
  obtain ⟨j30, j31⟩ := zcells u3
  clear hq hFB hfin hB1 hb2 hb0
  have ua := u0
  have ub := u1
  have uc := u2
  have ud := u3
  clear u0 u1 u2 u3
  have D := B2
  clear B2
  obtain ⟨ja0, ja1⟩ := zcells ua
  obtain ⟨jb0, jb1⟩ := zcells ub
  obtain ⟨jc0, jc1⟩ := zcells uc
  obtain ⟨jd0, jd1⟩ := zcells ud
  go_wp2_with fail
  refine (zAt_any ud0 ud1 fd0 fd1).mono ?_
  rintro e vO ⟨sO, qO, nO, cO', tO, zO, mO, dO, rfl, OOx, OOy, hbA⟩
  have al := alloc_below (w := vO) (.cells #[.bool sO, .slice qO nO cO', .bool tO, .slice zO mO dO] 72)
  have uO := Pb.new vO 72 #[.bool sO, .slice qO nO cO', .bool tO, .slice zO mO dO]
  replace ua := ua.later (hbA.trans (al.mono hbA.size))
  replace ub := ub.later (hbA.trans (al.mono hbA.size))
  replace uc := uc.later (hbA.trans (al.mono hbA.size))
  replace ud := ud.later (hbA.trans (al.mono hbA.size))
  have rOx := OOx.zr.later al
  have rOy := OOy.zr.later al
  replace D := D.trans ((hbA.trans (al.mono hbA.size)).mono D.size)
  clear al hbA OOx OOy
  obtain ⟨ja0, ja1⟩ := zcells ua
  obtain ⟨jb0, jb1⟩ := zcells ub
  obtain ⟨jc0, jc1⟩ := zcells uc
  obtain ⟨jd0, jd1⟩ := zcells ud
  obtain ⟨jO0, jO1, jO2, jO3⟩ := pcells uO
  go_upto_region 4 with fail
  generalize vO.alloc (.cells #[.bool sO, .slice qO nO cO', .bool tO, .slice zO mO dO] 72) = wO at *
  generalize vO.heap.size = gO at *
  go_upto_region 4 with fail
  have hcl : ∀ w', Below wO.heap.size wO w' → w'.cell? ⟨g, 0, none⟩ = some (.int .u64 a0) ∧ w'.cell? ⟨g, 1, none⟩ = some (.int .u64 a1) ∧ w'.cell? ⟨gO, 0, none⟩ = some (.bool sO) ∧ w'.cell? ⟨gO, 1, none⟩ = some (.slice qO nO cO') ∧ w'.cell? ⟨gO, 2, none⟩ = some (.bool tO) ∧ w'.cell? ⟨gO, 3, none⟩ = some (.slice zO mO dO) := by
    intro w' h
    obtain ⟨ja0, ja1⟩ := zcells (ua.later h)
    obtain ⟨jO0, jO1, jO2, jO3⟩ := pcells (uO.later h)
    exact ⟨ja0, ja1, jO0, jO1, jO2, jO3⟩
  go_cut [11] (fun v wx => PnQ wO (wv a0 - wv d0) (wv a1 - wv d1) 200 v wx)
  case first =>
    have BwO := Below.refl wO.heap.size wO
    have lta := ua.lt
    have ltO := uO.lt
    go_region_held3 (fun w' => w'.cell? ⟨g, 0, none⟩ = some (.int .u64 a0) ∧ w'.cell? ⟨g, 1, none⟩ = some (.int .u64 a1) ∧ w'.cell? ⟨gO, 0, none⟩ = some (.bool sO) ∧ w'.cell? ⟨gO, 1, none⟩ = some (.slice qO nO cO') ∧ w'.cell? ⟨gO, 2, none⟩ = some (.bool tO) ∧ w'.cell? ⟨gO, 3, none⟩ = some (.slice zO mO dO)) (go_keep) (first | (go_at_call_of 34 a0; refine (zAt_at (w0 := wO) ua0 ua1 fa0 fa1 (by first | exact Below.refl _ _ | exact below_drewN (Below.refl _ _) _)).mono ?_; rintro e V1 ⟨sh, qh, nh, ch', th, zh, mh, dh, rfl, Ohx, Ohy, szV1, bV1⟩; have BV1 := BwO.trans (bV1.mono BwO.size); have CV1 := bV1; replace rOx := rOx.later bV1; replace rOy := rOy.later bV1; have rhx := Ohx.zr; have rhy := Ohy.zr; obtain ⟨ja0, ja1, jO0, jO1, jO2, jO3⟩ := hcl V1 CV1; try (replace uN := uN.later bV1; obtain ⟨o0, o1, o2, o3⟩ := pcells uN; obtain ⟨p0, p1, p2, p3⟩ := pfrozen uN)) | (go_at_call_of 34 a0; refine (zAt_any ua0 ua1 fa0 fa1).mono ?_; rintro e V1 ⟨sh, qh, nh, ch', th, zh, mh, dh, rfl, Ohx, Ohy, bX⟩; have al := (below_drew_alloc wO (.cells #[.bool false, .slice none 0 0, .bool false, .slice none 0 0] 72)); have bV1 := al.trans (bX.mono al.size); have BV1 := BwO.trans (bV1.mono BwO.size); have CV1 := bV1; replace rOx := rOx.later bV1; replace rOy := rOy.later bV1; have rhx := Ohx.zr; have rhy := Ohy.zr; obtain ⟨ja0, ja1, jO0, jO1, jO2, jO3⟩ := hcl V1 CV1; have uN : Pb V1 wO.heap.size 72 #[.bool false, .slice none 0 0, .bool false, .slice none 0 0] := (Pb.new wO.drew 72 #[.bool false, .slice none 0 0, .bool false, .slice none 0 0]).later bX; obtain ⟨o0, o1, o2, o3⟩ := pcells uN; obtain ⟨p0, p1, p2, p3⟩ := pfrozen uN; have gPs : wO.heap.size < V1.heap.size := uN.lt; have nW0 : ¬ g = wO.heap.size := (by have := BwO.size; omega); have mW0 : ¬ wO.heap.size = g := (by have := BwO.size; omega); have nW1 : ¬ gO = wO.heap.size := (by have := BwO.size; omega); have mW1 : ¬ wO.heap.size = gO := (by have := BwO.size; omega)) | (go_at_call_of 33 qh; refine (zMinus_at rhx (by omega) rhy (by omega) rOx (by omega) rOy (by omega) (by first | exact Below.refl _ _ | exact below_drewN (Below.refl _ _) _)).mono ?_; rintro e V2 ⟨sk, qk, nk, ck', tk, zk, mk, dk, rfl, Okx, Oky, szV2, bV2⟩; have BV2 := BV1.trans (bV2.mono BV1.size); have CV2 := CV1.trans (bV2.mono CV1.size); replace rOx := rOx.later bV2; replace rOy := rOy.later bV2; replace rhx := rhx.later bV2; replace rhy := rhy.later bV2; have rkx := Okx.zr; have rky := Oky.zr; obtain ⟨ja0, ja1, jO0, jO1, jO2, jO3⟩ := hcl V2 CV2; try (replace uN := uN.later bV2; obtain ⟨o0, o1, o2, o3⟩ := pcells uN; obtain ⟨p0, p1, p2, p3⟩ := pfrozen uN)) | (go_at_call_of 33 qh; refine (zMinus_any (rhx.later (alloc_below (w := V1) (.cells #[.bool false, .slice none 0 0, .bool false, .slice none 0 0] 72))) (by omega) (rhy.later (alloc_below (w := V1) (.cells #[.bool false, .slice none 0 0, .bool false, .slice none 0 0] 72))) (by omega) (rOx.later (alloc_below (w := V1) (.cells #[.bool false, .slice none 0 0, .bool false, .slice none 0 0] 72))) (by omega) (rOy.later (alloc_below (w := V1) (.cells #[.bool false, .slice none 0 0, .bool false, .slice none 0 0] 72))) (by omega)).mono ?_; rintro e V2 ⟨sk, qk, nk, ck', tk, zk, mk, dk, rfl, Okx, Oky, bX⟩; have al := (alloc_below (w := V1) (.cells #[.bool false, .slice none 0 0, .bool false, .slice none 0 0] 72)); have bV2 := al.trans (bX.mono al.size); have BV2 := BV1.trans (bV2.mono BV1.size); have CV2 := CV1.trans (bV2.mono CV1.size); replace rOx := rOx.later bV2; replace rOy := rOy.later bV2; replace rhx := rhx.later bV2; replace rhy := rhy.later bV2; have rkx := Okx.zr; have rky := Oky.zr; obtain ⟨ja0, ja1, jO0, jO1, jO2, jO3⟩ := hcl V2 CV2; have uN : Pb V2 V1.heap.size 72 #[.bool false, .slice none 0 0, .bool false, .slice none 0 0] := (Pb.new V1 72 #[.bool false, .slice none 0 0, .bool false, .slice none 0 0]).later bX; obtain ⟨o0, o1, o2, o3⟩ := pcells uN; obtain ⟨p0, p1, p2, p3⟩ := pfrozen uN; have gPs : V1.heap.size < V2.heap.size := uN.lt; have nW0 : ¬ g = V1.heap.size := (by have := BV1.size; omega); have mW0 : ¬ V1.heap.size = g := (by have := BV1.size; omega); have nW1 : ¬ gO = V1.heap.size := (by have := BV1.size; omega); have mW1 : ¬ V1.heap.size = gO := (by have := BV1.size; omega)))
    all_goals (first | (have hrel := pnq_set (l := 200) BV2 uN rfl Okx Oky (by omega) (by omega) (by omega)) | (have hrel := pnq_set (l := 200) BV2 uN rfl Okx Oky (by first | omega | (simp; done) | ((try have := bV1.size); (try have := bV2.size); omega)) (by have := BV1.size; have := BV2.size; omega) (by omega)) | (have hrel := pnq_new (l := 200) BV2 Okx Oky (by omega)))
    all_goals ((try clear gPs); (try clear bX); (try clear al); (try clear uN); (try clear o0); (try clear o1); (try clear o2); (try clear o3); (try clear p0); (try clear p1); (try clear p2); (try clear p3); (try clear nW0); (try clear nW1); (try clear nW2); (try clear nW3); (try clear nW4); (try clear nW5); (try clear mW0); (try clear mW1); (try clear mW2); (try clear mW3); (try clear mW4); (try clear mW5); (try clear rOx); (try clear OOx); (try clear rOy); (try clear OOy); (try clear rhx); (try clear Ohx); (try clear rhy); (try clear Ohy); (try clear rkx); (try clear Okx); (try clear rky); (try clear Oky); (try clear szV2); (try clear bV2); (try clear CV2); (try clear BV2); (try clear szV1); (try clear bV1); (try clear CV1); (try clear BV1); (try clear ja0); (try clear ja1); (try clear ja2); (try clear ja3); (try clear lta); (try clear jb0); (try clear jb1); (try clear jb2); (try clear jb3); (try clear ltb); (try clear jc0); (try clear jc1); (try clear jc2); (try clear jc3); (try clear ltc); (try clear jd0); (try clear jd1); (try clear jd2); (try clear jd3); (try clear ltd); (try clear jO0); (try clear jO1); (try clear jO2); (try clear jO3); (try clear ltO); (try clear hcl); (try clear BwO); (try clear ua); (try clear ub); (try clear uc); (try clear ud); (try clear uO); (try clear B2); (try clear D); (try clear ua0); (try clear ua1); (try clear ub0); (try clear ub1); (try clear uc0); (try clear uc1); (try clear ud0); (try clear ud1); (try clear fa0); (try clear fa1); (try clear fb0); (try clear fb1); (try clear fc0); (try clear fc1); (try clear fd0); (try clear fd1))
    all_goals go_wp2
    all_goals (go_meet; exact hrel)
  obtain ⟨gP, sP, qP, nP, cP', tP, zP, mP, dP, rfl, uP, rPx, rPy, hbP⟩ := hcut
  clear hcl
  replace ua := ua.later hbP
  replace ub := ub.later hbP
  replace uc := uc.later hbP
  replace ud := ud.later hbP
  replace uO := uO.later hbP
  replace rOx := rOx.later hbP
  replace rOy := rOy.later hbP
  replace D := D.trans (hbP.mono D.size)
  clear hbP
  obtain ⟨wP, rfl⟩ : ∃ ww, ww = wc := ⟨_, rfl⟩
  obtain ⟨ja0, ja1⟩ := zcells ua
  obtain ⟨jb0, jb1⟩ := zcells ub
  obtain ⟨jc0, jc1⟩ := zcells uc
  obtain ⟨jd0, jd1⟩ := zcells ud
  obtain ⟨jO0, jO1, jO2, jO3⟩ := pcells uO
  obtain ⟨jP0, jP1, jP2, jP3⟩ := pcells uP
  go_upto_region 5 with fail
  have hcl : ∀ w', Below wP.heap.size wP w' → w'.cell? ⟨g + 1, 0, none⟩ = some (.int .u64 b0) ∧ w'.cell? ⟨g + 1, 1, none⟩ = some (.int .u64 b1) ∧ w'.cell? ⟨gO, 0, none⟩ = some (.bool sO) ∧ w'.cell? ⟨gO, 1, none⟩ = some (.slice qO nO cO') ∧ w'.cell? ⟨gO, 2, none⟩ = some (.bool tO) ∧ w'.cell? ⟨gO, 3, none⟩ = some (.slice zO mO dO) := by
    intro w' h
    obtain ⟨jb0, jb1⟩ := zcells (ub.later h)
    obtain ⟨jO0, jO1, jO2, jO3⟩ := pcells (uO.later h)
    exact ⟨jb0, jb1, jO0, jO1, jO2, jO3⟩
  go_cut [12] (fun v wx => PnQ wP (wv b0 - wv d0) (wv b1 - wv d1) 200 v wx)
  case first =>
    have BwP := Below.refl wP.heap.size wP
    have ltb := ub.lt
    have ltO := uO.lt
    go_region_held3 (fun w' => w'.cell? ⟨g + 1, 0, none⟩ = some (.int .u64 b0) ∧ w'.cell? ⟨g + 1, 1, none⟩ = some (.int .u64 b1) ∧ w'.cell? ⟨gO, 0, none⟩ = some (.bool sO) ∧ w'.cell? ⟨gO, 1, none⟩ = some (.slice qO nO cO') ∧ w'.cell? ⟨gO, 2, none⟩ = some (.bool tO) ∧ w'.cell? ⟨gO, 3, none⟩ = some (.slice zO mO dO)) (go_keep) (first | (go_at_call_of 34 b0; refine (zAt_at (w0 := wP) ub0 ub1 fb0 fb1 (by first | exact Below.refl _ _ | exact below_drewN (Below.refl _ _) _)).mono ?_; rintro e V1 ⟨sh, qh, nh, ch', th, zh, mh, dh, rfl, Ohx, Ohy, szV1, bV1⟩; have BV1 := BwP.trans (bV1.mono BwP.size); have CV1 := bV1; replace rOx := rOx.later bV1; replace rOy := rOy.later bV1; replace rPx := rPx.later bV1; replace rPy := rPy.later bV1; have rhx := Ohx.zr; have rhy := Ohy.zr; obtain ⟨jb0, jb1, jO0, jO1, jO2, jO3⟩ := hcl V1 CV1; try (replace uN := uN.later bV1; obtain ⟨o0, o1, o2, o3⟩ := pcells uN; obtain ⟨p0, p1, p2, p3⟩ := pfrozen uN)) | (go_at_call_of 34 b0; refine (zAt_any ub0 ub1 fb0 fb1).mono ?_; rintro e V1 ⟨sh, qh, nh, ch', th, zh, mh, dh, rfl, Ohx, Ohy, bX⟩; have al := (below_drew_alloc wP (.cells #[.bool false, .slice none 0 0, .bool false, .slice none 0 0] 72)); have bV1 := al.trans (bX.mono al.size); have BV1 := BwP.trans (bV1.mono BwP.size); have CV1 := bV1; replace rOx := rOx.later bV1; replace rOy := rOy.later bV1; replace rPx := rPx.later bV1; replace rPy := rPy.later bV1; have rhx := Ohx.zr; have rhy := Ohy.zr; obtain ⟨jb0, jb1, jO0, jO1, jO2, jO3⟩ := hcl V1 CV1; have uN : Pb V1 wP.heap.size 72 #[.bool false, .slice none 0 0, .bool false, .slice none 0 0] := (Pb.new wP.drew 72 #[.bool false, .slice none 0 0, .bool false, .slice none 0 0]).later bX; obtain ⟨o0, o1, o2, o3⟩ := pcells uN; obtain ⟨p0, p1, p2, p3⟩ := pfrozen uN; have gPs : wP.heap.size < V1.heap.size := uN.lt; have nW0 : ¬ g + 1 = wP.heap.size := (by have := BwP.size; omega); have mW0 : ¬ wP.heap.size = g + 1 := (by have := BwP.size; omega); have nW1 : ¬ gO = wP.heap.size := (by have := BwP.size; omega); have mW1 : ¬ wP.heap.size = gO := (by have := BwP.size; omega)) | (go_at_call_of 33 qh; refine (zMinus_at rhx (by omega) rhy (by omega) rOx (by omega) rOy (by omega) (by first | exact Below.refl _ _ | exact below_drewN (Below.refl _ _) _)).mono ?_; rintro e V2 ⟨sk, qk, nk, ck', tk, zk, mk, dk, rfl, Okx, Oky, szV2, bV2⟩; have BV2 := BV1.trans (bV2.mono BV1.size); have CV2 := CV1.trans (bV2.mono CV1.size); replace rOx := rOx.later bV2; replace rOy := rOy.later bV2; replace rPx := rPx.later bV2; replace rPy := rPy.later bV2; replace rhx := rhx.later bV2; replace rhy := rhy.later bV2; have rkx := Okx.zr; have rky := Oky.zr; obtain ⟨jb0, jb1, jO0, jO1, jO2, jO3⟩ := hcl V2 CV2; try (replace uN := uN.later bV2; obtain ⟨o0, o1, o2, o3⟩ := pcells uN; obtain ⟨p0, p1, p2, p3⟩ := pfrozen uN)) | (go_at_call_of 33 qh; refine (zMinus_any (rhx.later (alloc_below (w := V1) (.cells #[.bool false, .slice none 0 0, .bool false, .slice none 0 0] 72))) (by omega) (rhy.later (alloc_below (w := V1) (.cells #[.bool false, .slice none 0 0, .bool false, .slice none 0 0] 72))) (by omega) (rOx.later (alloc_below (w := V1) (.cells #[.bool false, .slice none 0 0, .bool false, .slice none 0 0] 72))) (by omega) (rOy.later (alloc_below (w := V1) (.cells #[.bool false, .slice none 0 0, .bool false, .slice none 0 0] 72))) (by omega)).mono ?_; rintro e V2 ⟨sk, qk, nk, ck', tk, zk, mk, dk, rfl, Okx, Oky, bX⟩; have al := (alloc_below (w := V1) (.cells #[.bool false, .slice none 0 0, .bool false, .slice none 0 0] 72)); have bV2 := al.trans (bX.mono al.size); have BV2 := BV1.trans (bV2.mono BV1.size); have CV2 := CV1.trans (bV2.mono CV1.size); replace rOx := rOx.later bV2; replace rOy := rOy.later bV2; replace rPx := rPx.later bV2; replace rPy := rPy.later bV2; replace rhx := rhx.later bV2; replace rhy := rhy.later bV2; have rkx := Okx.zr; have rky := Oky.zr; obtain ⟨jb0, jb1, jO0, jO1, jO2, jO3⟩ := hcl V2 CV2; have uN : Pb V2 V1.heap.size 72 #[.bool false, .slice none 0 0, .bool false, .slice none 0 0] := (Pb.new V1 72 #[.bool false, .slice none 0 0, .bool false, .slice none 0 0]).later bX; obtain ⟨o0, o1, o2, o3⟩ := pcells uN; obtain ⟨p0, p1, p2, p3⟩ := pfrozen uN; have gPs : V1.heap.size < V2.heap.size := uN.lt; have nW0 : ¬ g + 1 = V1.heap.size := (by have := BV1.size; omega); have mW0 : ¬ V1.heap.size = g + 1 := (by have := BV1.size; omega); have nW1 : ¬ gO = V1.heap.size := (by have := BV1.size; omega); have mW1 : ¬ V1.heap.size = gO := (by have := BV1.size; omega)))
    all_goals (first | (have hrel := pnq_set (l := 200) BV2 uN rfl Okx Oky (by omega) (by omega) (by omega)) | (have hrel := pnq_set (l := 200) BV2 uN rfl Okx Oky (by first | omega | (simp; done) | ((try have := bV1.size); (try have := bV2.size); omega)) (by have := BV1.size; have := BV2.size; omega) (by omega)) | (have hrel := pnq_new (l := 200) BV2 Okx Oky (by omega)))
    all_goals ((try clear gPs); (try clear bX); (try clear al); (try clear uN); (try clear o0); (try clear o1); (try clear o2); (try clear o3); (try clear p0); (try clear p1); (try clear p2); (try clear p3); (try clear nW0); (try clear nW1); (try clear nW2); (try clear nW3); (try clear nW4); (try clear nW5); (try clear mW0); (try clear mW1); (try clear mW2); (try clear mW3); (try clear mW4); (try clear mW5); (try clear rOx); (try clear OOx); (try clear rOy); (try clear OOy); (try clear rPx); (try clear OPx); (try clear rPy); (try clear OPy); (try clear rhx); (try clear Ohx); (try clear rhy); (try clear Ohy); (try clear rkx); (try clear Okx); (try clear rky); (try clear Oky); (try clear szV2); (try clear bV2); (try clear CV2); (try clear BV2); (try clear szV1); (try clear bV1); (try clear CV1); (try clear BV1); (try clear ja0); (try clear ja1); (try clear ja2); (try clear ja3); (try clear lta); (try clear jb0); (try clear jb1); (try clear jb2); (try clear jb3); (try clear ltb); (try clear jc0); (try clear jc1); (try clear jc2); (try clear jc3); (try clear ltc); (try clear jd0); (try clear jd1); (try clear jd2); (try clear jd3); (try clear ltd); (try clear jO0); (try clear jO1); (try clear jO2); (try clear jO3); (try clear ltO); (try clear jP0); (try clear jP1); (try clear jP2); (try clear jP3); (try clear ltP); (try clear hcl); (try clear BwP); (try clear ua); (try clear ub); (try clear uc); (try clear ud); (try clear uO); (try clear uP); (try clear B2); (try clear D); (try clear ua0); (try clear ua1); (try clear ub0); (try clear ub1); (try clear uc0); (try clear uc1); (try clear ud0); (try clear ud1); (try clear fa0); (try clear fa1); (try clear fb0); (try clear fb1); (try clear fc0); (try clear fc1); (try clear fd0); (try clear fd1))
    all_goals go_wp2
    all_goals (go_meet; exact hrel)
  obtain ⟨gQ, sQ, qQ, nQ, cQ', tQ, zQ, mQ, dQ, rfl, uQ, rQx, rQy, hbP⟩ := hcut
  clear hcl
  replace ua := ua.later hbP
  replace ub := ub.later hbP
  replace uc := uc.later hbP
  replace ud := ud.later hbP
  replace uO := uO.later hbP
  replace uP := uP.later hbP
  replace rOx := rOx.later hbP
  replace rOy := rOy.later hbP
  replace rPx := rPx.later hbP
  replace rPy := rPy.later hbP
  replace D := D.trans (hbP.mono D.size)
  clear hbP
  obtain ⟨wQ, rfl⟩ : ∃ ww, ww = wc := ⟨_, rfl⟩
  obtain ⟨ja0, ja1⟩ := zcells ua
  obtain ⟨jb0, jb1⟩ := zcells ub
  obtain ⟨jc0, jc1⟩ := zcells uc
  obtain ⟨jd0, jd1⟩ := zcells ud
  obtain ⟨jO0, jO1, jO2, jO3⟩ := pcells uO
  obtain ⟨jP0, jP1, jP2, jP3⟩ := pcells uP
  obtain ⟨jQ0, jQ1, jQ2, jQ3⟩ := pcells uQ
  go_upto_region 6 with fail
  have hcl : ∀ w', Below wQ.heap.size wQ w' → w'.cell? ⟨g + 1 + 1, 0, none⟩ = some (.int .u64 c0) ∧ w'.cell? ⟨g + 1 + 1, 1, none⟩ = some (.int .u64 c1) ∧ w'.cell? ⟨gO, 0, none⟩ = some (.bool sO) ∧ w'.cell? ⟨gO, 1, none⟩ = some (.slice qO nO cO') ∧ w'.cell? ⟨gO, 2, none⟩ = some (.bool tO) ∧ w'.cell? ⟨gO, 3, none⟩ = some (.slice zO mO dO) := by
    intro w' h
    obtain ⟨jc0, jc1⟩ := zcells (uc.later h)
    obtain ⟨jO0, jO1, jO2, jO3⟩ := pcells (uO.later h)
    exact ⟨jc0, jc1, jO0, jO1, jO2, jO3⟩
  go_cut [13] (fun v wx => PnQ wQ (wv c0 - wv d0) (wv c1 - wv d1) 200 v wx)
  case first =>
    have BwQ := Below.refl wQ.heap.size wQ
    have ltc := uc.lt
    have ltO := uO.lt
    go_region_held3 (fun w' => w'.cell? ⟨g + 1 + 1, 0, none⟩ = some (.int .u64 c0) ∧ w'.cell? ⟨g + 1 + 1, 1, none⟩ = some (.int .u64 c1) ∧ w'.cell? ⟨gO, 0, none⟩ = some (.bool sO) ∧ w'.cell? ⟨gO, 1, none⟩ = some (.slice qO nO cO') ∧ w'.cell? ⟨gO, 2, none⟩ = some (.bool tO) ∧ w'.cell? ⟨gO, 3, none⟩ = some (.slice zO mO dO)) (go_keep) (first | (go_at_call_of 34 c0; refine (zAt_at (w0 := wQ) uc0 uc1 fc0 fc1 (by first | exact Below.refl _ _ | exact below_drewN (Below.refl _ _) _)).mono ?_; rintro e V1 ⟨sh, qh, nh, ch', th, zh, mh, dh, rfl, Ohx, Ohy, szV1, bV1⟩; have BV1 := BwQ.trans (bV1.mono BwQ.size); have CV1 := bV1; replace rOx := rOx.later bV1; replace rOy := rOy.later bV1; replace rPx := rPx.later bV1; replace rPy := rPy.later bV1; replace rQx := rQx.later bV1; replace rQy := rQy.later bV1; have rhx := Ohx.zr; have rhy := Ohy.zr; obtain ⟨jc0, jc1, jO0, jO1, jO2, jO3⟩ := hcl V1 CV1; try (replace uN := uN.later bV1; obtain ⟨o0, o1, o2, o3⟩ := pcells uN; obtain ⟨p0, p1, p2, p3⟩ := pfrozen uN)) | (go_at_call_of 34 c0; refine (zAt_any uc0 uc1 fc0 fc1).mono ?_; rintro e V1 ⟨sh, qh, nh, ch', th, zh, mh, dh, rfl, Ohx, Ohy, bX⟩; have al := (below_drew_alloc wQ (.cells #[.bool false, .slice none 0 0, .bool false, .slice none 0 0] 72)); have bV1 := al.trans (bX.mono al.size); have BV1 := BwQ.trans (bV1.mono BwQ.size); have CV1 := bV1; replace rOx := rOx.later bV1; replace rOy := rOy.later bV1; replace rPx := rPx.later bV1; replace rPy := rPy.later bV1; replace rQx := rQx.later bV1; replace rQy := rQy.later bV1; have rhx := Ohx.zr; have rhy := Ohy.zr; obtain ⟨jc0, jc1, jO0, jO1, jO2, jO3⟩ := hcl V1 CV1; have uN : Pb V1 wQ.heap.size 72 #[.bool false, .slice none 0 0, .bool false, .slice none 0 0] := (Pb.new wQ.drew 72 #[.bool false, .slice none 0 0, .bool false, .slice none 0 0]).later bX; obtain ⟨o0, o1, o2, o3⟩ := pcells uN; obtain ⟨p0, p1, p2, p3⟩ := pfrozen uN; have gPs : wQ.heap.size < V1.heap.size := uN.lt; have nW0 : ¬ g + 1 + 1 = wQ.heap.size := (by have := BwQ.size; omega); have mW0 : ¬ wQ.heap.size = g + 1 + 1 := (by have := BwQ.size; omega); have nW1 : ¬ gO = wQ.heap.size := (by have := BwQ.size; omega); have mW1 : ¬ wQ.heap.size = gO := (by have := BwQ.size; omega)) | (go_at_call_of 33 qh; refine (zMinus_at rhx (by omega) rhy (by omega) rOx (by omega) rOy (by omega) (by first | exact Below.refl _ _ | exact below_drewN (Below.refl _ _) _)).mono ?_; rintro e V2 ⟨sk, qk, nk, ck', tk, zk, mk, dk, rfl, Okx, Oky, szV2, bV2⟩; have BV2 := BV1.trans (bV2.mono BV1.size); have CV2 := CV1.trans (bV2.mono CV1.size); replace rOx := rOx.later bV2; replace rOy := rOy.later bV2; replace rPx := rPx.later bV2; replace rPy := rPy.later bV2; replace rQx := rQx.later bV2; replace rQy := rQy.later bV2; replace rhx := rhx.later bV2; replace rhy := rhy.later bV2; have rkx := Okx.zr; have rky := Oky.zr; obtain ⟨jc0, jc1, jO0, jO1, jO2, jO3⟩ := hcl V2 CV2; try (replace uN := uN.later bV2; obtain ⟨o0, o1, o2, o3⟩ := pcells uN; obtain ⟨p0, p1, p2, p3⟩ := pfrozen uN)) | (go_at_call_of 33 qh; refine (zMinus_any (rhx.later (alloc_below (w := V1) (.cells #[.bool false, .slice none 0 0, .bool false, .slice none 0 0] 72))) (by omega) (rhy.later (alloc_below (w := V1) (.cells #[.bool false, .slice none 0 0, .bool false, .slice none 0 0] 72))) (by omega) (rOx.later (alloc_below (w := V1) (.cells #[.bool false, .slice none 0 0, .bool false, .slice none 0 0] 72))) (by omega) (rOy.later (alloc_below (w := V1) (.cells #[.bool false, .slice none 0 0, .bool false, .slice none 0 0] 72))) (by omega)).mono ?_; rintro e V2 ⟨sk, qk, nk, ck', tk, zk, mk, dk, rfl, Okx, Oky, bX⟩; have al := (alloc_below (w := V1) (.cells #[.bool false, .slice none 0 0, .bool false, .slice none 0 0] 72)); have bV2 := al.trans (bX.mono al.size); have BV2 := BV1.trans (bV2.mono BV1.size); have CV2 := CV1.trans (bV2.mono CV1.size); replace rOx := rOx.later bV2; replace rOy := rOy.later bV2; replace rPx := rPx.later bV2; replace rPy := rPy.later bV2; replace rQx := rQx.later bV2; replace rQy := rQy.later bV2; replace rhx := rhx.later bV2; replace rhy := rhy.later bV2; have rkx := Okx.zr; have rky := Oky.zr; obtain ⟨jc0, jc1, jO0, jO1, jO2, jO3⟩ := hcl V2 CV2; have uN : Pb V2 V1.heap.size 72 #[.bool false, .slice none 0 0, .bool false, .slice none 0 0] := (Pb.new V1 72 #[.bool false, .slice none 0 0, .bool false, .slice none 0 0]).later bX; obtain ⟨o0, o1, o2, o3⟩ := pcells uN; obtain ⟨p0, p1, p2, p3⟩ := pfrozen uN; have gPs : V1.heap.size < V2.heap.size := uN.lt; have nW0 : ¬ g + 1 + 1 = V1.heap.size := (by have := BV1.size; omega); have mW0 : ¬ V1.heap.size = g + 1 + 1 := (by have := BV1.size; omega); have nW1 : ¬ gO = V1.heap.size := (by have := BV1.size; omega); have mW1 : ¬ V1.heap.size = gO := (by have := BV1.size; omega)))
    all_goals (first | (have hrel := pnq_set (l := 200) BV2 uN rfl Okx Oky (by omega) (by omega) (by omega)) | (have hrel := pnq_set (l := 200) BV2 uN rfl Okx Oky (by first | omega | (simp; done) | ((try have := bV1.size); (try have := bV2.size); omega)) (by have := BV1.size; have := BV2.size; omega) (by omega)) | (have hrel := pnq_new (l := 200) BV2 Okx Oky (by omega)))
    all_goals ((try clear gPs); (try clear bX); (try clear al); (try clear uN); (try clear o0); (try clear o1); (try clear o2); (try clear o3); (try clear p0); (try clear p1); (try clear p2); (try clear p3); (try clear nW0); (try clear nW1); (try clear nW2); (try clear nW3); (try clear nW4); (try clear nW5); (try clear mW0); (try clear mW1); (try clear mW2); (try clear mW3); (try clear mW4); (try clear mW5); (try clear rOx); (try clear OOx); (try clear rOy); (try clear OOy); (try clear rPx); (try clear OPx); (try clear rPy); (try clear OPy); (try clear rQx); (try clear OQx); (try clear rQy); (try clear OQy); (try clear rhx); (try clear Ohx); (try clear rhy); (try clear Ohy); (try clear rkx); (try clear Okx); (try clear rky); (try clear Oky); (try clear szV2); (try clear bV2); (try clear CV2); (try clear BV2); (try clear szV1); (try clear bV1); (try clear CV1); (try clear BV1); (try clear ja0); (try clear ja1); (try clear ja2); (try clear ja3); (try clear lta); (try clear jb0); (try clear jb1); (try clear jb2); (try clear jb3); (try clear ltb); (try clear jc0); (try clear jc1); (try clear jc2); (try clear jc3); (try clear ltc); (try clear jd0); (try clear jd1); (try clear jd2); (try clear jd3); (try clear ltd); (try clear jO0); (try clear jO1); (try clear jO2); (try clear jO3); (try clear ltO); (try clear jP0); (try clear jP1); (try clear jP2); (try clear jP3); (try clear ltP); (try clear jQ0); (try clear jQ1); (try clear jQ2); (try clear jQ3); (try clear ltQ); (try clear hcl); (try clear BwQ); (try clear ua); (try clear ub); (try clear uc); (try clear ud); (try clear uO); (try clear uP); (try clear uQ); (try clear B2); (try clear D); (try clear ua0); (try clear ua1); (try clear ub0); (try clear ub1); (try clear uc0); (try clear uc1); (try clear ud0); (try clear ud1); (try clear fa0); (try clear fa1); (try clear fb0); (try clear fb1); (try clear fc0); (try clear fc1); (try clear fd0); (try clear fd1))
    all_goals go_wp2
    all_goals (go_meet; exact hrel)
  obtain ⟨gR, sR, qR, nR, cR', tR, zR, mR, dR, rfl, uR, rRx, rRy, hbP⟩ := hcut
  clear hcl
  replace ua := ua.later hbP
  replace ub := ub.later hbP
  replace uc := uc.later hbP
  replace ud := ud.later hbP
  replace uO := uO.later hbP
  replace uP := uP.later hbP
  replace uQ := uQ.later hbP
  replace rOx := rOx.later hbP
  replace rOy := rOy.later hbP
  replace rPx := rPx.later hbP
  replace rPy := rPy.later hbP
  replace rQx := rQx.later hbP
  replace rQy := rQy.later hbP
  replace D := D.trans (hbP.mono D.size)
  clear hbP
  obtain ⟨wR, rfl⟩ : ∃ ww, ww = wc := ⟨_, rfl⟩
  obtain ⟨ja0, ja1⟩ := zcells ua
  obtain ⟨jb0, jb1⟩ := zcells ub
  obtain ⟨jc0, jc1⟩ := zcells uc
  obtain ⟨jd0, jd1⟩ := zcells ud
  obtain ⟨jO0, jO1, jO2, jO3⟩ := pcells uO
  obtain ⟨jP0, jP1, jP2, jP3⟩ := pcells uP
  obtain ⟨jQ0, jQ1, jQ2, jQ3⟩ := pcells uQ
  obtain ⟨jR0, jR1, jR2, jR3⟩ := pcells uR
  go_wp2_with fail
  refine (zSquare_any rPx (by omega) rPy (by omega)).mono ?_
  rintro e vA ⟨sA, qA, nA, cA', rfl, OA, hbA⟩
  have al := alloc_below (w := vA) (.cells #[.bool sA, .slice qA nA cA'] 67)
  have uA := Pb.new vA 67 #[.bool sA, .slice qA nA cA']
  replace ua := ua.later (hbA.trans (al.mono hbA.size))
  replace ub := ub.later (hbA.trans (al.mono hbA.size))
  replace uc := uc.later (hbA.trans (al.mono hbA.size))
  replace ud := ud.later (hbA.trans (al.mono hbA.size))
  replace uO := uO.later (hbA.trans (al.mono hbA.size))
  replace uP := uP.later (hbA.trans (al.mono hbA.size))
  replace uQ := uQ.later (hbA.trans (al.mono hbA.size))
  replace uR := uR.later (hbA.trans (al.mono hbA.size))
  replace rOx := rOx.later (hbA.trans (al.mono hbA.size))
  replace rOy := rOy.later (hbA.trans (al.mono hbA.size))
  replace rPx := rPx.later (hbA.trans (al.mono hbA.size))
  replace rPy := rPy.later (hbA.trans (al.mono hbA.size))
  replace rQx := rQx.later (hbA.trans (al.mono hbA.size))
  replace rQy := rQy.later (hbA.trans (al.mono hbA.size))
  replace rRx := rRx.later (hbA.trans (al.mono hbA.size))
  replace rRy := rRy.later (hbA.trans (al.mono hbA.size))
  have rA := OA.zr.later al
  replace D := D.trans ((hbA.trans (al.mono hbA.size)).mono D.size)
  clear al hbA OA
  obtain ⟨ja0, ja1⟩ := zcells ua
  obtain ⟨jb0, jb1⟩ := zcells ub
  obtain ⟨jc0, jc1⟩ := zcells uc
  obtain ⟨jd0, jd1⟩ := zcells ud
  obtain ⟨jO0, jO1, jO2, jO3⟩ := pcells uO
  obtain ⟨jP0, jP1, jP2, jP3⟩ := pcells uP
  obtain ⟨jQ0, jQ1, jQ2, jQ3⟩ := pcells uQ
  obtain ⟨jR0, jR1, jR2, jR3⟩ := pcells uR
  obtain ⟨jA0, jA1⟩ := zcells uA
  go_wp2_with fail
  generalize vA.alloc (.cells #[.bool sA, .slice qA nA cA'] 67) = wA at *
  generalize vA.heap.size = gA at *
  refine (zSquare_any rQx (by omega) rQy (by omega)).mono ?_
  rintro e vB ⟨sB, qB, nB, cB', rfl, OB, hbA⟩
  have al := alloc_below (w := vB) (.cells #[.bool sB, .slice qB nB cB'] 67)
  have uB := Pb.new vB 67 #[.bool sB, .slice qB nB cB']
  replace ua := ua.later (hbA.trans (al.mono hbA.size))
  replace ub := ub.later (hbA.trans (al.mono hbA.size))
  replace uc := uc.later (hbA.trans (al.mono hbA.size))
  replace ud := ud.later (hbA.trans (al.mono hbA.size))
  replace uO := uO.later (hbA.trans (al.mono hbA.size))
  replace uP := uP.later (hbA.trans (al.mono hbA.size))
  replace uQ := uQ.later (hbA.trans (al.mono hbA.size))
  replace uR := uR.later (hbA.trans (al.mono hbA.size))
  replace uA := uA.later (hbA.trans (al.mono hbA.size))
  replace rOx := rOx.later (hbA.trans (al.mono hbA.size))
  replace rOy := rOy.later (hbA.trans (al.mono hbA.size))
  replace rPx := rPx.later (hbA.trans (al.mono hbA.size))
  replace rPy := rPy.later (hbA.trans (al.mono hbA.size))
  replace rQx := rQx.later (hbA.trans (al.mono hbA.size))
  replace rQy := rQy.later (hbA.trans (al.mono hbA.size))
  replace rRx := rRx.later (hbA.trans (al.mono hbA.size))
  replace rRy := rRy.later (hbA.trans (al.mono hbA.size))
  replace rA := rA.later (hbA.trans (al.mono hbA.size))
  have rB := OB.zr.later al
  replace D := D.trans ((hbA.trans (al.mono hbA.size)).mono D.size)
  clear al hbA OB
  obtain ⟨ja0, ja1⟩ := zcells ua
  obtain ⟨jb0, jb1⟩ := zcells ub
  obtain ⟨jc0, jc1⟩ := zcells uc
  obtain ⟨jd0, jd1⟩ := zcells ud
  obtain ⟨jO0, jO1, jO2, jO3⟩ := pcells uO
  obtain ⟨jP0, jP1, jP2, jP3⟩ := pcells uP
  obtain ⟨jQ0, jQ1, jQ2, jQ3⟩ := pcells uQ
  obtain ⟨jR0, jR1, jR2, jR3⟩ := pcells uR
  obtain ⟨jA0, jA1⟩ := zcells uA
  obtain ⟨jB0, jB1⟩ := zcells uB
  go_wp2_with fail
  generalize vB.alloc (.cells #[.bool sB, .slice qB nB cB'] 67) = wB at *
  generalize vB.heap.size = gB at *
  refine (zSquare_any rRx (by omega) rRy (by omega)).mono ?_
  rintro e vC ⟨sC, qC, nC, cC', rfl, OC, hbA⟩
  have al := alloc_below (w := vC) (.cells #[.bool sC, .slice qC nC cC'] 67)
  have uC := Pb.new vC 67 #[.bool sC, .slice qC nC cC']
  replace ua := ua.later (hbA.trans (al.mono hbA.size))
  replace ub := ub.later (hbA.trans (al.mono hbA.size))
  replace uc := uc.later (hbA.trans (al.mono hbA.size))
  replace ud := ud.later (hbA.trans (al.mono hbA.size))
  replace uO := uO.later (hbA.trans (al.mono hbA.size))
  replace uP := uP.later (hbA.trans (al.mono hbA.size))
  replace uQ := uQ.later (hbA.trans (al.mono hbA.size))
  replace uR := uR.later (hbA.trans (al.mono hbA.size))
  replace uA := uA.later (hbA.trans (al.mono hbA.size))
  replace uB := uB.later (hbA.trans (al.mono hbA.size))
  replace rOx := rOx.later (hbA.trans (al.mono hbA.size))
  replace rOy := rOy.later (hbA.trans (al.mono hbA.size))
  replace rPx := rPx.later (hbA.trans (al.mono hbA.size))
  replace rPy := rPy.later (hbA.trans (al.mono hbA.size))
  replace rQx := rQx.later (hbA.trans (al.mono hbA.size))
  replace rQy := rQy.later (hbA.trans (al.mono hbA.size))
  replace rRx := rRx.later (hbA.trans (al.mono hbA.size))
  replace rRy := rRy.later (hbA.trans (al.mono hbA.size))
  replace rA := rA.later (hbA.trans (al.mono hbA.size))
  replace rB := rB.later (hbA.trans (al.mono hbA.size))
  have rC := OC.zr.later al
  replace D := D.trans ((hbA.trans (al.mono hbA.size)).mono D.size)
  clear al hbA OC
  obtain ⟨ja0, ja1⟩ := zcells ua
  obtain ⟨jb0, jb1⟩ := zcells ub
  obtain ⟨jc0, jc1⟩ := zcells uc
  obtain ⟨jd0, jd1⟩ := zcells ud
  obtain ⟨jO0, jO1, jO2, jO3⟩ := pcells uO
  obtain ⟨jP0, jP1, jP2, jP3⟩ := pcells uP
  obtain ⟨jQ0, jQ1, jQ2, jQ3⟩ := pcells uQ
  obtain ⟨jR0, jR1, jR2, jR3⟩ := pcells uR
  obtain ⟨jA0, jA1⟩ := zcells uA
  obtain ⟨jB0, jB1⟩ := zcells uB
  obtain ⟨jC0, jC1⟩ := zcells uC
  go_upto_region 10 with fail
  generalize vC.alloc (.cells #[.bool sC, .slice qC nC cC'] 67) = wC at *
  generalize vC.heap.size = gC at *
  go_upto_region 10 with fail
  have hcl : ∀ w', Below wC.heap.size wC w' → w'.cell? ⟨gP, 0, none⟩ = some (.bool sP) ∧ w'.cell? ⟨gP, 1, none⟩ = some (.slice qP nP cP') ∧ w'.cell? ⟨gP, 2, none⟩ = some (.bool tP) ∧ w'.cell? ⟨gP, 3, none⟩ = some (.slice zP mP dP) ∧ w'.cell? ⟨gQ, 0, none⟩ = some (.bool sQ) ∧ w'.cell? ⟨gQ, 1, none⟩ = some (.slice qQ nQ cQ') ∧ w'.cell? ⟨gQ, 2, none⟩ = some (.bool tQ) ∧ w'.cell? ⟨gQ, 3, none⟩ = some (.slice zQ mQ dQ) ∧ w'.cell? ⟨gR, 0, none⟩ = some (.bool sR) ∧ w'.cell? ⟨gR, 1, none⟩ = some (.slice qR nR cR') ∧ w'.cell? ⟨gR, 2, none⟩ = some (.bool tR) ∧ w'.cell? ⟨gR, 3, none⟩ = some (.slice zR mR dR) ∧ w'.cell? ⟨gC, 0, none⟩ = some (.bool sC) ∧ w'.cell? ⟨gC, 1, none⟩ = some (.slice qC nC cC') ∧ w'.cell? ⟨gB, 0, none⟩ = some (.bool sB) ∧ w'.cell? ⟨gB, 1, none⟩ = some (.slice qB nB cB') := by
    intro w' h
    obtain ⟨jP0, jP1, jP2, jP3⟩ := pcells (uP.later h)
    obtain ⟨jQ0, jQ1, jQ2, jQ3⟩ := pcells (uQ.later h)
    obtain ⟨jR0, jR1, jR2, jR3⟩ := pcells (uR.later h)
    obtain ⟨jC0, jC1⟩ := zcells (uC.later h)
    obtain ⟨jB0, jB1⟩ := zcells (uB.later h)
    exact ⟨jP0, jP1, jP2, jP3, jQ0, jQ1, jQ2, jQ3, jR0, jR1, jR2, jR3, jC0, jC1, jB0, jB1⟩
  go_cut [17] (fun v wx => ZnQ wC ((wv a0 - wv d0) * ((wv b1 - wv d1) * ((wv c0 - wv d0) * (wv c0 - wv d0) + (wv c1 - wv d1) * (wv c1 - wv d1)) - (wv c1 - wv d1) * ((wv b0 - wv d0) * (wv b0 - wv d0) + (wv b1 - wv d1) * (wv b1 - wv d1)))) 8000 v wx)
  case first =>
    have BwC := Below.refl wC.heap.size wC
    have ltP := uP.lt
    have ltQ := uQ.lt
    have ltR := uR.lt
    have ltC := uC.lt
    have ltB := uB.lt
    go_region_held3 (fun w' => w'.cell? ⟨gP, 0, none⟩ = some (.bool sP) ∧ w'.cell? ⟨gP, 1, none⟩ = some (.slice qP nP cP') ∧ w'.cell? ⟨gP, 2, none⟩ = some (.bool tP) ∧ w'.cell? ⟨gP, 3, none⟩ = some (.slice zP mP dP) ∧ w'.cell? ⟨gQ, 0, none⟩ = some (.bool sQ) ∧ w'.cell? ⟨gQ, 1, none⟩ = some (.slice qQ nQ cQ') ∧ w'.cell? ⟨gQ, 2, none⟩ = some (.bool tQ) ∧ w'.cell? ⟨gQ, 3, none⟩ = some (.slice zQ mQ dQ) ∧ w'.cell? ⟨gR, 0, none⟩ = some (.bool sR) ∧ w'.cell? ⟨gR, 1, none⟩ = some (.slice qR nR cR') ∧ w'.cell? ⟨gR, 2, none⟩ = some (.bool tR) ∧ w'.cell? ⟨gR, 3, none⟩ = some (.slice zR mR dR) ∧ w'.cell? ⟨gC, 0, none⟩ = some (.bool sC) ∧ w'.cell? ⟨gC, 1, none⟩ = some (.slice qC nC cC') ∧ w'.cell? ⟨gB, 0, none⟩ = some (.bool sB) ∧ w'.cell? ⟨gB, 1, none⟩ = some (.slice qB nB cB')) (go_keep) (first | (go_at_call_of 45 zQ; refine (zMul_at rQy (by omega) rC (by omega) (by first | exact Below.refl _ _ | exact below_drewN (Below.refl _ _) _)).mono ?_; rintro e V1 ⟨sh, qh, nh, ch', rfl, Oh, szV1, bV1⟩; have BV1 := BwC.trans (bV1.mono BwC.size); have CV1 := bV1; replace rOx := rOx.later bV1; replace rOy := rOy.later bV1; replace rPx := rPx.later bV1; replace rPy := rPy.later bV1; replace rQx := rQx.later bV1; replace rQy := rQy.later bV1; replace rRx := rRx.later bV1; replace rRy := rRy.later bV1; replace rA := rA.later bV1; replace rB := rB.later bV1; replace rC := rC.later bV1; have rh := Oh.zr; obtain ⟨jP0, jP1, jP2, jP3, jQ0, jQ1, jQ2, jQ3, jR0, jR1, jR2, jR3, jC0, jC1, jB0, jB1⟩ := hcl V1 CV1; try (replace uN := uN.later bV1; obtain ⟨o0, o1⟩ := zcells uN; obtain ⟨p0, p1⟩ := zfrozen uN)) | (go_at_call_of 45 zQ; refine (zMul_any (rQy.later (below_drew_alloc wC (.cells #[.bool false, .slice none 0 0] 67))) (by omega) (rC.later (below_drew_alloc wC (.cells #[.bool false, .slice none 0 0] 67))) (by omega)).mono ?_; rintro e V1 ⟨sh, qh, nh, ch', rfl, Oh, bX⟩; have al := (below_drew_alloc wC (.cells #[.bool false, .slice none 0 0] 67)); have bV1 := al.trans (bX.mono al.size); have BV1 := BwC.trans (bV1.mono BwC.size); have CV1 := bV1; replace rOx := rOx.later bV1; replace rOy := rOy.later bV1; replace rPx := rPx.later bV1; replace rPy := rPy.later bV1; replace rQx := rQx.later bV1; replace rQy := rQy.later bV1; replace rRx := rRx.later bV1; replace rRy := rRy.later bV1; replace rA := rA.later bV1; replace rB := rB.later bV1; replace rC := rC.later bV1; have rh := Oh.zr; obtain ⟨jP0, jP1, jP2, jP3, jQ0, jQ1, jQ2, jQ3, jR0, jR1, jR2, jR3, jC0, jC1, jB0, jB1⟩ := hcl V1 CV1; have uN : Pb V1 wC.heap.size 67 #[.bool false, .slice none 0 0] := (Pb.new wC.drew 67 #[.bool false, .slice none 0 0]).later bX; obtain ⟨o0, o1⟩ := zcells uN; obtain ⟨p0, p1⟩ := zfrozen uN; have gPs : wC.heap.size < V1.heap.size := uN.lt; have nW0 : ¬ gP = wC.heap.size := (by have := BwC.size; omega); have mW0 : ¬ wC.heap.size = gP := (by have := BwC.size; omega); have nW1 : ¬ gQ = wC.heap.size := (by have := BwC.size; omega); have mW1 : ¬ wC.heap.size = gQ := (by have := BwC.size; omega); have nW2 : ¬ gR = wC.heap.size := (by have := BwC.size; omega); have mW2 : ¬ wC.heap.size = gR := (by have := BwC.size; omega); have nW3 : ¬ gC = wC.heap.size := (by have := BwC.size; omega); have mW3 : ¬ wC.heap.size = gC := (by have := BwC.size; omega); have nW4 : ¬ gB = wC.heap.size := (by have := BwC.size; omega); have mW4 : ¬ wC.heap.size = gB := (by have := BwC.size; omega)) | (go_at_call_of 45 zR; refine (zMul_at rRy (by omega) rB (by omega) (by first | exact Below.refl _ _ | exact below_drewN (Below.refl _ _) _)).mono ?_; rintro e V2 ⟨sk, qk, nk, ck', rfl, Ok, szV2, bV2⟩; have BV2 := BV1.trans (bV2.mono BV1.size); have CV2 := CV1.trans (bV2.mono CV1.size); replace rOx := rOx.later bV2; replace rOy := rOy.later bV2; replace rPx := rPx.later bV2; replace rPy := rPy.later bV2; replace rQx := rQx.later bV2; replace rQy := rQy.later bV2; replace rRx := rRx.later bV2; replace rRy := rRy.later bV2; replace rA := rA.later bV2; replace rB := rB.later bV2; replace rC := rC.later bV2; replace rh := rh.later bV2; have rk := Ok.zr; obtain ⟨jP0, jP1, jP2, jP3, jQ0, jQ1, jQ2, jQ3, jR0, jR1, jR2, jR3, jC0, jC1, jB0, jB1⟩ := hcl V2 CV2; try (replace uN := uN.later bV2; obtain ⟨o0, o1⟩ := zcells uN; obtain ⟨p0, p1⟩ := zfrozen uN)) | (go_at_call_of 45 zR; refine (zMul_any (rRy.later (alloc_below (w := V1) (.cells #[.bool false, .slice none 0 0] 67))) (by omega) (rB.later (alloc_below (w := V1) (.cells #[.bool false, .slice none 0 0] 67))) (by omega)).mono ?_; rintro e V2 ⟨sk, qk, nk, ck', rfl, Ok, bX⟩; have al := (alloc_below (w := V1) (.cells #[.bool false, .slice none 0 0] 67)); have bV2 := al.trans (bX.mono al.size); have BV2 := BV1.trans (bV2.mono BV1.size); have CV2 := CV1.trans (bV2.mono CV1.size); replace rOx := rOx.later bV2; replace rOy := rOy.later bV2; replace rPx := rPx.later bV2; replace rPy := rPy.later bV2; replace rQx := rQx.later bV2; replace rQy := rQy.later bV2; replace rRx := rRx.later bV2; replace rRy := rRy.later bV2; replace rA := rA.later bV2; replace rB := rB.later bV2; replace rC := rC.later bV2; replace rh := rh.later bV2; have rk := Ok.zr; obtain ⟨jP0, jP1, jP2, jP3, jQ0, jQ1, jQ2, jQ3, jR0, jR1, jR2, jR3, jC0, jC1, jB0, jB1⟩ := hcl V2 CV2; have uN : Pb V2 V1.heap.size 67 #[.bool false, .slice none 0 0] := (Pb.new V1 67 #[.bool false, .slice none 0 0]).later bX; obtain ⟨o0, o1⟩ := zcells uN; obtain ⟨p0, p1⟩ := zfrozen uN; have gPs : V1.heap.size < V2.heap.size := uN.lt; have nW0 : ¬ gP = V1.heap.size := (by have := BV1.size; omega); have mW0 : ¬ V1.heap.size = gP := (by have := BV1.size; omega); have nW1 : ¬ gQ = V1.heap.size := (by have := BV1.size; omega); have mW1 : ¬ V1.heap.size = gQ := (by have := BV1.size; omega); have nW2 : ¬ gR = V1.heap.size := (by have := BV1.size; omega); have mW2 : ¬ V1.heap.size = gR := (by have := BV1.size; omega); have nW3 : ¬ gC = V1.heap.size := (by have := BV1.size; omega); have mW3 : ¬ V1.heap.size = gC := (by have := BV1.size; omega); have nW4 : ¬ gB = V1.heap.size := (by have := BV1.size; omega); have mW4 : ¬ V1.heap.size = gB := (by have := BV1.size; omega)) | (go_at_call_of 31 qh; refine (zSub_at rh (by omega) rk (by omega) (by first | exact Below.refl _ _ | exact below_drewN (Below.refl _ _) _)).mono ?_; rintro e V3 ⟨sl, ql, nl, cl', rfl, Ol, szV3, bV3⟩; have BV3 := BV2.trans (bV3.mono BV2.size); have CV3 := CV2.trans (bV3.mono CV2.size); replace rOx := rOx.later bV3; replace rOy := rOy.later bV3; replace rPx := rPx.later bV3; replace rPy := rPy.later bV3; replace rQx := rQx.later bV3; replace rQy := rQy.later bV3; replace rRx := rRx.later bV3; replace rRy := rRy.later bV3; replace rA := rA.later bV3; replace rB := rB.later bV3; replace rC := rC.later bV3; replace rh := rh.later bV3; replace rk := rk.later bV3; have rl := Ol.zr; obtain ⟨jP0, jP1, jP2, jP3, jQ0, jQ1, jQ2, jQ3, jR0, jR1, jR2, jR3, jC0, jC1, jB0, jB1⟩ := hcl V3 CV3; try (replace uN := uN.later bV3; obtain ⟨o0, o1⟩ := zcells uN; obtain ⟨p0, p1⟩ := zfrozen uN)) | (go_at_call_of 31 qh; refine (zSub_any (rh.later (alloc_below (w := V2) (.cells #[.bool false, .slice none 0 0] 67))) (by omega) (rk.later (alloc_below (w := V2) (.cells #[.bool false, .slice none 0 0] 67))) (by omega)).mono ?_; rintro e V3 ⟨sl, ql, nl, cl', rfl, Ol, bX⟩; have al := (alloc_below (w := V2) (.cells #[.bool false, .slice none 0 0] 67)); have bV3 := al.trans (bX.mono al.size); have BV3 := BV2.trans (bV3.mono BV2.size); have CV3 := CV2.trans (bV3.mono CV2.size); replace rOx := rOx.later bV3; replace rOy := rOy.later bV3; replace rPx := rPx.later bV3; replace rPy := rPy.later bV3; replace rQx := rQx.later bV3; replace rQy := rQy.later bV3; replace rRx := rRx.later bV3; replace rRy := rRy.later bV3; replace rA := rA.later bV3; replace rB := rB.later bV3; replace rC := rC.later bV3; replace rh := rh.later bV3; replace rk := rk.later bV3; have rl := Ol.zr; obtain ⟨jP0, jP1, jP2, jP3, jQ0, jQ1, jQ2, jQ3, jR0, jR1, jR2, jR3, jC0, jC1, jB0, jB1⟩ := hcl V3 CV3; have uN : Pb V3 V2.heap.size 67 #[.bool false, .slice none 0 0] := (Pb.new V2 67 #[.bool false, .slice none 0 0]).later bX; obtain ⟨o0, o1⟩ := zcells uN; obtain ⟨p0, p1⟩ := zfrozen uN; have gPs : V2.heap.size < V3.heap.size := uN.lt; have nW0 : ¬ gP = V2.heap.size := (by have := BV2.size; omega); have mW0 : ¬ V2.heap.size = gP := (by have := BV2.size; omega); have nW1 : ¬ gQ = V2.heap.size := (by have := BV2.size; omega); have mW1 : ¬ V2.heap.size = gQ := (by have := BV2.size; omega); have nW2 : ¬ gR = V2.heap.size := (by have := BV2.size; omega); have mW2 : ¬ V2.heap.size = gR := (by have := BV2.size; omega); have nW3 : ¬ gC = V2.heap.size := (by have := BV2.size; omega); have mW3 : ¬ V2.heap.size = gC := (by have := BV2.size; omega); have nW4 : ¬ gB = V2.heap.size := (by have := BV2.size; omega); have mW4 : ¬ V2.heap.size = gB := (by have := BV2.size; omega)) | (go_at_call_of 45 ql; refine (zMul_at rPx (by omega) rl (by omega) (by first | exact Below.refl _ _ | exact below_drewN (Below.refl _ _) _)).mono ?_; rintro e V4 ⟨sv, qv, nv, cv', rfl, Ov, szV4, bV4⟩; have BV4 := BV3.trans (bV4.mono BV3.size); have CV4 := CV3.trans (bV4.mono CV3.size); replace rOx := rOx.later bV4; replace rOy := rOy.later bV4; replace rPx := rPx.later bV4; replace rPy := rPy.later bV4; replace rQx := rQx.later bV4; replace rQy := rQy.later bV4; replace rRx := rRx.later bV4; replace rRy := rRy.later bV4; replace rA := rA.later bV4; replace rB := rB.later bV4; replace rC := rC.later bV4; replace rh := rh.later bV4; replace rk := rk.later bV4; replace rl := rl.later bV4; have rv := Ov.zr; obtain ⟨jP0, jP1, jP2, jP3, jQ0, jQ1, jQ2, jQ3, jR0, jR1, jR2, jR3, jC0, jC1, jB0, jB1⟩ := hcl V4 CV4; try (replace uN := uN.later bV4; obtain ⟨o0, o1⟩ := zcells uN; obtain ⟨p0, p1⟩ := zfrozen uN)) | (go_at_call_of 45 ql; refine (zMul_any (rPx.later (alloc_below (w := V3) (.cells #[.bool false, .slice none 0 0] 67))) (by omega) (rl.later (alloc_below (w := V3) (.cells #[.bool false, .slice none 0 0] 67))) (by omega)).mono ?_; rintro e V4 ⟨sv, qv, nv, cv', rfl, Ov, bX⟩; have al := (alloc_below (w := V3) (.cells #[.bool false, .slice none 0 0] 67)); have bV4 := al.trans (bX.mono al.size); have BV4 := BV3.trans (bV4.mono BV3.size); have CV4 := CV3.trans (bV4.mono CV3.size); replace rOx := rOx.later bV4; replace rOy := rOy.later bV4; replace rPx := rPx.later bV4; replace rPy := rPy.later bV4; replace rQx := rQx.later bV4; replace rQy := rQy.later bV4; replace rRx := rRx.later bV4; replace rRy := rRy.later bV4; replace rA := rA.later bV4; replace rB := rB.later bV4; replace rC := rC.later bV4; replace rh := rh.later bV4; replace rk := rk.later bV4; replace rl := rl.later bV4; have rv := Ov.zr; obtain ⟨jP0, jP1, jP2, jP3, jQ0, jQ1, jQ2, jQ3, jR0, jR1, jR2, jR3, jC0, jC1, jB0, jB1⟩ := hcl V4 CV4; have uN : Pb V4 V3.heap.size 67 #[.bool false, .slice none 0 0] := (Pb.new V3 67 #[.bool false, .slice none 0 0]).later bX; obtain ⟨o0, o1⟩ := zcells uN; obtain ⟨p0, p1⟩ := zfrozen uN; have gPs : V3.heap.size < V4.heap.size := uN.lt; have nW0 : ¬ gP = V3.heap.size := (by have := BV3.size; omega); have mW0 : ¬ V3.heap.size = gP := (by have := BV3.size; omega); have nW1 : ¬ gQ = V3.heap.size := (by have := BV3.size; omega); have mW1 : ¬ V3.heap.size = gQ := (by have := BV3.size; omega); have nW2 : ¬ gR = V3.heap.size := (by have := BV3.size; omega); have mW2 : ¬ V3.heap.size = gR := (by have := BV3.size; omega); have nW3 : ¬ gC = V3.heap.size := (by have := BV3.size; omega); have mW3 : ¬ V3.heap.size = gC := (by have := BV3.size; omega); have nW4 : ¬ gB = V3.heap.size := (by have := BV3.size; omega); have mW4 : ¬ V3.heap.size = gB := (by have := BV3.size; omega)))
    all_goals (first | (have hrel := znq_set (l := 8000) BV4 uN rfl Ov (by omega) (by omega) (by omega)) | (have hrel := znq_set (l := 8000) BV4 uN rfl Ov (by first | omega | (simp; done) | ((try have := bV1.size); (try have := bV2.size); (try have := bV3.size); (try have := bV4.size); omega)) (by have := BV1.size; have := BV2.size; have := BV3.size; have := BV4.size; omega) (by omega)) | (have hrel := znq_new (l := 8000) BV4 Ov (by omega)))
    all_goals ((try clear gPs); (try clear bX); (try clear al); (try clear uN); (try clear o0); (try clear o1); (try clear o2); (try clear o3); (try clear p0); (try clear p1); (try clear p2); (try clear p3); (try clear nW0); (try clear nW1); (try clear nW2); (try clear nW3); (try clear nW4); (try clear nW5); (try clear mW0); (try clear mW1); (try clear mW2); (try clear mW3); (try clear mW4); (try clear mW5); (try clear rOx); (try clear OOx); (try clear rOy); (try clear OOy); (try clear rPx); (try clear OPx); (try clear rPy); (try clear OPy); (try clear rQx); (try clear OQx); (try clear rQy); (try clear OQy); (try clear rRx); (try clear ORx); (try clear rRy); (try clear ORy); (try clear rA); (try clear OA); (try clear rB); (try clear OB); (try clear rC); (try clear OC); (try clear rh); (try clear Oh); (try clear rk); (try clear Ok); (try clear rl); (try clear Ol); (try clear rv); (try clear Ov); (try clear szV4); (try clear bV4); (try clear CV4); (try clear BV4); (try clear szV3); (try clear bV3); (try clear CV3); (try clear BV3); (try clear szV2); (try clear bV2); (try clear CV2); (try clear BV2); (try clear szV1); (try clear bV1); (try clear CV1); (try clear BV1); (try clear ja0); (try clear ja1); (try clear ja2); (try clear ja3); (try clear lta); (try clear jb0); (try clear jb1); (try clear jb2); (try clear jb3); (try clear ltb); (try clear jc0); (try clear jc1); (try clear jc2); (try clear jc3); (try clear ltc); (try clear jd0); (try clear jd1); (try clear jd2); (try clear jd3); (try clear ltd); (try clear jO0); (try clear jO1); (try clear jO2); (try clear jO3); (try clear ltO); (try clear jP0); (try clear jP1); (try clear jP2); (try clear jP3); (try clear ltP); (try clear jQ0); (try clear jQ1); (try clear jQ2); (try clear jQ3); (try clear ltQ); (try clear jR0); (try clear jR1); (try clear jR2); (try clear jR3); (try clear ltR); (try clear jA0); (try clear jA1); (try clear jA2); (try clear jA3); (try clear ltA); (try clear jB0); (try clear jB1); (try clear jB2); (try clear jB3); (try clear ltB); (try clear jC0); (try clear jC1); (try clear jC2); (try clear jC3); (try clear ltC); (try clear hcl); (try clear BwC); (try clear ua); (try clear ub); (try clear uc); (try clear ud); (try clear uO); (try clear uP); (try clear uQ); (try clear uR); (try clear uA); (try clear uB); (try clear uC); (try clear B2); (try clear D); (try clear ua0); (try clear ua1); (try clear ub0); (try clear ub1); (try clear uc0); (try clear uc1); (try clear ud0); (try clear ud1); (try clear fa0); (try clear fa1); (try clear fb0); (try clear fb1); (try clear fc0); (try clear fc1); (try clear fd0); (try clear fd1))
    all_goals go_wp2
    all_goals (go_meet; exact hrel)
  obtain ⟨gX, sX, qX, nX, cX', rfl, uX, rX, hbP⟩ := hcut
  clear hcl
  replace ua := ua.later hbP
  replace ub := ub.later hbP
  replace uc := uc.later hbP
  replace ud := ud.later hbP
  replace uO := uO.later hbP
  replace uP := uP.later hbP
  replace uQ := uQ.later hbP
  replace uR := uR.later hbP
  replace uA := uA.later hbP
  replace uB := uB.later hbP
  replace uC := uC.later hbP
  replace rOx := rOx.later hbP
  replace rOy := rOy.later hbP
  replace rPx := rPx.later hbP
  replace rPy := rPy.later hbP
  replace rQx := rQx.later hbP
  replace rQy := rQy.later hbP
  replace rRx := rRx.later hbP
  replace rRy := rRy.later hbP
  replace rA := rA.later hbP
  replace rB := rB.later hbP
  replace rC := rC.later hbP
  replace D := D.trans (hbP.mono D.size)
  clear hbP
  obtain ⟨wX, rfl⟩ : ∃ ww, ww = wc := ⟨_, rfl⟩
  obtain ⟨ja0, ja1⟩ := zcells ua
  obtain ⟨jb0, jb1⟩ := zcells ub
  obtain ⟨jc0, jc1⟩ := zcells uc
  obtain ⟨jd0, jd1⟩ := zcells ud
  obtain ⟨jO0, jO1, jO2, jO3⟩ := pcells uO
  obtain ⟨jP0, jP1, jP2, jP3⟩ := pcells uP
  obtain ⟨jQ0, jQ1, jQ2, jQ3⟩ := pcells uQ
  obtain ⟨jR0, jR1, jR2, jR3⟩ := pcells uR
  obtain ⟨jA0, jA1⟩ := zcells uA
  obtain ⟨jB0, jB1⟩ := zcells uB
  obtain ⟨jC0, jC1⟩ := zcells uC
  obtain ⟨jX0, jX1⟩ := zcells uX
  go_upto_region 11 with fail
  have hcl : ∀ w', Below wX.heap.size wX w' → w'.cell? ⟨gP, 0, none⟩ = some (.bool sP) ∧ w'.cell? ⟨gP, 1, none⟩ = some (.slice qP nP cP') ∧ w'.cell? ⟨gP, 2, none⟩ = some (.bool tP) ∧ w'.cell? ⟨gP, 3, none⟩ = some (.slice zP mP dP) ∧ w'.cell? ⟨gQ, 0, none⟩ = some (.bool sQ) ∧ w'.cell? ⟨gQ, 1, none⟩ = some (.slice qQ nQ cQ') ∧ w'.cell? ⟨gQ, 2, none⟩ = some (.bool tQ) ∧ w'.cell? ⟨gQ, 3, none⟩ = some (.slice zQ mQ dQ) ∧ w'.cell? ⟨gR, 0, none⟩ = some (.bool sR) ∧ w'.cell? ⟨gR, 1, none⟩ = some (.slice qR nR cR') ∧ w'.cell? ⟨gR, 2, none⟩ = some (.bool tR) ∧ w'.cell? ⟨gR, 3, none⟩ = some (.slice zR mR dR) ∧ w'.cell? ⟨gC, 0, none⟩ = some (.bool sC) ∧ w'.cell? ⟨gC, 1, none⟩ = some (.slice qC nC cC') ∧ w'.cell? ⟨gB, 0, none⟩ = some (.bool sB) ∧ w'.cell? ⟨gB, 1, none⟩ = some (.slice qB nB cB') := by
    intro w' h
    obtain ⟨jP0, jP1, jP2, jP3⟩ := pcells (uP.later h)
    obtain ⟨jQ0, jQ1, jQ2, jQ3⟩ := pcells (uQ.later h)
    obtain ⟨jR0, jR1, jR2, jR3⟩ := pcells (uR.later h)
    obtain ⟨jC0, jC1⟩ := zcells (uC.later h)
    obtain ⟨jB0, jB1⟩ := zcells (uB.later h)
    exact ⟨jP0, jP1, jP2, jP3, jQ0, jQ1, jQ2, jQ3, jR0, jR1, jR2, jR3, jC0, jC1, jB0, jB1⟩
  go_cut [18] (fun v wx => ZnQ wX ((wv a1 - wv d1) * ((wv b0 - wv d0) * ((wv c0 - wv d0) * (wv c0 - wv d0) + (wv c1 - wv d1) * (wv c1 - wv d1)) - (wv c0 - wv d0) * ((wv b0 - wv d0) * (wv b0 - wv d0) + (wv b1 - wv d1) * (wv b1 - wv d1)))) 8000 v wx)
  case first =>
    have BwX := Below.refl wX.heap.size wX
    have ltP := uP.lt
    have ltQ := uQ.lt
    have ltR := uR.lt
    have ltC := uC.lt
    have ltB := uB.lt
    go_region_held3 (fun w' => w'.cell? ⟨gP, 0, none⟩ = some (.bool sP) ∧ w'.cell? ⟨gP, 1, none⟩ = some (.slice qP nP cP') ∧ w'.cell? ⟨gP, 2, none⟩ = some (.bool tP) ∧ w'.cell? ⟨gP, 3, none⟩ = some (.slice zP mP dP) ∧ w'.cell? ⟨gQ, 0, none⟩ = some (.bool sQ) ∧ w'.cell? ⟨gQ, 1, none⟩ = some (.slice qQ nQ cQ') ∧ w'.cell? ⟨gQ, 2, none⟩ = some (.bool tQ) ∧ w'.cell? ⟨gQ, 3, none⟩ = some (.slice zQ mQ dQ) ∧ w'.cell? ⟨gR, 0, none⟩ = some (.bool sR) ∧ w'.cell? ⟨gR, 1, none⟩ = some (.slice qR nR cR') ∧ w'.cell? ⟨gR, 2, none⟩ = some (.bool tR) ∧ w'.cell? ⟨gR, 3, none⟩ = some (.slice zR mR dR) ∧ w'.cell? ⟨gC, 0, none⟩ = some (.bool sC) ∧ w'.cell? ⟨gC, 1, none⟩ = some (.slice qC nC cC') ∧ w'.cell? ⟨gB, 0, none⟩ = some (.bool sB) ∧ w'.cell? ⟨gB, 1, none⟩ = some (.slice qB nB cB')) (go_keep) (first | (go_at_call_of 45 qQ; refine (zMul_at rQx (by omega) rC (by omega) (by first | exact Below.refl _ _ | exact below_drewN (Below.refl _ _) _)).mono ?_; rintro e V1 ⟨sh, qh, nh, ch', rfl, Oh, szV1, bV1⟩; have BV1 := BwX.trans (bV1.mono BwX.size); have CV1 := bV1; replace rOx := rOx.later bV1; replace rOy := rOy.later bV1; replace rPx := rPx.later bV1; replace rPy := rPy.later bV1; replace rQx := rQx.later bV1; replace rQy := rQy.later bV1; replace rRx := rRx.later bV1; replace rRy := rRy.later bV1; replace rA := rA.later bV1; replace rB := rB.later bV1; replace rC := rC.later bV1; replace rX := rX.later bV1; have rh := Oh.zr; obtain ⟨jP0, jP1, jP2, jP3, jQ0, jQ1, jQ2, jQ3, jR0, jR1, jR2, jR3, jC0, jC1, jB0, jB1⟩ := hcl V1 CV1; try (replace uN := uN.later bV1; obtain ⟨o0, o1⟩ := zcells uN; obtain ⟨p0, p1⟩ := zfrozen uN)) | (go_at_call_of 45 qQ; refine (zMul_any (rQx.later (below_drew_alloc wX (.cells #[.bool false, .slice none 0 0] 67))) (by omega) (rC.later (below_drew_alloc wX (.cells #[.bool false, .slice none 0 0] 67))) (by omega)).mono ?_; rintro e V1 ⟨sh, qh, nh, ch', rfl, Oh, bX⟩; have al := (below_drew_alloc wX (.cells #[.bool false, .slice none 0 0] 67)); have bV1 := al.trans (bX.mono al.size); have BV1 := BwX.trans (bV1.mono BwX.size); have CV1 := bV1; replace rOx := rOx.later bV1; replace rOy := rOy.later bV1; replace rPx := rPx.later bV1; replace rPy := rPy.later bV1; replace rQx := rQx.later bV1; replace rQy := rQy.later bV1; replace rRx := rRx.later bV1; replace rRy := rRy.later bV1; replace rA := rA.later bV1; replace rB := rB.later bV1; replace rC := rC.later bV1; replace rX := rX.later bV1; have rh := Oh.zr; obtain ⟨jP0, jP1, jP2, jP3, jQ0, jQ1, jQ2, jQ3, jR0, jR1, jR2, jR3, jC0, jC1, jB0, jB1⟩ := hcl V1 CV1; have uN : Pb V1 wX.heap.size 67 #[.bool false, .slice none 0 0] := (Pb.new wX.drew 67 #[.bool false, .slice none 0 0]).later bX; obtain ⟨o0, o1⟩ := zcells uN; obtain ⟨p0, p1⟩ := zfrozen uN; have gPs : wX.heap.size < V1.heap.size := uN.lt; have nW0 : ¬ gP = wX.heap.size := (by have := BwX.size; omega); have mW0 : ¬ wX.heap.size = gP := (by have := BwX.size; omega); have nW1 : ¬ gQ = wX.heap.size := (by have := BwX.size; omega); have mW1 : ¬ wX.heap.size = gQ := (by have := BwX.size; omega); have nW2 : ¬ gR = wX.heap.size := (by have := BwX.size; omega); have mW2 : ¬ wX.heap.size = gR := (by have := BwX.size; omega); have nW3 : ¬ gC = wX.heap.size := (by have := BwX.size; omega); have mW3 : ¬ wX.heap.size = gC := (by have := BwX.size; omega); have nW4 : ¬ gB = wX.heap.size := (by have := BwX.size; omega); have mW4 : ¬ wX.heap.size = gB := (by have := BwX.size; omega)) | (go_at_call_of 45 qR; refine (zMul_at rRx (by omega) rB (by omega) (by first | exact Below.refl _ _ | exact below_drewN (Below.refl _ _) _)).mono ?_; rintro e V2 ⟨sk, qk, nk, ck', rfl, Ok, szV2, bV2⟩; have BV2 := BV1.trans (bV2.mono BV1.size); have CV2 := CV1.trans (bV2.mono CV1.size); replace rOx := rOx.later bV2; replace rOy := rOy.later bV2; replace rPx := rPx.later bV2; replace rPy := rPy.later bV2; replace rQx := rQx.later bV2; replace rQy := rQy.later bV2; replace rRx := rRx.later bV2; replace rRy := rRy.later bV2; replace rA := rA.later bV2; replace rB := rB.later bV2; replace rC := rC.later bV2; replace rX := rX.later bV2; replace rh := rh.later bV2; have rk := Ok.zr; obtain ⟨jP0, jP1, jP2, jP3, jQ0, jQ1, jQ2, jQ3, jR0, jR1, jR2, jR3, jC0, jC1, jB0, jB1⟩ := hcl V2 CV2; try (replace uN := uN.later bV2; obtain ⟨o0, o1⟩ := zcells uN; obtain ⟨p0, p1⟩ := zfrozen uN)) | (go_at_call_of 45 qR; refine (zMul_any (rRx.later (alloc_below (w := V1) (.cells #[.bool false, .slice none 0 0] 67))) (by omega) (rB.later (alloc_below (w := V1) (.cells #[.bool false, .slice none 0 0] 67))) (by omega)).mono ?_; rintro e V2 ⟨sk, qk, nk, ck', rfl, Ok, bX⟩; have al := (alloc_below (w := V1) (.cells #[.bool false, .slice none 0 0] 67)); have bV2 := al.trans (bX.mono al.size); have BV2 := BV1.trans (bV2.mono BV1.size); have CV2 := CV1.trans (bV2.mono CV1.size); replace rOx := rOx.later bV2; replace rOy := rOy.later bV2; replace rPx := rPx.later bV2; replace rPy := rPy.later bV2; replace rQx := rQx.later bV2; replace rQy := rQy.later bV2; replace rRx := rRx.later bV2; replace rRy := rRy.later bV2; replace rA := rA.later bV2; replace rB := rB.later bV2; replace rC := rC.later bV2; replace rX := rX.later bV2; replace rh := rh.later bV2; have rk := Ok.zr; obtain ⟨jP0, jP1, jP2, jP3, jQ0, jQ1, jQ2, jQ3, jR0, jR1, jR2, jR3, jC0, jC1, jB0, jB1⟩ := hcl V2 CV2; have uN : Pb V2 V1.heap.size 67 #[.bool false, .slice none 0 0] := (Pb.new V1 67 #[.bool false, .slice none 0 0]).later bX; obtain ⟨o0, o1⟩ := zcells uN; obtain ⟨p0, p1⟩ := zfrozen uN; have gPs : V1.heap.size < V2.heap.size := uN.lt; have nW0 : ¬ gP = V1.heap.size := (by have := BV1.size; omega); have mW0 : ¬ V1.heap.size = gP := (by have := BV1.size; omega); have nW1 : ¬ gQ = V1.heap.size := (by have := BV1.size; omega); have mW1 : ¬ V1.heap.size = gQ := (by have := BV1.size; omega); have nW2 : ¬ gR = V1.heap.size := (by have := BV1.size; omega); have mW2 : ¬ V1.heap.size = gR := (by have := BV1.size; omega); have nW3 : ¬ gC = V1.heap.size := (by have := BV1.size; omega); have mW3 : ¬ V1.heap.size = gC := (by have := BV1.size; omega); have nW4 : ¬ gB = V1.heap.size := (by have := BV1.size; omega); have mW4 : ¬ V1.heap.size = gB := (by have := BV1.size; omega)) | (go_at_call_of 31 qh; refine (zSub_at rh (by omega) rk (by omega) (by first | exact Below.refl _ _ | exact below_drewN (Below.refl _ _) _)).mono ?_; rintro e V3 ⟨sl, ql, nl, cl', rfl, Ol, szV3, bV3⟩; have BV3 := BV2.trans (bV3.mono BV2.size); have CV3 := CV2.trans (bV3.mono CV2.size); replace rOx := rOx.later bV3; replace rOy := rOy.later bV3; replace rPx := rPx.later bV3; replace rPy := rPy.later bV3; replace rQx := rQx.later bV3; replace rQy := rQy.later bV3; replace rRx := rRx.later bV3; replace rRy := rRy.later bV3; replace rA := rA.later bV3; replace rB := rB.later bV3; replace rC := rC.later bV3; replace rX := rX.later bV3; replace rh := rh.later bV3; replace rk := rk.later bV3; have rl := Ol.zr; obtain ⟨jP0, jP1, jP2, jP3, jQ0, jQ1, jQ2, jQ3, jR0, jR1, jR2, jR3, jC0, jC1, jB0, jB1⟩ := hcl V3 CV3; try (replace uN := uN.later bV3; obtain ⟨o0, o1⟩ := zcells uN; obtain ⟨p0, p1⟩ := zfrozen uN)) | (go_at_call_of 31 qh; refine (zSub_any (rh.later (alloc_below (w := V2) (.cells #[.bool false, .slice none 0 0] 67))) (by omega) (rk.later (alloc_below (w := V2) (.cells #[.bool false, .slice none 0 0] 67))) (by omega)).mono ?_; rintro e V3 ⟨sl, ql, nl, cl', rfl, Ol, bX⟩; have al := (alloc_below (w := V2) (.cells #[.bool false, .slice none 0 0] 67)); have bV3 := al.trans (bX.mono al.size); have BV3 := BV2.trans (bV3.mono BV2.size); have CV3 := CV2.trans (bV3.mono CV2.size); replace rOx := rOx.later bV3; replace rOy := rOy.later bV3; replace rPx := rPx.later bV3; replace rPy := rPy.later bV3; replace rQx := rQx.later bV3; replace rQy := rQy.later bV3; replace rRx := rRx.later bV3; replace rRy := rRy.later bV3; replace rA := rA.later bV3; replace rB := rB.later bV3; replace rC := rC.later bV3; replace rX := rX.later bV3; replace rh := rh.later bV3; replace rk := rk.later bV3; have rl := Ol.zr; obtain ⟨jP0, jP1, jP2, jP3, jQ0, jQ1, jQ2, jQ3, jR0, jR1, jR2, jR3, jC0, jC1, jB0, jB1⟩ := hcl V3 CV3; have uN : Pb V3 V2.heap.size 67 #[.bool false, .slice none 0 0] := (Pb.new V2 67 #[.bool false, .slice none 0 0]).later bX; obtain ⟨o0, o1⟩ := zcells uN; obtain ⟨p0, p1⟩ := zfrozen uN; have gPs : V2.heap.size < V3.heap.size := uN.lt; have nW0 : ¬ gP = V2.heap.size := (by have := BV2.size; omega); have mW0 : ¬ V2.heap.size = gP := (by have := BV2.size; omega); have nW1 : ¬ gQ = V2.heap.size := (by have := BV2.size; omega); have mW1 : ¬ V2.heap.size = gQ := (by have := BV2.size; omega); have nW2 : ¬ gR = V2.heap.size := (by have := BV2.size; omega); have mW2 : ¬ V2.heap.size = gR := (by have := BV2.size; omega); have nW3 : ¬ gC = V2.heap.size := (by have := BV2.size; omega); have mW3 : ¬ V2.heap.size = gC := (by have := BV2.size; omega); have nW4 : ¬ gB = V2.heap.size := (by have := BV2.size; omega); have mW4 : ¬ V2.heap.size = gB := (by have := BV2.size; omega)) | (go_at_call_of 45 ql; refine (zMul_at rPy (by omega) rl (by omega) (by first | exact Below.refl _ _ | exact below_drewN (Below.refl _ _) _)).mono ?_; rintro e V4 ⟨sv, qv, nv, cv', rfl, Ov, szV4, bV4⟩; have BV4 := BV3.trans (bV4.mono BV3.size); have CV4 := CV3.trans (bV4.mono CV3.size); replace rOx := rOx.later bV4; replace rOy := rOy.later bV4; replace rPx := rPx.later bV4; replace rPy := rPy.later bV4; replace rQx := rQx.later bV4; replace rQy := rQy.later bV4; replace rRx := rRx.later bV4; replace rRy := rRy.later bV4; replace rA := rA.later bV4; replace rB := rB.later bV4; replace rC := rC.later bV4; replace rX := rX.later bV4; replace rh := rh.later bV4; replace rk := rk.later bV4; replace rl := rl.later bV4; have rv := Ov.zr; obtain ⟨jP0, jP1, jP2, jP3, jQ0, jQ1, jQ2, jQ3, jR0, jR1, jR2, jR3, jC0, jC1, jB0, jB1⟩ := hcl V4 CV4; try (replace uN := uN.later bV4; obtain ⟨o0, o1⟩ := zcells uN; obtain ⟨p0, p1⟩ := zfrozen uN)) | (go_at_call_of 45 ql; refine (zMul_any (rPy.later (alloc_below (w := V3) (.cells #[.bool false, .slice none 0 0] 67))) (by omega) (rl.later (alloc_below (w := V3) (.cells #[.bool false, .slice none 0 0] 67))) (by omega)).mono ?_; rintro e V4 ⟨sv, qv, nv, cv', rfl, Ov, bX⟩; have al := (alloc_below (w := V3) (.cells #[.bool false, .slice none 0 0] 67)); have bV4 := al.trans (bX.mono al.size); have BV4 := BV3.trans (bV4.mono BV3.size); have CV4 := CV3.trans (bV4.mono CV3.size); replace rOx := rOx.later bV4; replace rOy := rOy.later bV4; replace rPx := rPx.later bV4; replace rPy := rPy.later bV4; replace rQx := rQx.later bV4; replace rQy := rQy.later bV4; replace rRx := rRx.later bV4; replace rRy := rRy.later bV4; replace rA := rA.later bV4; replace rB := rB.later bV4; replace rC := rC.later bV4; replace rX := rX.later bV4; replace rh := rh.later bV4; replace rk := rk.later bV4; replace rl := rl.later bV4; have rv := Ov.zr; obtain ⟨jP0, jP1, jP2, jP3, jQ0, jQ1, jQ2, jQ3, jR0, jR1, jR2, jR3, jC0, jC1, jB0, jB1⟩ := hcl V4 CV4; have uN : Pb V4 V3.heap.size 67 #[.bool false, .slice none 0 0] := (Pb.new V3 67 #[.bool false, .slice none 0 0]).later bX; obtain ⟨o0, o1⟩ := zcells uN; obtain ⟨p0, p1⟩ := zfrozen uN; have gPs : V3.heap.size < V4.heap.size := uN.lt; have nW0 : ¬ gP = V3.heap.size := (by have := BV3.size; omega); have mW0 : ¬ V3.heap.size = gP := (by have := BV3.size; omega); have nW1 : ¬ gQ = V3.heap.size := (by have := BV3.size; omega); have mW1 : ¬ V3.heap.size = gQ := (by have := BV3.size; omega); have nW2 : ¬ gR = V3.heap.size := (by have := BV3.size; omega); have mW2 : ¬ V3.heap.size = gR := (by have := BV3.size; omega); have nW3 : ¬ gC = V3.heap.size := (by have := BV3.size; omega); have mW3 : ¬ V3.heap.size = gC := (by have := BV3.size; omega); have nW4 : ¬ gB = V3.heap.size := (by have := BV3.size; omega); have mW4 : ¬ V3.heap.size = gB := (by have := BV3.size; omega)))
    all_goals (first | (have hrel := znq_set (l := 8000) BV4 uN rfl Ov (by omega) (by omega) (by omega)) | (have hrel := znq_set (l := 8000) BV4 uN rfl Ov (by first | omega | (simp; done) | ((try have := bV1.size); (try have := bV2.size); (try have := bV3.size); (try have := bV4.size); omega)) (by have := BV1.size; have := BV2.size; have := BV3.size; have := BV4.size; omega) (by omega)) | (have hrel := znq_new (l := 8000) BV4 Ov (by omega)))
    all_goals ((try clear gPs); (try clear bX); (try clear al); (try clear uN); (try clear o0); (try clear o1); (try clear o2); (try clear o3); (try clear p0); (try clear p1); (try clear p2); (try clear p3); (try clear nW0); (try clear nW1); (try clear nW2); (try clear nW3); (try clear nW4); (try clear nW5); (try clear mW0); (try clear mW1); (try clear mW2); (try clear mW3); (try clear mW4); (try clear mW5); (try clear rOx); (try clear OOx); (try clear rOy); (try clear OOy); (try clear rPx); (try clear OPx); (try clear rPy); (try clear OPy); (try clear rQx); (try clear OQx); (try clear rQy); (try clear OQy); (try clear rRx); (try clear ORx); (try clear rRy); (try clear ORy); (try clear rA); (try clear OA); (try clear rB); (try clear OB); (try clear rC); (try clear OC); (try clear rX); (try clear OX); (try clear rh); (try clear Oh); (try clear rk); (try clear Ok); (try clear rl); (try clear Ol); (try clear rv); (try clear Ov); (try clear szV4); (try clear bV4); (try clear CV4); (try clear BV4); (try clear szV3); (try clear bV3); (try clear CV3); (try clear BV3); (try clear szV2); (try clear bV2); (try clear CV2); (try clear BV2); (try clear szV1); (try clear bV1); (try clear CV1); (try clear BV1); (try clear ja0); (try clear ja1); (try clear ja2); (try clear ja3); (try clear lta); (try clear jb0); (try clear jb1); (try clear jb2); (try clear jb3); (try clear ltb); (try clear jc0); (try clear jc1); (try clear jc2); (try clear jc3); (try clear ltc); (try clear jd0); (try clear jd1); (try clear jd2); (try clear jd3); (try clear ltd); (try clear jO0); (try clear jO1); (try clear jO2); (try clear jO3); (try clear ltO); (try clear jP0); (try clear jP1); (try clear jP2); (try clear jP3); (try clear ltP); (try clear jQ0); (try clear jQ1); (try clear jQ2); (try clear jQ3); (try clear ltQ); (try clear jR0); (try clear jR1); (try clear jR2); (try clear jR3); (try clear ltR); (try clear jA0); (try clear jA1); (try clear jA2); (try clear jA3); (try clear ltA); (try clear jB0); (try clear jB1); (try clear jB2); (try clear jB3); (try clear ltB); (try clear jC0); (try clear jC1); (try clear jC2); (try clear jC3); (try clear ltC); (try clear jX0); (try clear jX1); (try clear jX2); (try clear jX3); (try clear ltX); (try clear hcl); (try clear BwX); (try clear ua); (try clear ub); (try clear uc); (try clear ud); (try clear uO); (try clear uP); (try clear uQ); (try clear uR); (try clear uA); (try clear uB); (try clear uC); (try clear uX); (try clear B2); (try clear D); (try clear ua0); (try clear ua1); (try clear ub0); (try clear ub1); (try clear uc0); (try clear uc1); (try clear ud0); (try clear ud1); (try clear fa0); (try clear fa1); (try clear fb0); (try clear fb1); (try clear fc0); (try clear fc1); (try clear fd0); (try clear fd1))
    all_goals go_wp2
    all_goals (go_meet; exact hrel)
  obtain ⟨gY, sY, qY, nY, cY', rfl, uY, rY, hbP⟩ := hcut
  clear hcl
  replace ua := ua.later hbP
  replace ub := ub.later hbP
  replace uc := uc.later hbP
  replace ud := ud.later hbP
  replace uO := uO.later hbP
  replace uP := uP.later hbP
  replace uQ := uQ.later hbP
  replace uR := uR.later hbP
  replace uA := uA.later hbP
  replace uB := uB.later hbP
  replace uC := uC.later hbP
  replace uX := uX.later hbP
  replace rOx := rOx.later hbP
  replace rOy := rOy.later hbP
  replace rPx := rPx.later hbP
  replace rPy := rPy.later hbP
  replace rQx := rQx.later hbP
  replace rQy := rQy.later hbP
  replace rRx := rRx.later hbP
  replace rRy := rRy.later hbP
  replace rA := rA.later hbP
  replace rB := rB.later hbP
  replace rC := rC.later hbP
  replace rX := rX.later hbP
  replace D := D.trans (hbP.mono D.size)
  clear hbP
  obtain ⟨wY, rfl⟩ : ∃ ww, ww = wc := ⟨_, rfl⟩
  obtain ⟨ja0, ja1⟩ := zcells ua
  obtain ⟨jb0, jb1⟩ := zcells ub
  obtain ⟨jc0, jc1⟩ := zcells uc
  obtain ⟨jd0, jd1⟩ := zcells ud
  obtain ⟨jO0, jO1, jO2, jO3⟩ := pcells uO
  obtain ⟨jP0, jP1, jP2, jP3⟩ := pcells uP
  obtain ⟨jQ0, jQ1, jQ2, jQ3⟩ := pcells uQ
  obtain ⟨jR0, jR1, jR2, jR3⟩ := pcells uR
  obtain ⟨jA0, jA1⟩ := zcells uA
  obtain ⟨jB0, jB1⟩ := zcells uB
  obtain ⟨jC0, jC1⟩ := zcells uC
  obtain ⟨jX0, jX1⟩ := zcells uX
  obtain ⟨jY0, jY1⟩ := zcells uY
  go_upto_region 12 with fail
  have hcl : ∀ w', Below wY.heap.size wY w' → w'.cell? ⟨gA, 0, none⟩ = some (.bool sA) ∧ w'.cell? ⟨gA, 1, none⟩ = some (.slice qA nA cA') ∧ w'.cell? ⟨gQ, 0, none⟩ = some (.bool sQ) ∧ w'.cell? ⟨gQ, 1, none⟩ = some (.slice qQ nQ cQ') ∧ w'.cell? ⟨gQ, 2, none⟩ = some (.bool tQ) ∧ w'.cell? ⟨gQ, 3, none⟩ = some (.slice zQ mQ dQ) ∧ w'.cell? ⟨gR, 0, none⟩ = some (.bool sR) ∧ w'.cell? ⟨gR, 1, none⟩ = some (.slice qR nR cR') ∧ w'.cell? ⟨gR, 2, none⟩ = some (.bool tR) ∧ w'.cell? ⟨gR, 3, none⟩ = some (.slice zR mR dR) := by
    intro w' h
    obtain ⟨jA0, jA1⟩ := zcells (uA.later h)
    obtain ⟨jQ0, jQ1, jQ2, jQ3⟩ := pcells (uQ.later h)
    obtain ⟨jR0, jR1, jR2, jR3⟩ := pcells (uR.later h)
    exact ⟨jA0, jA1, jQ0, jQ1, jQ2, jQ3, jR0, jR1, jR2, jR3⟩
  go_cut [19] (fun v wx => ZnQ wY (((wv a0 - wv d0) * (wv a0 - wv d0) + (wv a1 - wv d1) * (wv a1 - wv d1)) * ((wv b0 - wv d0) * (wv c1 - wv d1) - (wv c0 - wv d0) * (wv b1 - wv d1))) 8000 v wx)
  case first =>
    have BwY := Below.refl wY.heap.size wY
    have ltA := uA.lt
    have ltQ := uQ.lt
    have ltR := uR.lt
    go_region_held3 (fun w' => w'.cell? ⟨gA, 0, none⟩ = some (.bool sA) ∧ w'.cell? ⟨gA, 1, none⟩ = some (.slice qA nA cA') ∧ w'.cell? ⟨gQ, 0, none⟩ = some (.bool sQ) ∧ w'.cell? ⟨gQ, 1, none⟩ = some (.slice qQ nQ cQ') ∧ w'.cell? ⟨gQ, 2, none⟩ = some (.bool tQ) ∧ w'.cell? ⟨gQ, 3, none⟩ = some (.slice zQ mQ dQ) ∧ w'.cell? ⟨gR, 0, none⟩ = some (.bool sR) ∧ w'.cell? ⟨gR, 1, none⟩ = some (.slice qR nR cR') ∧ w'.cell? ⟨gR, 2, none⟩ = some (.bool tR) ∧ w'.cell? ⟨gR, 3, none⟩ = some (.slice zR mR dR)) (go_keep) (first | (go_at_call_of 45 qQ; refine (zMul_at rQx (by omega) rRy (by omega) (by first | exact Below.refl _ _ | exact below_drewN (Below.refl _ _) _)).mono ?_; rintro e V1 ⟨sh, qh, nh, ch', rfl, Oh, szV1, bV1⟩; have BV1 := BwY.trans (bV1.mono BwY.size); have CV1 := bV1; replace rOx := rOx.later bV1; replace rOy := rOy.later bV1; replace rPx := rPx.later bV1; replace rPy := rPy.later bV1; replace rQx := rQx.later bV1; replace rQy := rQy.later bV1; replace rRx := rRx.later bV1; replace rRy := rRy.later bV1; replace rA := rA.later bV1; replace rB := rB.later bV1; replace rC := rC.later bV1; replace rX := rX.later bV1; replace rY := rY.later bV1; have rh := Oh.zr; obtain ⟨jA0, jA1, jQ0, jQ1, jQ2, jQ3, jR0, jR1, jR2, jR3⟩ := hcl V1 CV1; try (replace uN := uN.later bV1; obtain ⟨o0, o1⟩ := zcells uN; obtain ⟨p0, p1⟩ := zfrozen uN)) | (go_at_call_of 45 qQ; refine (zMul_any (rQx.later (below_drew_alloc wY (.cells #[.bool false, .slice none 0 0] 67))) (by omega) (rRy.later (below_drew_alloc wY (.cells #[.bool false, .slice none 0 0] 67))) (by omega)).mono ?_; rintro e V1 ⟨sh, qh, nh, ch', rfl, Oh, bX⟩; have al := (below_drew_alloc wY (.cells #[.bool false, .slice none 0 0] 67)); have bV1 := al.trans (bX.mono al.size); have BV1 := BwY.trans (bV1.mono BwY.size); have CV1 := bV1; replace rOx := rOx.later bV1; replace rOy := rOy.later bV1; replace rPx := rPx.later bV1; replace rPy := rPy.later bV1; replace rQx := rQx.later bV1; replace rQy := rQy.later bV1; replace rRx := rRx.later bV1; replace rRy := rRy.later bV1; replace rA := rA.later bV1; replace rB := rB.later bV1; replace rC := rC.later bV1; replace rX := rX.later bV1; replace rY := rY.later bV1; have rh := Oh.zr; obtain ⟨jA0, jA1, jQ0, jQ1, jQ2, jQ3, jR0, jR1, jR2, jR3⟩ := hcl V1 CV1; have uN : Pb V1 wY.heap.size 67 #[.bool false, .slice none 0 0] := (Pb.new wY.drew 67 #[.bool false, .slice none 0 0]).later bX; obtain ⟨o0, o1⟩ := zcells uN; obtain ⟨p0, p1⟩ := zfrozen uN; have gPs : wY.heap.size < V1.heap.size := uN.lt; have nW0 : ¬ gA = wY.heap.size := (by have := BwY.size; omega); have mW0 : ¬ wY.heap.size = gA := (by have := BwY.size; omega); have nW1 : ¬ gQ = wY.heap.size := (by have := BwY.size; omega); have mW1 : ¬ wY.heap.size = gQ := (by have := BwY.size; omega); have nW2 : ¬ gR = wY.heap.size := (by have := BwY.size; omega); have mW2 : ¬ wY.heap.size = gR := (by have := BwY.size; omega)) | (go_at_call_of 45 qR; refine (zMul_at rRx (by omega) rQy (by omega) (by first | exact Below.refl _ _ | exact below_drewN (Below.refl _ _) _)).mono ?_; rintro e V2 ⟨sk, qk, nk, ck', rfl, Ok, szV2, bV2⟩; have BV2 := BV1.trans (bV2.mono BV1.size); have CV2 := CV1.trans (bV2.mono CV1.size); replace rOx := rOx.later bV2; replace rOy := rOy.later bV2; replace rPx := rPx.later bV2; replace rPy := rPy.later bV2; replace rQx := rQx.later bV2; replace rQy := rQy.later bV2; replace rRx := rRx.later bV2; replace rRy := rRy.later bV2; replace rA := rA.later bV2; replace rB := rB.later bV2; replace rC := rC.later bV2; replace rX := rX.later bV2; replace rY := rY.later bV2; replace rh := rh.later bV2; have rk := Ok.zr; obtain ⟨jA0, jA1, jQ0, jQ1, jQ2, jQ3, jR0, jR1, jR2, jR3⟩ := hcl V2 CV2; try (replace uN := uN.later bV2; obtain ⟨o0, o1⟩ := zcells uN; obtain ⟨p0, p1⟩ := zfrozen uN)) | (go_at_call_of 45 qR; refine (zMul_any (rRx.later (alloc_below (w := V1) (.cells #[.bool false, .slice none 0 0] 67))) (by omega) (rQy.later (alloc_below (w := V1) (.cells #[.bool false, .slice none 0 0] 67))) (by omega)).mono ?_; rintro e V2 ⟨sk, qk, nk, ck', rfl, Ok, bX⟩; have al := (alloc_below (w := V1) (.cells #[.bool false, .slice none 0 0] 67)); have bV2 := al.trans (bX.mono al.size); have BV2 := BV1.trans (bV2.mono BV1.size); have CV2 := CV1.trans (bV2.mono CV1.size); replace rOx := rOx.later bV2; replace rOy := rOy.later bV2; replace rPx := rPx.later bV2; replace rPy := rPy.later bV2; replace rQx := rQx.later bV2; replace rQy := rQy.later bV2; replace rRx := rRx.later bV2; replace rRy := rRy.later bV2; replace rA := rA.later bV2; replace rB := rB.later bV2; replace rC := rC.later bV2; replace rX := rX.later bV2; replace rY := rY.later bV2; replace rh := rh.later bV2; have rk := Ok.zr; obtain ⟨jA0, jA1, jQ0, jQ1, jQ2, jQ3, jR0, jR1, jR2, jR3⟩ := hcl V2 CV2; have uN : Pb V2 V1.heap.size 67 #[.bool false, .slice none 0 0] := (Pb.new V1 67 #[.bool false, .slice none 0 0]).later bX; obtain ⟨o0, o1⟩ := zcells uN; obtain ⟨p0, p1⟩ := zfrozen uN; have gPs : V1.heap.size < V2.heap.size := uN.lt; have nW0 : ¬ gA = V1.heap.size := (by have := BV1.size; omega); have mW0 : ¬ V1.heap.size = gA := (by have := BV1.size; omega); have nW1 : ¬ gQ = V1.heap.size := (by have := BV1.size; omega); have mW1 : ¬ V1.heap.size = gQ := (by have := BV1.size; omega); have nW2 : ¬ gR = V1.heap.size := (by have := BV1.size; omega); have mW2 : ¬ V1.heap.size = gR := (by have := BV1.size; omega)) | (go_at_call_of 31 qh; refine (zSub_at rh (by omega) rk (by omega) (by first | exact Below.refl _ _ | exact below_drewN (Below.refl _ _) _)).mono ?_; rintro e V3 ⟨sl, ql, nl, cl', rfl, Ol, szV3, bV3⟩; have BV3 := BV2.trans (bV3.mono BV2.size); have CV3 := CV2.trans (bV3.mono CV2.size); replace rOx := rOx.later bV3; replace rOy := rOy.later bV3; replace rPx := rPx.later bV3; replace rPy := rPy.later bV3; replace rQx := rQx.later bV3; replace rQy := rQy.later bV3; replace rRx := rRx.later bV3; replace rRy := rRy.later bV3; replace rA := rA.later bV3; replace rB := rB.later bV3; replace rC := rC.later bV3; replace rX := rX.later bV3; replace rY := rY.later bV3; replace rh := rh.later bV3; replace rk := rk.later bV3; have rl := Ol.zr; obtain ⟨jA0, jA1, jQ0, jQ1, jQ2, jQ3, jR0, jR1, jR2, jR3⟩ := hcl V3 CV3; try (replace uN := uN.later bV3; obtain ⟨o0, o1⟩ := zcells uN; obtain ⟨p0, p1⟩ := zfrozen uN)) | (go_at_call_of 31 qh; refine (zSub_any (rh.later (alloc_below (w := V2) (.cells #[.bool false, .slice none 0 0] 67))) (by omega) (rk.later (alloc_below (w := V2) (.cells #[.bool false, .slice none 0 0] 67))) (by omega)).mono ?_; rintro e V3 ⟨sl, ql, nl, cl', rfl, Ol, bX⟩; have al := (alloc_below (w := V2) (.cells #[.bool false, .slice none 0 0] 67)); have bV3 := al.trans (bX.mono al.size); have BV3 := BV2.trans (bV3.mono BV2.size); have CV3 := CV2.trans (bV3.mono CV2.size); replace rOx := rOx.later bV3; replace rOy := rOy.later bV3; replace rPx := rPx.later bV3; replace rPy := rPy.later bV3; replace rQx := rQx.later bV3; replace rQy := rQy.later bV3; replace rRx := rRx.later bV3; replace rRy := rRy.later bV3; replace rA := rA.later bV3; replace rB := rB.later bV3; replace rC := rC.later bV3; replace rX := rX.later bV3; replace rY := rY.later bV3; replace rh := rh.later bV3; replace rk := rk.later bV3; have rl := Ol.zr; obtain ⟨jA0, jA1, jQ0, jQ1, jQ2, jQ3, jR0, jR1, jR2, jR3⟩ := hcl V3 CV3; have uN : Pb V3 V2.heap.size 67 #[.bool false, .slice none 0 0] := (Pb.new V2 67 #[.bool false, .slice none 0 0]).later bX; obtain ⟨o0, o1⟩ := zcells uN; obtain ⟨p0, p1⟩ := zfrozen uN; have gPs : V2.heap.size < V3.heap.size := uN.lt; have nW0 : ¬ gA = V2.heap.size := (by have := BV2.size; omega); have mW0 : ¬ V2.heap.size = gA := (by have := BV2.size; omega); have nW1 : ¬ gQ = V2.heap.size := (by have := BV2.size; omega); have mW1 : ¬ V2.heap.size = gQ := (by have := BV2.size; omega); have nW2 : ¬ gR = V2.heap.size := (by have := BV2.size; omega); have mW2 : ¬ V2.heap.size = gR := (by have := BV2.size; omega)) | (go_at_call_of 45 ql; refine (zMul_at rA (by omega) rl (by omega) (by first | exact Below.refl _ _ | exact below_drewN (Below.refl _ _) _)).mono ?_; rintro e V4 ⟨sv, qv, nv, cv', rfl, Ov, szV4, bV4⟩; have BV4 := BV3.trans (bV4.mono BV3.size); have CV4 := CV3.trans (bV4.mono CV3.size); replace rOx := rOx.later bV4; replace rOy := rOy.later bV4; replace rPx := rPx.later bV4; replace rPy := rPy.later bV4; replace rQx := rQx.later bV4; replace rQy := rQy.later bV4; replace rRx := rRx.later bV4; replace rRy := rRy.later bV4; replace rA := rA.later bV4; replace rB := rB.later bV4; replace rC := rC.later bV4; replace rX := rX.later bV4; replace rY := rY.later bV4; replace rh := rh.later bV4; replace rk := rk.later bV4; replace rl := rl.later bV4; have rv := Ov.zr; obtain ⟨jA0, jA1, jQ0, jQ1, jQ2, jQ3, jR0, jR1, jR2, jR3⟩ := hcl V4 CV4; try (replace uN := uN.later bV4; obtain ⟨o0, o1⟩ := zcells uN; obtain ⟨p0, p1⟩ := zfrozen uN)) | (go_at_call_of 45 ql; refine (zMul_any (rA.later (alloc_below (w := V3) (.cells #[.bool false, .slice none 0 0] 67))) (by omega) (rl.later (alloc_below (w := V3) (.cells #[.bool false, .slice none 0 0] 67))) (by omega)).mono ?_; rintro e V4 ⟨sv, qv, nv, cv', rfl, Ov, bX⟩; have al := (alloc_below (w := V3) (.cells #[.bool false, .slice none 0 0] 67)); have bV4 := al.trans (bX.mono al.size); have BV4 := BV3.trans (bV4.mono BV3.size); have CV4 := CV3.trans (bV4.mono CV3.size); replace rOx := rOx.later bV4; replace rOy := rOy.later bV4; replace rPx := rPx.later bV4; replace rPy := rPy.later bV4; replace rQx := rQx.later bV4; replace rQy := rQy.later bV4; replace rRx := rRx.later bV4; replace rRy := rRy.later bV4; replace rA := rA.later bV4; replace rB := rB.later bV4; replace rC := rC.later bV4; replace rX := rX.later bV4; replace rY := rY.later bV4; replace rh := rh.later bV4; replace rk := rk.later bV4; replace rl := rl.later bV4; have rv := Ov.zr; obtain ⟨jA0, jA1, jQ0, jQ1, jQ2, jQ3, jR0, jR1, jR2, jR3⟩ := hcl V4 CV4; have uN : Pb V4 V3.heap.size 67 #[.bool false, .slice none 0 0] := (Pb.new V3 67 #[.bool false, .slice none 0 0]).later bX; obtain ⟨o0, o1⟩ := zcells uN; obtain ⟨p0, p1⟩ := zfrozen uN; have gPs : V3.heap.size < V4.heap.size := uN.lt; have nW0 : ¬ gA = V3.heap.size := (by have := BV3.size; omega); have mW0 : ¬ V3.heap.size = gA := (by have := BV3.size; omega); have nW1 : ¬ gQ = V3.heap.size := (by have := BV3.size; omega); have mW1 : ¬ V3.heap.size = gQ := (by have := BV3.size; omega); have nW2 : ¬ gR = V3.heap.size := (by have := BV3.size; omega); have mW2 : ¬ V3.heap.size = gR := (by have := BV3.size; omega)))
    all_goals (first | (have hrel := znq_set (l := 8000) BV4 uN rfl Ov (by omega) (by omega) (by omega)) | (have hrel := znq_set (l := 8000) BV4 uN rfl Ov (by first | omega | (simp; done) | ((try have := bV1.size); (try have := bV2.size); (try have := bV3.size); (try have := bV4.size); omega)) (by have := BV1.size; have := BV2.size; have := BV3.size; have := BV4.size; omega) (by omega)) | (have hrel := znq_new (l := 8000) BV4 Ov (by omega)))
    all_goals ((try clear gPs); (try clear bX); (try clear al); (try clear uN); (try clear o0); (try clear o1); (try clear o2); (try clear o3); (try clear p0); (try clear p1); (try clear p2); (try clear p3); (try clear nW0); (try clear nW1); (try clear nW2); (try clear nW3); (try clear nW4); (try clear nW5); (try clear mW0); (try clear mW1); (try clear mW2); (try clear mW3); (try clear mW4); (try clear mW5); (try clear rOx); (try clear OOx); (try clear rOy); (try clear OOy); (try clear rPx); (try clear OPx); (try clear rPy); (try clear OPy); (try clear rQx); (try clear OQx); (try clear rQy); (try clear OQy); (try clear rRx); (try clear ORx); (try clear rRy); (try clear ORy); (try clear rA); (try clear OA); (try clear rB); (try clear OB); (try clear rC); (try clear OC); (try clear rX); (try clear OX); (try clear rY); (try clear OY); (try clear rh); (try clear Oh); (try clear rk); (try clear Ok); (try clear rl); (try clear Ol); (try clear rv); (try clear Ov); (try clear szV4); (try clear bV4); (try clear CV4); (try clear BV4); (try clear szV3); (try clear bV3); (try clear CV3); (try clear BV3); (try clear szV2); (try clear bV2); (try clear CV2); (try clear BV2); (try clear szV1); (try clear bV1); (try clear CV1); (try clear BV1); (try clear ja0); (try clear ja1); (try clear ja2); (try clear ja3); (try clear lta); (try clear jb0); (try clear jb1); (try clear jb2); (try clear jb3); (try clear ltb); (try clear jc0); (try clear jc1); (try clear jc2); (try clear jc3); (try clear ltc); (try clear jd0); (try clear jd1); (try clear jd2); (try clear jd3); (try clear ltd); (try clear jO0); (try clear jO1); (try clear jO2); (try clear jO3); (try clear ltO); (try clear jP0); (try clear jP1); (try clear jP2); (try clear jP3); (try clear ltP); (try clear jQ0); (try clear jQ1); (try clear jQ2); (try clear jQ3); (try clear ltQ); (try clear jR0); (try clear jR1); (try clear jR2); (try clear jR3); (try clear ltR); (try clear jA0); (try clear jA1); (try clear jA2); (try clear jA3); (try clear ltA); (try clear jB0); (try clear jB1); (try clear jB2); (try clear jB3); (try clear ltB); (try clear jC0); (try clear jC1); (try clear jC2); (try clear jC3); (try clear ltC); (try clear jX0); (try clear jX1); (try clear jX2); (try clear jX3); (try clear ltX); (try clear jY0); (try clear jY1); (try clear jY2); (try clear jY3); (try clear ltY); (try clear hcl); (try clear BwY); (try clear ua); (try clear ub); (try clear uc); (try clear ud); (try clear uO); (try clear uP); (try clear uQ); (try clear uR); (try clear uA); (try clear uB); (try clear uC); (try clear uX); (try clear uY); (try clear B2); (try clear D); (try clear ua0); (try clear ua1); (try clear ub0); (try clear ub1); (try clear uc0); (try clear uc1); (try clear ud0); (try clear ud1); (try clear fa0); (try clear fa1); (try clear fb0); (try clear fb1); (try clear fc0); (try clear fc1); (try clear fd0); (try clear fd1))
    all_goals go_wp2
    all_goals (go_meet; exact hrel)
  obtain ⟨gZ, sZ, qZ, nZ, cZ', rfl, uZ, rZ, hbP⟩ := hcut
  clear hcl
  replace ua := ua.later hbP
  replace ub := ub.later hbP
  replace uc := uc.later hbP
  replace ud := ud.later hbP
  replace uO := uO.later hbP
  replace uP := uP.later hbP
  replace uQ := uQ.later hbP
  replace uR := uR.later hbP
  replace uA := uA.later hbP
  replace uB := uB.later hbP
  replace uC := uC.later hbP
  replace uX := uX.later hbP
  replace uY := uY.later hbP
  replace rOx := rOx.later hbP
  replace rOy := rOy.later hbP
  replace rPx := rPx.later hbP
  replace rPy := rPy.later hbP
  replace rQx := rQx.later hbP
  replace rQy := rQy.later hbP
  replace rRx := rRx.later hbP
  replace rRy := rRy.later hbP
  replace rA := rA.later hbP
  replace rB := rB.later hbP
  replace rC := rC.later hbP
  replace rX := rX.later hbP
  replace rY := rY.later hbP
  replace D := D.trans (hbP.mono D.size)
  clear hbP
  obtain ⟨wZ, rfl⟩ : ∃ ww, ww = wc := ⟨_, rfl⟩
  obtain ⟨ja0, ja1⟩ := zcells ua
  obtain ⟨jb0, jb1⟩ := zcells ub
  obtain ⟨jc0, jc1⟩ := zcells uc
  obtain ⟨jd0, jd1⟩ := zcells ud
  obtain ⟨jO0, jO1, jO2, jO3⟩ := pcells uO
  obtain ⟨jP0, jP1, jP2, jP3⟩ := pcells uP
  obtain ⟨jQ0, jQ1, jQ2, jQ3⟩ := pcells uQ
  obtain ⟨jR0, jR1, jR2, jR3⟩ := pcells uR
  obtain ⟨jA0, jA1⟩ := zcells uA
  obtain ⟨jB0, jB1⟩ := zcells uB
  obtain ⟨jC0, jC1⟩ := zcells uC
  obtain ⟨jX0, jX1⟩ := zcells uX
  obtain ⟨jY0, jY1⟩ := zcells uY
  obtain ⟨jZ0, jZ1⟩ := zcells uZ
  go_upto_region 13 with fail
  have hcl : ∀ w', Below wZ.heap.size wZ w' → w'.cell? ⟨gX, 0, none⟩ = some (.bool sX) ∧ w'.cell? ⟨gX, 1, none⟩ = some (.slice qX nX cX') ∧ w'.cell? ⟨gY, 0, none⟩ = some (.bool sY) ∧ w'.cell? ⟨gY, 1, none⟩ = some (.slice qY nY cY') ∧ w'.cell? ⟨gZ, 0, none⟩ = some (.bool sZ) ∧ w'.cell? ⟨gZ, 1, none⟩ = some (.slice qZ nZ cZ') := by
    intro w' h
    obtain ⟨jX0, jX1⟩ := zcells (uX.later h)
    obtain ⟨jY0, jY1⟩ := zcells (uY.later h)
    obtain ⟨jZ0, jZ1⟩ := zcells (uZ.later h)
    exact ⟨jX0, jX1, jY0, jY1, jZ0, jZ1⟩
  have BwZ := D
  go_region_held3 (fun w' => w'.cell? ⟨gX, 0, none⟩ = some (.bool sX) ∧ w'.cell? ⟨gX, 1, none⟩ = some (.slice qX nX cX') ∧ w'.cell? ⟨gY, 0, none⟩ = some (.bool sY) ∧ w'.cell? ⟨gY, 1, none⟩ = some (.slice qY nY cY') ∧ w'.cell? ⟨gZ, 0, none⟩ = some (.bool sZ) ∧ w'.cell? ⟨gZ, 1, none⟩ = some (.slice qZ nZ cZ')) (go_keep) (first | (go_at_call_of 31 qX; refine (zSub_at rX (by omega) rY (by omega) (by first | exact Below.refl _ _ | exact below_drewN (Below.refl _ _) _)).mono ?_; rintro e W1 ⟨sh, qh, nh, ch', rfl, Oh, szW1, bW1⟩; have BW1 := BwZ.trans (bW1.mono BwZ.size); have CW1 := bW1; replace rX := rX.later bW1; replace rY := rY.later bW1; replace rZ := rZ.later bW1; have rh := Oh.zr; obtain ⟨jX0, jX1, jY0, jY1, jZ0, jZ1⟩ := hcl W1 CW1) | (go_at_call_of 46 qh; refine (zAdd_at rh (by omega) rZ (by omega) (by first | exact Below.refl _ _ | exact below_drewN (Below.refl _ _) _)).mono ?_; rintro e W2 ⟨sk, qk, nk, ck', rfl, Ok, szW2, bW2⟩; have BW2 := BW1.trans (bW2.mono BW1.size); have CW2 := CW1.trans (bW2.mono CW1.size); replace rX := rX.later bW2; replace rY := rY.later bW2; replace rZ := rZ.later bW2; replace rh := rh.later bW2; have rk := Ok.zr; obtain ⟨jX0, jX1, jY0, jY1, jZ0, jZ1⟩ := hcl W2 CW2) | (go_at_call_of 29 qk; refine (zSign_at rk (by omega) (by first | exact Below.refl _ _ | exact below_drewN (Below.refl _ _) _)).mono ?_; rintro e W3 ⟨rfl, bW3⟩; have BW3 := BW2.trans (bW3.mono BW2.size); have CW3 := CW2.trans (bW3.mono CW2.size); replace rX := rX.later bW3; replace rY := rY.later bW3; replace rZ := rZ.later bW3; replace rh := rh.later bW3; replace rk := rk.later bW3; obtain ⟨jX0, jX1, jY0, jY1, jZ0, jZ1⟩ := hcl W3 CW3))
  go_wp2
  go_ret2
  exact ⟨rfl, BW3⟩
end Go.Proofs.YtbonkgmcpjaepabGreat

/- plumbref22: Between (written by genzj.py). -/
namespace Go.Proofs.YtbonkgmcpjaepabGreat
open Go.ChangeShapes Go.WideShapes Go.ChangeAt Go.RowKit
open Na Ar
set_option linter.unusedVariables false
set_option maxHeartbeats 6400000 in
set_option maxRecDepth 100000 in
theorem zBetween_fin {w : World} {a0 a1 : Int} {b0 b1 : Int} {c0 c1 : Int} (ua0 : U a0) (ua1 : U a1) (ub0 : U b0) (ub1 : U b1) (uc0 : U c0) (uc1 : U c1) (fa0 : ef a0 ≠ 2047) (fa1 : ef a1 ≠ 2047) (fb0 : ef b0 ≠ 2047) (fb1 : ef b1 ≠ 2047) (fc0 : ef c0 ≠ 2047) (fc1 : ef c1 ≠ 2047) (hfin : ∀ i, i < 3 → fin2 ([(a0, a1), (b0, b1), (c0, c1)].getD i (0, 0))) :
    Calls Tryz.prog 19 #[.agg #[.int .u64 a0, .int .u64 a1], .agg #[.int .u64 b0, .int .u64 b1], .agg #[.int .u64 c0, .int .u64 c1]] w fun e w' => e = .returned (.tuple #[.bool ((sgI (crI (wv a0) (wv a1) (wv b0) (wv b1) (wv c0) (wv c1)) == 0) && (decide (sgI (wv c0 - wv a0) * sgI (wv c0 - wv b0) ≤ 0) && decide (sgI (wv c1 - wv a1) * sgI (wv c1 - wv b1) ≤ 0))), .int .i64 0]) ∧ Below w.heap.size w w' := by
  obtain ⟨S, hS⟩ : ∃ S, sgI (crI (wv a0) (wv a1) (wv b0) (wv b1) (wv c0) (wv c1)) = S := ⟨_, rfl⟩
  obtain ⟨I1, hI1⟩ : ∃ I1, decide (sgI (wv c0 - wv a0) * sgI (wv c0 - wv b0) ≤ 0) = I1 := ⟨_, rfl⟩
  obtain ⟨I2, hI2⟩ : ∃ I2, decide (sgI (wv c1 - wv a1) * sgI (wv c1 - wv b1) ≤ 0) = I2 := ⟨_, rfl⟩
  rw [hS, hI1, hI2]
  have HS := HL.mk hS
  have H1 := HL.mk hI1
  have H2 := HL.mk hI2
  clear hS hI1 hI2
  obtain ⟨w0, hw0, u0, u1, u2, hb0, e0⟩ := blocks3 w #[.int .u64 a0, .int .u64 a1] #[.int .u64 b0, .int .u64 b1] #[.int .u64 c0, .int .u64 c1] 34 34 34
  have hPt := ptAt3 w0 34 (u2_of ua0 ua1) (u2_of ub0 ub1) (u2_of uc0 uc1)
  have al := alloc_below (w := w0) (.cells #[.int .u64 a0, .int .u64 a1, .int .u64 b0, .int .u64 b1, .int .u64 c0, .int .u64 c1] 34)
  have hq := zFinite_any (c := 3) hPt (by omega)
  have hB1 := hb0.trans (al.mono hb0.size)
  replace u0 := u0.later al
  replace u1 := u1.later al
  replace u2 := u2.later al
  obtain ⟨g, hg⟩ : ∃ g, g = w.heap.size := ⟨_, rfl⟩
  have hs : w0.heap.size = g + 1 + 1 + 1 := by omega
  rw [hs] at hq
  rw [← hg] at u0 u1 u2
  clear hPt e0 al hs
  go_enter Tryz.func19, Tryz.ntmps19
  go_wp2_with fail
  rw [← hw0, ← hg]
  clear hw0 hg
  generalize w0.alloc (.cells #[.int .u64 a0, .int .u64 a1, .int .u64 b0, .int .u64 b1, .int .u64 c0, .int .u64 c1] 34) = w1 at *
  refine hq.mono ?_
  rintro e w2 ⟨FB, rfl, hFB, hb2⟩
  obtain rfl : FB = true := hFB.mpr hfin
  have B2 := hB1.trans (hb2.mono hB1.size)
  replace u0 := u0.later hb2
  obtain ⟨j00, j01⟩ := zcells u0
  replace u1 := u1.later hb2
  obtain ⟨j10, j11⟩ := zcells u1
  replace u2 := u2.later hb2
  obtain ⟨j20, j21⟩ := zcells u2
  clear hq hFB hfin hB1 hb2 hb0
  have ua := u0
  have ub := u1
  have uc := u2
  clear u0 u1 u2
  have D := B2
  clear B2
  obtain ⟨ja0, ja1⟩ := zcells ua
  obtain ⟨jb0, jb1⟩ := zcells ub
  obtain ⟨jc0, jc1⟩ := zcells uc
  go_wp2_with fail
  refine (zAt_any ua0 ua1 fa0 fa1).mono ?_
  rintro e vX ⟨sX, qX, nX, cX', tX, zX, mX, dX, rfl, OXx, OXy, hbA⟩
  have al := alloc_below (w := vX) (.cells #[.bool sX, .slice qX nX cX', .bool tX, .slice zX mX dX] 72)
  have uX := Pb.new vX 72 #[.bool sX, .slice qX nX cX', .bool tX, .slice zX mX dX]
  replace ua := ua.later (hbA.trans (al.mono hbA.size))
  replace ub := ub.later (hbA.trans (al.mono hbA.size))
  replace uc := uc.later (hbA.trans (al.mono hbA.size))
  have rXx := OXx.zr.later al
  have rXy := OXy.zr.later al
  replace D := D.trans ((hbA.trans (al.mono hbA.size)).mono D.size)
  clear al hbA OXx OXy
  obtain ⟨ja0, ja1⟩ := zcells ua
  obtain ⟨jb0, jb1⟩ := zcells ub
  obtain ⟨jc0, jc1⟩ := zcells uc
  obtain ⟨jX0, jX1, jX2, jX3⟩ := pcells uX
  go_wp2_with fail
  generalize vX.alloc (.cells #[.bool sX, .slice qX nX cX', .bool tX, .slice zX mX dX] 72) = wX at *
  generalize vX.heap.size = gX at *
  refine (zAt_any ub0 ub1 fb0 fb1).mono ?_
  rintro e vY ⟨sY, qY, nY, cY', tY, zY, mY, dY, rfl, OYx, OYy, hbA⟩
  have al := alloc_below (w := vY) (.cells #[.bool sY, .slice qY nY cY', .bool tY, .slice zY mY dY] 72)
  have uY := Pb.new vY 72 #[.bool sY, .slice qY nY cY', .bool tY, .slice zY mY dY]
  replace ua := ua.later (hbA.trans (al.mono hbA.size))
  replace ub := ub.later (hbA.trans (al.mono hbA.size))
  replace uc := uc.later (hbA.trans (al.mono hbA.size))
  replace uX := uX.later (hbA.trans (al.mono hbA.size))
  replace rXx := rXx.later (hbA.trans (al.mono hbA.size))
  replace rXy := rXy.later (hbA.trans (al.mono hbA.size))
  have rYx := OYx.zr.later al
  have rYy := OYy.zr.later al
  replace D := D.trans ((hbA.trans (al.mono hbA.size)).mono D.size)
  clear al hbA OYx OYy
  obtain ⟨ja0, ja1⟩ := zcells ua
  obtain ⟨jb0, jb1⟩ := zcells ub
  obtain ⟨jc0, jc1⟩ := zcells uc
  obtain ⟨jX0, jX1, jX2, jX3⟩ := pcells uX
  obtain ⟨jY0, jY1, jY2, jY3⟩ := pcells uY
  go_wp2_with fail
  generalize vY.alloc (.cells #[.bool sY, .slice qY nY cY', .bool tY, .slice zY mY dY] 72) = wY at *
  generalize vY.heap.size = gY at *
  refine (zAt_any uc0 uc1 fc0 fc1).mono ?_
  rintro e vZ ⟨sZ, qZ, nZ, cZ', tZ, zZ, mZ, dZ, rfl, OZx, OZy, hbA⟩
  have al := alloc_below (w := vZ) (.cells #[.bool sZ, .slice qZ nZ cZ', .bool tZ, .slice zZ mZ dZ] 72)
  have uZ := Pb.new vZ 72 #[.bool sZ, .slice qZ nZ cZ', .bool tZ, .slice zZ mZ dZ]
  replace ua := ua.later (hbA.trans (al.mono hbA.size))
  replace ub := ub.later (hbA.trans (al.mono hbA.size))
  replace uc := uc.later (hbA.trans (al.mono hbA.size))
  replace uX := uX.later (hbA.trans (al.mono hbA.size))
  replace uY := uY.later (hbA.trans (al.mono hbA.size))
  replace rXx := rXx.later (hbA.trans (al.mono hbA.size))
  replace rXy := rXy.later (hbA.trans (al.mono hbA.size))
  replace rYx := rYx.later (hbA.trans (al.mono hbA.size))
  replace rYy := rYy.later (hbA.trans (al.mono hbA.size))
  have rZx := OZx.zr.later al
  have rZy := OZy.zr.later al
  replace D := D.trans ((hbA.trans (al.mono hbA.size)).mono D.size)
  clear al hbA OZx OZy
  obtain ⟨ja0, ja1⟩ := zcells ua
  obtain ⟨jb0, jb1⟩ := zcells ub
  obtain ⟨jc0, jc1⟩ := zcells uc
  obtain ⟨jX0, jX1, jX2, jX3⟩ := pcells uX
  obtain ⟨jY0, jY1, jY2, jY3⟩ := pcells uY
  obtain ⟨jZ0, jZ1, jZ2, jZ3⟩ := pcells uZ
  go_wp2_with fail
  generalize vZ.alloc (.cells #[.bool sZ, .slice qZ nZ cZ', .bool tZ, .slice zZ mZ dZ] 72) = wZ at *
  generalize vZ.heap.size = gZ at *
  refine (zTurn_any ua0 ua1 fa0 fa1 ub0 ub1 fb0 fb1 uc0 uc1 fc0 fc1).mono ?_
  rintro e w6 ⟨st, qt, nt, ct, rfl, OT, hb⟩
  replace ua := ua.later hb
  replace ub := ub.later hb
  replace uc := uc.later hb
  replace uX := uX.later hb
  replace uY := uY.later hb
  replace uZ := uZ.later hb
  replace rXx := rXx.later hb
  replace rXy := rXy.later hb
  replace rYx := rYx.later hb
  replace rYy := rYy.later hb
  replace rZx := rZx.later hb
  replace rZy := rZy.later hb
  replace D := D.trans (hb.mono D.size)
  have cS := zSign_any OT.zr (by omega)
  rw [show ((wv b0 - wv a0) * (wv c1 - wv a1) - (wv b1 - wv a1) * (wv c0 - wv a0)) = crI (wv a0) (wv a1) (wv b0) (wv b1) (wv c0) (wv c1) from rfl, HS.out] at cS
  clear hb OT
  obtain ⟨ja0, ja1⟩ := zcells ua
  obtain ⟨jb0, jb1⟩ := zcells ub
  obtain ⟨jc0, jc1⟩ := zcells uc
  obtain ⟨jX0, jX1, jX2, jX3⟩ := pcells uX
  obtain ⟨jY0, jY1, jY2, jY3⟩ := pcells uY
  obtain ⟨jZ0, jZ1, jZ2, jZ3⟩ := pcells uZ
  go_wp2_with fail
  refine (cS).mono ?_
  rintro e w7 ⟨rfl, hb⟩
  replace ua := ua.later hb
  replace ub := ub.later hb
  replace uc := uc.later hb
  replace uX := uX.later hb
  replace uY := uY.later hb
  replace uZ := uZ.later hb
  replace rXx := rXx.later hb
  replace rXy := rXy.later hb
  replace rYx := rYx.later hb
  replace rYy := rYy.later hb
  replace rZx := rZx.later hb
  replace rZy := rZy.later hb
  replace D := D.trans (hb.mono D.size)
  clear hb cS
  obtain ⟨ja0, ja1⟩ := zcells ua
  obtain ⟨jb0, jb1⟩ := zcells ub
  obtain ⟨jc0, jc1⟩ := zcells uc
  obtain ⟨jX0, jX1, jX2, jX3⟩ := pcells uX
  obtain ⟨jY0, jY1, jY2, jY3⟩ := pcells uY
  obtain ⟨jZ0, jZ1, jZ2, jZ3⟩ := pcells uZ
  by_cases h0 : S = 0
  · subst h0
    have k1 := zInside_any rXx (by omega) rYx (by omega) rZx (by omega)
    rw [H1.out] at k1
    go_wp2_with fail
    refine (k1).mono ?_
    rintro e w8 ⟨rfl, hb⟩
    replace ua := ua.later hb
    replace ub := ub.later hb
    replace uc := uc.later hb
    replace uX := uX.later hb
    replace uY := uY.later hb
    replace uZ := uZ.later hb
    replace rXx := rXx.later hb
    replace rXy := rXy.later hb
    replace rYx := rYx.later hb
    replace rYy := rYy.later hb
    replace rZx := rZx.later hb
    replace rZy := rZy.later hb
    replace D := D.trans (hb.mono D.size)
    clear hb k1
    obtain ⟨ja0, ja1⟩ := zcells ua
    obtain ⟨jb0, jb1⟩ := zcells ub
    obtain ⟨jc0, jc1⟩ := zcells uc
    obtain ⟨jX0, jX1, jX2, jX3⟩ := pcells uX
    obtain ⟨jY0, jY1, jY2, jY3⟩ := pcells uY
    obtain ⟨jZ0, jZ1, jZ2, jZ3⟩ := pcells uZ
    cases I1
    · go_wp2
      go_ret2
      exact ⟨rfl, D⟩
    · have k2 := zInside_any rXy (by omega) rYy (by omega) rZy (by omega)
      rw [H2.out] at k2
      go_wp2_with fail
      refine k2.mono ?_
      rintro e w9 ⟨rfl, hb⟩
      have D9 := D.trans (hb.mono D.size)
      go_wp2
      go_ret2
      exact ⟨rfl, D9⟩
  · have t1 : (S == 0) = false := beq_no h0
    have t2 : Hid (((S == 0) && (I1 && I2)) = false) := by show _ = _; rw [t1]; rfl
    clear h0
    go_wp2
    go_ret2
    exact ⟨by rw [t2.out]; rfl, D⟩
end Go.Proofs.YtbonkgmcpjaepabGreat

/- plumblaw22: PredAsks of any four points (written by genzq.py). -/
namespace Go.Proofs.YtbonkgmcpjaepabGreat
open Go.ChangeShapes Go.WideShapes Go.ChangeAt Go.RowKit
open Na Ar
set_option linter.unusedVariables false
section
variable {x0 x1 x2 x3 x4 x5 x6 x7 : Int}
theorem alikeOrient (ua : U2 (x0, x1)) (ub : U2 (x2, x3)) (uc : U2 (x4, x5)) : ∃ N E : Int, (∀ w, Calls Tryz.prog 11 #[.agg #[.int .u64 x0, .int .u64 x1], .agg #[.int .u64 x2, .int .u64 x3], .agg #[.int .u64 x4, .int .u64 x5]] w fun e w' => e = .returned (.tuple #[.int .i64 N, .int .i64 E]) ∧ Below w.heap.size w w') ∧ (∀ w, Calls Tryz.prog 12 #[.agg #[.int .u64 x0, .int .u64 x1], .agg #[.int .u64 x2, .int .u64 x3], .agg #[.int .u64 x4, .int .u64 x5]] w fun e w' => e = .returned (.tuple #[.int .i64 N, .int .i64 E]) ∧ Below w.heap.size w w') := by
  by_cases h : fin2 (x0, x1) ∧ fin2 (x2, x3) ∧ fin2 (x4, x5)
  · obtain ⟨fa, fb, fc⟩ := h
    exact ⟨_, _, fun w => pOrient_fin ua ub uc fa fb fc, fun w => zOrient_fin ua.1 ua.2 ub.1 ub.2 uc.1 uc.2 fa.1 fa.2 fb.1 fb.2 fc.1 fc.2 (fin3_of fa fb fc)⟩
  · exact ⟨_, _, fun w => Orient22_inf (a := (x0, x1)) (b := (x2, x3)) (c := (x4, x5)) ua ub uc h, fun w => zOrient_inf ua.1 ua.2 ub.1 ub.2 uc.1 uc.2 (fun h' => h ⟨h' 0 (by omega), h' 1 (by omega), h' 2 (by omega)⟩)⟩
theorem alikeInCircle (ua : U2 (x0, x1)) (ub : U2 (x2, x3)) (uc : U2 (x4, x5)) (ud : U2 (x6, x7)) : ∃ N E : Int, (∀ w, Calls Tryz.prog 16 #[.agg #[.int .u64 x0, .int .u64 x1], .agg #[.int .u64 x2, .int .u64 x3], .agg #[.int .u64 x4, .int .u64 x5], .agg #[.int .u64 x6, .int .u64 x7]] w fun e w' => e = .returned (.tuple #[.int .i64 N, .int .i64 E]) ∧ Below w.heap.size w w') ∧ (∀ w, Calls Tryz.prog 17 #[.agg #[.int .u64 x0, .int .u64 x1], .agg #[.int .u64 x2, .int .u64 x3], .agg #[.int .u64 x4, .int .u64 x5], .agg #[.int .u64 x6, .int .u64 x7]] w fun e w' => e = .returned (.tuple #[.int .i64 N, .int .i64 E]) ∧ Below w.heap.size w w') := by
  by_cases h : fin2 (x0, x1) ∧ fin2 (x2, x3) ∧ fin2 (x4, x5) ∧ fin2 (x6, x7)
  · obtain ⟨fa, fb, fc, fd⟩ := h
    exact ⟨_, _, fun w => pInCircle_fin ua ub uc ud fa fb fc fd, fun w => zInCircle_fin ua.1 ua.2 ub.1 ub.2 uc.1 uc.2 ud.1 ud.2 fa.1 fa.2 fb.1 fb.2 fc.1 fc.2 fd.1 fd.2 (fin4_of fa fb fc fd)⟩
  · exact ⟨_, _, fun w => InCircle22_inf (a := (x0, x1)) (b := (x2, x3)) (c := (x4, x5)) (d := (x6, x7)) ua ub uc ud h, fun w => zInCircle_inf ua.1 ua.2 ub.1 ub.2 uc.1 uc.2 ud.1 ud.2 (fun h' => h ⟨h' 0 (by omega), h' 1 (by omega), h' 2 (by omega), h' 3 (by omega)⟩)⟩
theorem alikeBetween (ua : U2 (x0, x1)) (ub : U2 (x2, x3)) (uc : U2 (x4, x5)) : ∃ (B : Bool) (E : Int), (∀ w, Calls Tryz.prog 18 #[.agg #[.int .u64 x0, .int .u64 x1], .agg #[.int .u64 x2, .int .u64 x3], .agg #[.int .u64 x4, .int .u64 x5]] w fun e w' => e = .returned (.tuple #[.bool B, .int .i64 E]) ∧ Below w.heap.size w w') ∧ (∀ w, Calls Tryz.prog 19 #[.agg #[.int .u64 x0, .int .u64 x1], .agg #[.int .u64 x2, .int .u64 x3], .agg #[.int .u64 x4, .int .u64 x5]] w fun e w' => e = .returned (.tuple #[.bool B, .int .i64 E]) ∧ Below w.heap.size w w') := by
  by_cases h : fin2 (x0, x1) ∧ fin2 (x2, x3) ∧ fin2 (x4, x5)
  · obtain ⟨fa, fb, fc⟩ := h
    exact ⟨_, _, fun w => pBetween_fin ua ub uc fa fb fc, fun w => zBetween_fin ua.1 ua.2 ub.1 ub.2 uc.1 uc.2 fa.1 fa.2 fb.1 fb.2 fc.1 fc.2 (fin3_of fa fb fc)⟩
  · exact ⟨_, _, fun w => Between22_inf (a := (x0, x1)) (b := (x2, x3)) (c := (x4, x5)) ua ub uc h, fun w => zBetween_inf ua.1 ua.2 ub.1 ub.2 uc.1 uc.2 (fun h' => h ⟨h' 0 (by omega), h' 1 (by omega), h' 2 (by omega)⟩)⟩
theorem alikeNearer (ua : U2 (x0, x1)) (ub : U2 (x2, x3)) (uc : U2 (x4, x5)) (ud : U2 (x6, x7)) : ∃ N E : Int, (∀ w, Calls Tryz.prog 20 #[.agg #[.int .u64 x0, .int .u64 x1], .agg #[.int .u64 x2, .int .u64 x3], .agg #[.int .u64 x4, .int .u64 x5], .agg #[.int .u64 x6, .int .u64 x7]] w fun e w' => e = .returned (.tuple #[.int .i64 N, .int .i64 E]) ∧ Below w.heap.size w w') ∧ (∀ w, Calls Tryz.prog 21 #[.agg #[.int .u64 x0, .int .u64 x1], .agg #[.int .u64 x2, .int .u64 x3], .agg #[.int .u64 x4, .int .u64 x5], .agg #[.int .u64 x6, .int .u64 x7]] w fun e w' => e = .returned (.tuple #[.int .i64 N, .int .i64 E]) ∧ Below w.heap.size w w') := by
  by_cases h : fin2 (x0, x1) ∧ fin2 (x2, x3) ∧ fin2 (x4, x5) ∧ fin2 (x6, x7)
  · obtain ⟨fa, fb, fc, fd⟩ := h
    exact ⟨_, _, fun w => pNearer_fin ua ub uc ud fa fb fc fd, fun w => zNearer_fin ua.1 ua.2 ub.1 ub.2 uc.1 uc.2 ud.1 ud.2 fa.1 fa.2 fb.1 fb.2 fc.1 fc.2 fd.1 fd.2 (fin4_of fa fb fc fd)⟩
  · exact ⟨_, _, fun w => Nearer22_inf (a := (x0, x1)) (b := (x2, x3)) (c := (x4, x5)) (d := (x6, x7)) ua ub uc ud h, fun w => zNearer_inf ua.1 ua.2 ub.1 ub.2 uc.1 uc.2 ud.1 ud.2 (fun h' => h ⟨h' 0 (by omega), h' 1 (by omega), h' 2 (by omega), h' 3 (by omega)⟩)⟩
theorem alikeOrder (ua : U2 (x0, x1)) (ub : U2 (x2, x3)) : ∃ N E : Int, (∀ w, Calls Tryz.prog 22 #[.agg #[.int .u64 x0, .int .u64 x1], .agg #[.int .u64 x2, .int .u64 x3]] w fun e w' => e = .returned (.tuple #[.int .i64 N, .int .i64 E]) ∧ Below w.heap.size w w') ∧ (∀ w, Calls Tryz.prog 23 #[.agg #[.int .u64 x0, .int .u64 x1], .agg #[.int .u64 x2, .int .u64 x3]] w fun e w' => e = .returned (.tuple #[.int .i64 N, .int .i64 E]) ∧ Below w.heap.size w w') := by
  by_cases h : fin2 (x0, x1) ∧ fin2 (x2, x3)
  · obtain ⟨fa, fb⟩ := h
    exact ⟨_, _, fun w => pOrder_fin ua ub fa fb, fun w => zOrder_fin ua.1 ua.2 ub.1 ub.2 fa.1 fa.2 fb.1 fb.2 (fin2_of fa fb)⟩
  · exact ⟨_, _, fun w => Order22_inf (a := (x0, x1)) (b := (x2, x3)) ua ub h, fun w => zOrder_inf ua.1 ua.2 ub.1 ub.2 (fun h' => h ⟨h' 0 (by omega), h' 1 (by omega)⟩)⟩
theorem alikeArea2 (ua : U2 (x0, x1)) (ub : U2 (x2, x3)) (uc : U2 (x4, x5)) : ∃ (S : Bool) (xs ys : List Int) (E : Int), (∀ w, Calls Tryz.prog 13 #[.agg #[.int .u64 x0, .int .u64 x1], .agg #[.int .u64 x2, .int .u64 x3], .agg #[.int .u64 x4, .int .u64 x5]] w fun e w' => ArS w S xs ys E e w') ∧ (∀ w, Calls Tryz.prog 14 #[.agg #[.int .u64 x0, .int .u64 x1], .agg #[.int .u64 x2, .int .u64 x3], .agg #[.int .u64 x4, .int .u64 x5]] w fun e w' => ArX w S xs ys E e w') := by
  by_cases h : fin2 (x0, x1) ∧ fin2 (x2, x3) ∧ fin2 (x4, x5)
  · obtain ⟨fa, fb, fc⟩ := h
    refine ⟨_, _, _, 0, fun w => ?_, fun w => ((zArea2_fin ua.1 ua.2 ub.1 ub.2 uc.1 uc.2 fa.1 fa.2 fb.1 fb.2 fc.1 fc.2 (fin3_of fa fb fc)).mono (fun e w' h => ArX.of h))⟩
    have h := Area222_fin (w := w) (a := (x0, x1)) (b := (x2, x3)) (c := (x4, x5)) ua ub uc fa fb fc
    have e := crR_wv ua.1 ua.2 ub.1 ub.2 uc.1 uc.2 fa.1 fa.2 fb.1 fb.2 fc.1 fc.2
    rw [← e]
    exact h.mono (fun e' w' h => ArS.of h e)
  · refine ⟨false, [], [], 220, fun w => Area222_inf (a := (x0, x1)) (b := (x2, x3)) (c := (x4, x5)) ua ub uc h, fun w => ((zArea2_inf ua.1 ua.2 ub.1 ub.2 uc.1 uc.2 (fun h' => h ⟨h' 0 (by omega), h' 1 (by omega), h' 2 (by omega)⟩)).mono ?_)⟩
    rintro e w' ⟨rfl, hb⟩
    exact ArX.nil hb
theorem asks_walk (u0 : U x0) (u1 : U x1) (u2 : U x2) (u3 : U x3) (u4 : U x4) (u5 : U x5) (u6 : U x6) (u7 : U x7) {w : World} :
    Calls Tryz.prog 4 #[.agg #[.int .u64 x0, .int .u64 x1, .int .u64 x2, .int .u64 x3, .int .u64 x4, .int .u64 x5, .int .u64 x6, .int .u64 x7]] w fun e w' => e = .returned (.bool true) ∧ Below w.heap.size w w' := by
  have ua := u2_of u0 u1
  have ub := u2_of u2 u3
  have uc := u2_of u4 u5
  have ud := u2_of u6 u7
  obtain ⟨N1, E1, p0, z0⟩ := alikeOrient ua ub uc
  obtain ⟨N2, E2, p1, z1⟩ := alikeInCircle ua ub uc ud
  obtain ⟨B, E3, p2, z2⟩ := alikeBetween ua ub uc
  obtain ⟨N4, E4, p3, z3⟩ := alikeNearer ua ub uc ud
  obtain ⟨N5, E5, p4, z4⟩ := alikeOrder ua ub
  obtain ⟨S, xs, ys, E6, pA, zA⟩ := alikeArea2 ua ub uc
  exact asks_go p0 z0 p1 z1 p2 z2 p3 z3 p4 z4 pA zA w
end
end Go.Proofs.YtbonkgmcpjaepabGreat


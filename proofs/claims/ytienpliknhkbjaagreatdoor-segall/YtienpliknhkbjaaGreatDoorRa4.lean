import Derived.Deep.RegionLaw
import Derived.Deep.Cut
import Derived.Deep.DeepCutAuto
import Derived.Below
import Derived.BigQuiet
import Derived.ChangeOld
import Derived.Deep.DeepFit
import Derived.Deep.LoopGhost
import Derived.Deep.QuietTactic
import Derived.Deep.RegionHeld3
import Derived.Deep.RegionHeldLaw
import Derived.Deep.RegionWith
import Derived.Defers
import Derived.Eval
import Derived.KernelRfl
import Derived.Laws.BitsAllLaws
import Derived.Laws.CopyRow
import Derived.Laws.EntriesVeiled
import Derived.Laws.IdiomCopy
import Derived.Laws.IdiomRangeMap
import Derived.OpenShut
import Derived.Orders
import Derived.OwnWalk
import Derived.ProofKit
import Derived.Recover
import Derived.Scope
import Derived.ShutString
import Derived.WalkKit
import Derived.WalkLawsBesides
import Derived.WalkMore
import Derived.WalkSpells
import Derived.Test.YtienpliknhkbjaaGreatDoorRp1
import Derived.Test.YtienpliknhkbjaaGreatDoorRp2
import Derived.Test.YtienpliknhkbjaaGreatDoorRp3
import Derived.Test.YtienpliknhkbjaaGreatDoorRp4
import Derived.Test.YtienpliknhkbjaaGreatDoorRp5
import Derived.Test.YtienpliknhkbjaaGreatDoorRp6
import Derived.Test.YtienpliknhkbjaaGreatDoorRp7
import Derived.Test.YtienpliknhkbjaaGreatDoorRp8
import Derived.Test.YtienpliknhkbjaaGreatDoorRp9
import Derived.Test.YtienpliknhkbjaaGreatDoorRp10
import Derived.Test.YtienpliknhkbjaaGreatDoorRp11
import Derived.Test.YtienpliknhkbjaaGreatDoorRp12
import Derived.Test.YtienpliknhkbjaaGreatDoorRp13
import Derived.Test.YtienpliknhkbjaaGreatDoorRp14
import Derived.Test.YtienpliknhkbjaaGreatDoorRp15
import Derived.Test.YtienpliknhkbjaaGreatDoorRa1
import Derived.Test.YtienpliknhkbjaaGreatDoorRa3
/- plumblaw23: SegAll's walk (written by gensgeg.py). -/
namespace Go.Proofs.YtienpliknhkbjaaGreatDoor
open Go.ChangeShapes Go.WideShapes Go.ChangeAt Go.RowKit
open Na Ar
set_option linter.unusedVariables false
theorem wpAnyH_one {P : Program} {md : Region.Mode} {ops : Array Oper} {Q : Exit → Act → World → Prop} {S : World → Prop} {fuel i : Nat} {oi : Oper} {listed : Array Bool} {a : Act} {w : World} (hr : Region.ready md ops listed = [i]) (ho : ops[i]? = some oi)
    (h : ∀ K' : Act → World → Prop, Shut (∀ a' w', (S w' ∧ wpAnyH P md ops Q S fuel (listed.setIfInBounds i true) a' w') → K' a' w') → if Region.wanted oi (yielded ops a.tmps) = true then Oper.wp P oi a w K' Q else K' (a.put oi.dst undef) w) : wpAnyH P md ops Q S (fuel + 1) listed a w := by
  refine ⟨fun e => ?_, fun j hj => ?_⟩
  · rw [hr] at e; cases e
  · rw [hr] at hj
    obtain rfl : j = i := by simpa using hj
    exact wpOp_step ho (fun K' hK => h K' hK)
theorem rowQ_succ (f : Nat → Nat → Bool) (i k : Nat) : rowQ f i (k + 1) = rowQ f i k ++ (if f i (i + 1 + k) = true then [((i : Int), ((i + 1 + k : Nat) : Int))] else []) := rfl
theorem allQ_succ (f : Nat → Nat → Bool) (m t : Nat) : allQ f m (t + 1) = allQ f m t ++ rowQ f t (m - 1 - t) := rfl
theorem wrap_one (t : Nat) (h : t ≤ 1000) : IntKind.i64.wrap ((t : Int) + 1) = ((t + 1 : Nat) : Int) := by rw [IntKind.wrap_i64]; omega
theorem wrap_sub (m : Nat) (h : m ≤ 1000) (h1 : 1 ≤ m) : IntKind.i64.wrap ((m : Int) - 1) = ((m - 1 : Nat) : Int) := by rw [IntKind.wrap_i64]; omega
set_option maxHeartbeats 25600000 in
set_option maxRecDepth 100000 in
theorem all_walk {v : Value} {n0 : Nat} {P0 : Nat → Int × Int} {w : World} (h : PnAt w v n0 P0) (hG : GrVar w) :
    Calls Tryz.prog 6 #[v] w fun e w' => e = .returned (.bool true) ∧ Below w.heap.size w w' := by
  have hU0 : ∀ i, i < n0 → U2 (P0 i) := by
    rcases h.2 with ⟨h0, _⟩ | ⟨b, o, c, _, hP, _⟩
    · intro i hi; omega
    · exact fun i hi => ⟨(hP i hi).2.2.1, (hP i hi).2.2.2⟩
  have c1 := cut23_any h
  clear h
  have al0 : ∀ w', Below w.heap.size w w' → Calls Tryz.prog 12 #[] w' fun e w'' => e = .returned (.bool true) ∧ Below w'.heap.size w' w'' := fun w' hb => alive23_any (hG.later hb)
  have HGR : Hid (GrVar w) := hG
  clear hG
  go_enter Tryz.func6, Tryz.ntmps6
  go_wp2_with fail
  refine c1.mono ?_
  rintro e w1 ⟨v1, rfl, hR1, hb1⟩
  clear c1
  obtain ⟨N, hN⟩ : ∃ N, N = min n0 10 := ⟨_, rfl⟩
  rw [← hN] at hR1
  have hN10 : N ≤ 10 := by omega
  have hNn : N ≤ n0 := by omega
  clear hN
  by_cases hz : N = 0
  · subst hz
    obtain ⟨a, c, rfl⟩ := hR1.slice
    rw [show (firsts P0 0).length = 0 from rfl]
    have hP := Pairs23_few (w := w1) (a := a) (n := 0) (c := c) (by omega) (fun w' e => by
      subst e
      refine places23_zero.mono ?_
      rintro e w'' ⟨o, cs, rfl, hPb, hb⟩
      exact ⟨o, cs, fun _ => (0, 0), rfl, hPb, fun i hi => absurd hi (by omega), hb⟩)
    clear hR1
    go_wp2
    go_loopw [3] (fun iv wr => iv = .int .i64 0 ∧ wr = w1) (fun _ _ => 0)
    case atStart => exact ⟨rfl, rfl⟩
    case round =>
      obtain ⟨rfl, rfl⟩ := hrel
      go_wp2_with fail
      refine hP.mono ?_
      rintro e w2 ⟨rfl, hb2⟩
      have hb := hb1.trans (hb2.mono hb1.size)
      clear hP hb1 hb2
      go_wp2_with fail
      refine (al0 w2 hb).mono ?_
      rintro e w3 ⟨rfl, hb3⟩
      have hb' := hb.trans (hb3.mono hb.size)
      clear al0 hb hb3
      go_wp2
      go_loopw [7, 8] (fun kv iv wr => kv = .int .i64 0 ∧ iv = .int .i64 0 ∧ wr = w3) (fun _ _ _ => 0)
      case atStart => exact ⟨rfl, rfl, rfl⟩
      case round =>
        obtain ⟨rfl, rfl, rfl⟩ := hrel
        go_wp2
        go_ret
        exact ⟨rfl, hb'⟩
  · obtain ⟨m, rfl⟩ : ∃ m, N = m + 1 := ⟨N - 1, by omega⟩
    clear hz
    obtain ⟨b, c, cs, rfl, hbb, hPb, hcs, hPu⟩ := hR1.opens (fun e => by have := firsts_len P0 (m + 1); rw [e] at this; simp at this)
    rw [firsts_len] at hcs ⊢
    have hPu' : ∀ i, i < m + 1 → PuAt cs i (P0 i) := fun i hi => hPu i _ (firsts_get P0 (m + 1) i hi)
    have hU : ∀ i, i < m + 1 → U2 (P0 i) := fun i hi => hU0 i (by omega)
    have hbw : w.heap.size ≤ b := hbb
    clear hR1 hPu hbb hU0 hNn
    go_wp2
    go_loopw [3] (fun iv wr => ∃ (k : Nat) (cs' : Array Value), k ≤ m + 1 ∧ iv = .int .i64 (k : Int) ∧ Pb wr b 24 cs' ∧ cs'.size = cs.size ∧ Hid (∀ i, i < m + 1 → PuAt cs' i (if i < k then finP (P0 i) else P0 i)) ∧ Below w.heap.size w wr) (fun iv _ => m + 1 - (intOf iv).toNat)
    case atStart => exact ⟨0, cs, by omega, rfl, hPb, rfl, fun i hi => by rw [if_neg (by omega)]; exact hPu' i hi, hb1⟩
    case round =>
      obtain ⟨k, cs', hk, rfl, hPk, hsz, hPuk, hB⟩ := hrel
      have j0 : (0 : Int) ≤ (k : Int) := by omega
      have hBz := hB.size
      by_cases hlt : k < m + 1
      · have j1 : (k : Int) < ((m + 1 : Nat) : Int) := by omega
        have j2 : (k : Int) < (m : Int) + 1 := by omega
        have x := hPuk.out k hlt
        rw [if_neg (by omega)] at x
        obtain ⟨x0, x1⟩ := x
        have u := hU k hlt
        have HK : Hid (finP (P0 k) = (finF (P0 k).1, finF (P0 k).2)) := rfl
        generalize hX : (P0 k).1 = X at *
        generalize hY : (P0 k).2 = Y at *
        have ux : U X := by rw [← hX]; exact u.1
        have uy : U Y := by rw [← hY]; exact u.2
        clear hX hY u
        have y0 := hPk.cell _ x0
        have y1 := hPk.cell _ x1
        go_wp2_with fail
        refine (spot23_any ux uy wr).mono ?_
        rintro e wX ⟨rfl, hbX⟩
        have Nx := hPk.later hbX
        clear y0 y1 hPk
        have y0 := Nx.cell _ x0
        have y1 := Nx.cell _ x1
        have z0 := Nx.frozen (k * 2)
        have z1 := Nx.frozen (k * 2 + 1)
        obtain ⟨s1, s2⟩ := pu_set (cs := cs') (T := k) (x := finF X) (y := finF Y) (by omega)
        have Nz := (Nx.set (k * 2) (.int .u64 (finF X))).set (k * 2 + 1) (.int .u64 (finF Y))
        have I := ((In.refl b (b + 1) wX).set1 (k * 2) (.int .u64 (finF X))).set1 (k * 2 + 1) (.int .u64 (finF Y))
        have Bz := below_in (hB.trans (hbX.mono hBz)) I hbw (Nat.le_refl _)
        have H9 : Hid (Pb ((wX.setCell ⟨b, k * 2, none⟩ (.int .u64 (finF X))).setCell ⟨b, k * 2 + 1, none⟩ (.int .u64 (finF Y))) b 24 ((cs'.setIfInBounds (k * 2) (.int .u64 (finF X))).setIfInBounds (k * 2 + 1) (.int .u64 (finF Y))) ∧ (∀ i, i < m + 1 → PuAt ((cs'.setIfInBounds (k * 2) (.int .u64 (finF X))).setIfInBounds (k * 2 + 1) (.int .u64 (finF Y))) i (if i < k + 1 then finP (P0 i) else P0 i)) ∧ Below w.heap.size w ((wX.setCell ⟨b, k * 2, none⟩ (.int .u64 (finF X))).setCell ⟨b, k * 2 + 1, none⟩ (.int .u64 (finF Y)))) := ⟨Nz, fun i hi => by
          by_cases e : i = k
          · subst e
            rw [if_pos (by omega), HK.out]
            exact s1
          · have q := s2 i _ e (hPuk.out i hi)
            by_cases e2 : i < k
            · rw [if_pos e2] at q; rw [if_pos (by omega)]; exact q
            · rw [if_neg e2] at q; rw [if_neg (by omega)]; exact q, Bz⟩
        clear Nz I Bz s1 s2 x0 x1
        go_wp2
        go_roundw
        case rel => exact ⟨k + 1, _, by omega, rfl, H9.out.1, by simp [hsz], H9.out.2.1, H9.out.2.2⟩
        case measure => simp [intOf]; omega
      · have ek : k = m + 1 := by omega
        subst ek
        have j1 : ¬ ((m : Int) + 1 < (m : Int) + 1) := by omega
        obtain ⟨F, hF⟩ : ∃ F : Nat → Int × Int, F = fun i => finP (P0 i) := ⟨_, rfl⟩
        have hPF : ∀ i, i < m + 1 → PuAt cs' i (F i) := fun i hi => by
          have q := hPuk.out i hi
          rw [if_pos hi] at q
          rw [hF]
          exact q
        have hUF : ∀ i, i ≤ m → U2 (F i) := fun i hi => by rw [hF]; exact (finP_ok (hU i (by omega))).1
        have hfF : ∀ i, i ≤ m → fin2 (F i) := fun i hi => by rw [hF]; exact (finP_ok (hU i (by omega))).2
        have hPt : PtAt wr b 0 F (m + 1) := fun i hi => ⟨by rw [Nat.zero_add]; exact hPk.cell _ (hPF i hi).1, by rw [Nat.zero_add]; exact hPk.cell _ (hPF i hi).2, (hUF i (by omega)).1, (hUF i (by omega)).2⟩
        have hPairs : Calls Tryz.prog 28 #[.slice (some ⟨b, 0, none⟩) (m + 1) c] wr fun e w' => ∃ v, e = .returned (.tuple #[v, .int .i64 0]) ∧ Rp w' wr.heap.size v (allQ (inQ (fun i => rkP (F i)) m) m m) ∧ Below wr.heap.size wr w' := by
          by_cases hm : m = 0
          · subst hm
            refine (Pairs23_few (by omega) (fun w' e => ?_)).mono ?_
            · subst e
              refine (places23_any (c := c) hPt hPk.lt (by omega)).mono ?_
              rintro e w'' (⟨_, o, cs9, rfl, hPb9, _, _, hPc9, hb9⟩ | ⟨⟨i, hi, hno⟩, _⟩)
              · exact ⟨o, cs9, fun i => rkP (F i), rfl, hPb9, hPc9, hb9⟩
              · exact absurd (hfF i (by omega)) hno
            · rintro e w' ⟨rfl, hb⟩
              exact ⟨_, rfl, Rp.nil _ _, hb⟩
          · exact Pairs23_fin (c := c) hPt hPk.lt (by omega) (by omega) (fun i hi => hfF i (by omega))
        clear hPuk hPt hPu' hPb hsz hF hU
        go_wp2_with fail
        refine hPairs.mono ?_
        rintro e wP ⟨v4, rfl, hRP, hbP⟩
        clear hPairs
        obtain ⟨f, hf⟩ : ∃ f, f = inQ (fun i => rkP (F i)) m := ⟨_, rfl⟩
        rw [← hf] at hRP
        have HF : Hid (f = inQ (fun i => rkP (F i)) m) := hf
        clear hf
        have N1 := hPk.later hbP
        have B1 := hB.trans (hbP.mono hBz)
        clear hPk hB hbP hb1
        obtain ⟨a4, c4, rfl⟩ := hRP.slice
        go_wp2_with fail
        refine (al0 wP B1).mono ?_
        rintro e wQ ⟨rfl, hbQ⟩
        have hRQ := hRP.later hbQ
        have N2 := N1.later hbQ
        have B2 := B1.trans (hbQ.mono B1.size)
        clear al0 hRP N1 B1 hbQ hBz j0
        have HRQ : Hid (Rp wQ wr.heap.size (.slice a4 (allQ f m m).length c4) (allQ f m m)) := hRQ
        have HB2 : Hid (Below w.heap.size w wQ) := B2
        have hN2 := N2.lt
        have hask : ∀ t j, t < m → j < m → ∃ kd pr p1 p2 q1 q2, AskM w.heap.size w F m t j kd pr p1 p2 q1 q2 := fun t j ht hj => ask_of hUF hfF ht hj (fun w' hb => HGR.out.later hb) (Nat.le_refl _)
        have hcell : ∀ w', Below wQ.heap.size wQ w' → ∀ i, i ≤ m → w'.cell? ⟨b, i * 2, none⟩ = some (.int .u64 (F i).1) ∧ w'.cell? ⟨b, i * 2 + 1, none⟩ = some (.int .u64 (F i).2) := fun w' q i hi => ⟨(N2.later q).cell _ (hPF i (by omega)).1, (N2.later q).cell _ (hPF i (by omega)).2⟩
        have HA := HE.mk hask
        have HC := HE.mk hcell
        clear hask hcell hRQ B2 hPF hUF hfF N2
        generalize hLen : (allQ f m m).length = ln at *
        have HLen : Hid ((allQ f m m).length = ln) := hLen
        clear hLen
        have m1 : (m : Int) ≤ 10 := by omega
        have m2 : (0 : Int) ≤ (m : Int) := by omega
        have hm10 : m ≤ 10 := by omega
        have lnb : (ln : Int) ≤ 100 := by
          have := allQ_len f m m
          rw [HLen.out] at this
          have : m * m ≤ 10 * 10 := Nat.mul_le_mul hm10 hm10
          omega
        have e9 : IntKind.i64.wrap ((m : Int) + 1 - 1) = (m : Int) := by rw [IntKind.wrap_i64]; omega
        have e8 : (m : Int) + 1 - 1 = (m : Int) := by omega
        go_wp2
        generalize wr.heap.size = bs at HRQ
        go_loopw [7, 8] (fun kv iv wr => ∃ t : Nat, t ≤ m ∧ iv = .int .i64 (t : Int) ∧ kv = .int .i64 (((allQ f m t).length : Nat) : Int) ∧ Below wQ.heap.size wQ wr) (fun _ iv _ => m - (intOf iv).toNat)
        case atStart => exact ⟨0, by omega, rfl, rfl, Below.refl _ _⟩
        case round =>
          obtain ⟨t, ht, rfl, rfl, hB⟩ := hrel
          by_cases hlt : t < m
          · have i1 : (t : Int) < (m : Int) := by omega
            have i2 : (0 : Int) ≤ (t : Int) := by omega
            obtain ⟨t1, ht1⟩ : ∃ t1, t1 = t + 1 := ⟨_, rfl⟩
            have HT1 : Hid (t1 = t + 1) := ht1
            have wt : IntKind.i64.wrap ((t : Int) + 1) = (t1 : Int) := by rw [ht1]; exact wrap_one t (by omega)
            have i4 : (t1 : Int) < (m : Int) + 1 := by omega
            have i5 : (0 : Int) ≤ (t1 : Int) := by omega
            have i6 : (t : Int) < (m : Int) + 1 := by omega
            clear ht1
            go_wp2
            go_loopw [7, 9] (fun kv jv wr => ∃ k : Nat, k ≤ m - 1 - t ∧ jv = .int .i64 ((t + 1 + k : Nat) : Int) ∧ kv = .int .i64 (((allQ f m t ++ rowQ f t k).length : Nat) : Int) ∧ Below wQ.heap.size wQ wr) (fun _ jv _ => m - (intOf jv).toNat)
            case atStart => exact ⟨0, by omega, by have := HT1.out; simp; omega, by simp [rowQ], hB⟩
            case round =>
              obtain ⟨k, hk, rfl, rfl, hbr⟩ := hrel
              by_cases hlt2 : k < m - 1 - t
              · obtain ⟨j, hj⟩ : ∃ j, j = t + 1 + k := ⟨_, rfl⟩
                rw [← hj]
                have HJ : Hid (j = t + 1 + k) := hj
                have hjm : j < m := by omega
                have q0 : (0 : Int) ≤ (j : Int) := by omega
                have q1 : (j : Int) < (m : Int) := by omega
                have q6 : (j : Int) < (m : Int) + 1 := by omega
                obtain ⟨j1, hj1⟩ : ∃ j1, j1 = j + 1 := ⟨_, rfl⟩
                have HJ1 : Hid (j1 = j + 1) := hj1
                have wj : IntKind.i64.wrap ((j : Int) + 1) = (j1 : Int) := by rw [hj1]; exact wrap_one j (by omega)
                have q2 : (j1 : Int) < (m : Int) + 1 := by omega
                have q3 : (0 : Int) ≤ (j1 : Int) := by omega
                obtain ⟨kd, pr, p1, p2, q1', q2', A⟩ := HA.out t j hlt hjm
                have cM := A.meet
                rw [← HT1.out, ← HJ1.out] at cM
                have HAA := HE.mk A
                have hcl : Hid (∀ w', Below wr.heap.size wr w' → w'.cell? ⟨b, t * 2, none⟩ = some (.int .u64 (F t).1) ∧ w'.cell? ⟨b, t * 2 + 1, none⟩ = some (.int .u64 (F t).2) ∧ w'.cell? ⟨b, t1 * 2, none⟩ = some (.int .u64 (F t1).1) ∧ w'.cell? ⟨b, t1 * 2 + 1, none⟩ = some (.int .u64 (F t1).2) ∧ w'.cell? ⟨b, j * 2, none⟩ = some (.int .u64 (F j).1) ∧ w'.cell? ⟨b, j * 2 + 1, none⟩ = some (.int .u64 (F j).2) ∧ w'.cell? ⟨b, j1 * 2, none⟩ = some (.int .u64 (F j1).1) ∧ w'.cell? ⟨b, j1 * 2 + 1, none⟩ = some (.int .u64 (F j1).2)) := fun w' q => by
                  have z := hbr.trans (q.mono hbr.size)
                  have y0 := HC.out w' z t (by omega)
                  have y1 := HC.out w' z t1 (by have := HT1.out; omega)
                  have y2 := HC.out w' z j (by omega)
                  have y3 := HC.out w' z j1 (by have := HJ1.out; omega)
                  exact ⟨y0.1, y0.2, y1.1, y1.2, y2.1, y2.2, y3.1, y3.2⟩
                have hB8 : Hid (Below wQ.heap.size wQ wr) := hbr
                have hBw : Hid (Below w.heap.size w wr) := HB2.out.trans (hbr.mono HB2.out.size)
                have hbb : b < wr.heap.size := Nat.lt_of_lt_of_le hN2 hbr.size
                generalize hkk : (allQ f m t ++ rowQ f t k).length = kk at *
                have HKK : Hid ((allQ f m t ++ rowQ f t k).length = kk) := hkk
                have kkb : (kk : Int) ≤ 200 := by
                  have a1 := allQ_len f m t
                  have a2 := rowQ_len f t k
                  have a3 : t * m ≤ 10 * 10 := Nat.mul_le_mul (by omega) hm10
                  rw [← hkk, List.length_append]
                  omega
                have kk0 : (0 : Int) ≤ (kk : Int) := by omega
                clear hj hj1 A hbr hkk
                go_upto_region 17 with fail
                go_cut [10, 11] from 56 to 77 (fun v v' wx => ∃ r, v = .pointer (some ⟨r, 0, none⟩) ∧ Pb wx r 29 #[.int .i64 kd, .bool pr, .int .u64 p1, .int .u64 p2, .int .u64 q1', .int .u64 q2'] ∧ v' = .int .i64 0 ∧ Below wr.heap.size wr wx)
                case first =>
                  clear HA HC HAA HRQ HLen HF HKK lnb kkb kk0 e8 e9 hcs hbw hlt2 hlt hk ht hjm
                  obtain ⟨a0, a1, a2, a3, a4, a5, a6, a7⟩ := hcl.out wr (Below.refl _ _)
                  have hr0 : Below wr.heap.size wr wr := Below.refl _ _
                  have na : ¬ wr.heap.size = b := by omega
                  have nb : ¬ b = wr.heap.size := by omega
                  go_region_held3 (fun w' => w'.cell? ⟨b, t * 2, none⟩ = some (.int .u64 (F t).1) ∧ w'.cell? ⟨b, t * 2 + 1, none⟩ = some (.int .u64 (F t).2) ∧ w'.cell? ⟨b, t1 * 2, none⟩ = some (.int .u64 (F t1).1) ∧ w'.cell? ⟨b, t1 * 2 + 1, none⟩ = some (.int .u64 (F t1).2) ∧ w'.cell? ⟨b, j * 2, none⟩ = some (.int .u64 (F j).1) ∧ w'.cell? ⟨b, j * 2 + 1, none⟩ = some (.int .u64 (F j).2) ∧ w'.cell? ⟨b, j1 * 2, none⟩ = some (.int .u64 (F j1).1) ∧ w'.cell? ⟨b, j1 * 2 + 1, none⟩ = some (.int .u64 (F j1).2)) (go_keep) ((go_at_call 10; refine (cM _ (hBw.out.trans (Below.mono (by first | exact hr0 | exact below_drewN hr0 1 | exact hr0.trans ((alloc_below _).mono hr0.size) | exact below_drewN (hr0.trans ((alloc_below _).mono hr0.size)) 1) (by have := hBw.out.size; omega)))).mono ?_; rintro e wX ⟨rfl, hbo⟩; have hbX := bel_step (a := wr) hbo (by first | exact Below.refl _ _ | exact below_drewN (Below.refl _ _) 1 | exact alloc_below _ | exact below_drewN (alloc_below _) 1); have sX := hbX.size; have nc : ¬ wX.heap.size = b := (by omega); have nd : ¬ b = wX.heap.size := (by omega); (first | (have NB : Pb wX wr.heap.size 29 #[.int .i64 0, .bool false, .int .u64 0, .int .u64 0, .int .u64 0, .int .u64 0] := (by refine Pb.later ?_ hbo; first | (with_reducible exact Pb.new wr 29 #[.int .i64 0, .bool false, .int .u64 0, .int .u64 0, .int .u64 0, .int .u64 0]) | (with_reducible exact pb_drewE (Pb.new wr 29 #[.int .i64 0, .bool false, .int .u64 0, .int .u64 0, .int .u64 0, .int .u64 0])))) | skip); (first | (have tt := NB.lt; obtain ⟨k0, k1, k2, k3, k4, k5⟩ := NB.cells6; obtain ⟨l0, l1, l2, l3, l4, l5⟩ := NB.free6) | skip); clear a0 a1 a2 a3 a4 a5 a6 a7; obtain ⟨a0, a1, a2, a3, a4, a5, a6, a7⟩ := hcl.out wX hbX))
                  · go_wp2_with fail
                    go_meet
                    exact ⟨wX.heap.size, rfl, Pb.new _ _ _, rfl, hbX.trans ((alloc_below _).mono hbX.size)⟩
                  · clear a0 a1 a2 a3 a4 a5 a6 a7
                    go_wp2_with fail
                    go_meet
                    exact ⟨_, rfl, NB.put6 _ _ _ _ _ _, rfl, below_in hbX (in6p wX wr.heap.size (.int .i64 kd) (.bool pr) (.int .u64 p1) (.int .u64 p2) (.int .u64 q1') (.int .u64 q2')) (Nat.le_refl _) (Nat.le_refl _)⟩
                obtain ⟨rM, rfl, NM, rfl, hbM⟩ := hcut
                obtain ⟨wn, hwn⟩ : ∃ q, q = wc := ⟨_, rfl⟩
                subst hwn
                clear cM
                have hB9 : Hid (Below wQ.heap.size wQ wn) := hB8.out.trans (hbM.mono hB8.out.size)
                clear hcl hbM hB8 hBw hbb
                have wm1 : IntKind.i64.wrap ((m : Int) - 1) = ((m - 1 : Nat) : Int) := wrap_sub m (by omega) (by omega)
                obtain ⟨D1, hD1⟩ : ∃ D, D = decide (j = t + 1) := ⟨_, rfl⟩
                have e1 : ((j : Int) == (t1 : Int)) = D1 := by rw [hD1]; have := HT1.out; by_cases h : j = t + 1 <;> simp [h] <;> omega
                have HD1 : Hid (D1 = decide (j = t + 1)) := hD1
                clear hD1
                go_upto_region 20 with fail
                obtain ⟨u0, u1, u2, u3', u4', u5'⟩ := NM.cells6
                go_cut [12] from 80 to 97 (fun v wx => v = .bool ((kd == 1) && D1) ∧ Below wn.heap.size wn wx)
                case first =>
                  by_cases h1 : kd = 1
                  · have k1 : (kd == 1) = true := by simpa using h1
                    cases D1 with
                    | false =>
                      clear h1
                      go_quiet (fail)
                      go_wp2
                      go_meet
                      exact ⟨by rw [k1]; rfl, below_drewN (Below.refl _ _) _⟩
                    | true =>
                      have cP := HAA.out.one h1 (of_decide_eq_true HD1.out.symm)
                      clear h1
                      have hcj : Hid (∀ w', Below wn.heap.size wn w' → w'.cell? ⟨b, j * 2, none⟩ = some (.int .u64 (F j).1) ∧ w'.cell? ⟨b, j * 2 + 1, none⟩ = some (.int .u64 (F j).2)) := fun w' q => HC.out w' (hB9.out.trans (q.mono hB9.out.size)) j (by omega)
                      obtain ⟨a4', a5'⟩ := hcj.out wn (Below.refl _ _)
                      go_region_held3 (fun w' => (w'.cell? ⟨b, j * 2, none⟩ = some (.int .u64 (F j).1) ∧ w'.cell? ⟨b, j * 2 + 1, none⟩ = some (.int .u64 (F j).2)) ∧ w'.cell? ⟨rM, 0, none⟩ = some (.int .i64 kd) ∧ w'.cell? ⟨rM, 2, none⟩ = some (.int .u64 p1) ∧ w'.cell? ⟨rM, 3, none⟩ = some (.int .u64 p2)) (go_keep) ((go_at_call 15; refine (cP _).mono ?_; rintro e wX ⟨rfl, hbo⟩; have hbX := bel_step (a := wn) hbo (by first | exact Below.refl _ _ | exact below_drewN (Below.refl _ _) 1); clear a4' a5' u0 u1 u2 u3' u4' u5'; obtain ⟨a4', a5'⟩ := hcj.out wX hbX; obtain ⟨u0, u1, u2, u3', u4', u5'⟩ := (NM.later hbX).cells6))
                      all_goals (go_wp2_with fail)
                      all_goals go_meet
                      exact ⟨by rw [k1]; rfl, hbX⟩
                  · have k1 : (kd == 1) = false := by simpa using h1
                    clear h1
                    go_quiet (fail)
                    go_wp2
                    go_meet
                    exact ⟨by rw [k1]; rfl, below_drewN (Below.refl _ _) _⟩
                obtain ⟨rfl, hb20⟩ := hcut
                obtain ⟨w20, hw20⟩ : ∃ q, q = wc := ⟨_, rfl⟩
                subst hw20
                clear u0 u1 u2 u3' u4' u5' e1
                generalize hCM : ((kd == 1) && D1) = CM at *
                have HCM : Hid (((kd == 1) && D1) = CM) := hCM
                clear hCM
                replace NM := NM.later hb20
                have hB10 : Hid (Below wQ.heap.size wQ w20) := hB9.out.trans (hb20.mono hB9.out.size)
                clear hb20 hB9
                obtain ⟨pc, hpc⟩ : ∃ D, D = decide (rkP (F 0) = rkP (F m)) := ⟨_, rfl⟩
                have HPC : Hid (pc = decide (rkP (F 0) = rkP (F m))) := hpc
                have cE := HAA.out.ends
                rw [← hpc] at cE
                clear hpc
                obtain ⟨LS, hLS⟩ : ∃ D, D = ((kd == 1) && decide (2 < m) && decide (t = 0) && decide (j = m - 1) && pc) := ⟨_, rfl⟩
                have HLS : Hid (LS = ((kd == 1) && decide (2 < m) && decide (t = 0) && decide (j = m - 1) && pc)) := hLS
                clear hLS
                obtain ⟨u0, u1, u2, u3', u4', u5'⟩ := NM.cells6
                go_upto_region 21 with fail
                go_cut [13] from 98 to 132 (fun v wx => v = .bool LS ∧ Below w20.heap.size w20 wx)
                case first =>
                  by_cases h1 : kd = 1
                  · have k1 : (kd == 1) = true := by simpa using h1
                    by_cases h3 : 2 < m
                    · have k3 : (3 : Int) ≤ (m : Int) := by omega
                      by_cases h0 : t = 0
                      · have k0 : ((t : Int) == 0) = true := by simpa using h0
                        by_cases hjl : j = m - 1
                        · have k4 : ((j : Int) == ((m - 1 : Nat) : Int)) = true := by rw [hjl]; exact beq_self_eq_true _
                          have q9 : (m : Int) < (m : Int) + 1 := by omega
                          have HV : Hid (LS = pc) := by show _ = _; rw [HLS.out, k1, decide_eq_true h3, decide_eq_true h0, decide_eq_true hjl]; rfl
                          have hcj : Hid (∀ w', Below w20.heap.size w20 w' → w'.cell? ⟨b, 0, none⟩ = some (.int .u64 (F 0).1) ∧ w'.cell? ⟨b, 1, none⟩ = some (.int .u64 (F 0).2) ∧ w'.cell? ⟨b, m * 2, none⟩ = some (.int .u64 (F m).1) ∧ w'.cell? ⟨b, m * 2 + 1, none⟩ = some (.int .u64 (F m).2)) := fun w' q => by
                            have z := hB10.out.trans (q.mono hB10.out.size)
                            have y0 := HC.out w' z 0 (by omega)
                            have y1 := HC.out w' z m (by omega)
                            simp only [Nat.zero_mul, Nat.zero_add] at y0
                            exact ⟨y0.1, y0.2, y1.1, y1.2⟩
                          obtain ⟨a0, a1, a2, a3⟩ := hcj.out w20 (Below.refl _ _)
                          cases pc with
                          | false =>
                            clear h1 h3 h0 hjl HA HC HRQ HLen HF HKK lnb kkb kk0 e8 e9 hcs hbw hlt2 hlt hk ht hjm HCM HLS HD1 HPC HAA a0 a1 a2 a3 u0 u1 u2 u3' u4' u5'
                            refine wp_region_held_drew (S := fun w' => Below w20.heap.size w20 w') (by kernel_rfl) (by first | exact Below.refl _ _ | exact below_drewN (Below.refl _ _) _) (fun hHeld => ?_)
                            refine wpAnyH_take' (i := 0) (v := (.pointer (some ⟨rM, 0, none⟩))) (some 98) rfl rfl (by kernel_rfl) (by kernel_rfl) (by kernel_rfl) (fun _ _ _ h => h) (Or.inl ⟨by rfl, ?hyq⟩) (by assumption) ?restq
                            case hyq => (intro w' hSw; clear hSw; go_simp)
                            case restq =>
                            simp only [Act.put, List.setIfInBounds_toArray, List.set_cons_zero, List.set_cons_succ]
                            refine wpAnyH_take' (i := 1) (v := (.int .i64 kd)) (some 99) rfl rfl (by kernel_rfl) (by kernel_rfl) (by kernel_rfl) (fun _ _ _ h => h) (Or.inl ⟨by rfl, ?hyq⟩) (by assumption) ?restq
                            case hyq => (intro w' hSw; (try dsimp only at hSw); obtain ⟨a0, a1, a2, a3⟩ := hcj.out w' hSw; obtain ⟨u0, u1, u2, u3', u4', u5'⟩ := (NM.later hSw).cells6; clear hSw; go_simp)
                            case restq =>
                            simp only [Act.put, List.setIfInBounds_toArray, List.set_cons_zero, List.set_cons_succ]
                            refine wpAnyH_take' (i := 2) (v := (.bool true)) (some 100) rfl rfl (by kernel_rfl) (by kernel_rfl) (by kernel_rfl) (fun _ _ _ h => h) (Or.inl ⟨by rfl, ?hyq⟩) (by assumption) ?restq
                            case hyq => (intro w' hSw; clear hSw; go_simp)
                            case restq =>
                            simp only [Act.put, List.setIfInBounds_toArray, List.set_cons_zero, List.set_cons_succ]
                            refine wpAnyH_take' (i := 3) (v := (.bool true)) (some 101) rfl rfl (by kernel_rfl) (by kernel_rfl) (by kernel_rfl) (fun _ _ _ h => h) (Or.inl ⟨by rfl, ?hyq⟩) (by assumption) ?restq
                            case hyq => (intro w' hSw; clear hSw; go_simp)
                            case restq =>
                            simp only [Act.put, List.setIfInBounds_toArray, List.set_cons_zero, List.set_cons_succ]
                            refine wpAnyH_take' (i := 4) (v := (.int .i64 (m : Int))) (some 102) rfl rfl (by kernel_rfl) (by kernel_rfl) (by kernel_rfl) (fun _ _ _ h => h) (Or.inl ⟨by rfl, ?hyq⟩) (by assumption) ?restq
                            case hyq => (intro w' hSw; clear hSw; go_simp)
                            case restq =>
                            simp only [Act.put, List.setIfInBounds_toArray, List.set_cons_zero, List.set_cons_succ]
                            refine wpAnyH_take' (i := 5) (v := (.bool true)) (some 103) rfl rfl (by kernel_rfl) (by kernel_rfl) (by kernel_rfl) (fun _ _ _ h => h) (Or.inl ⟨by rfl, ?hyq⟩) (by assumption) ?restq
                            case hyq => (intro w' hSw; clear hSw; go_simp)
                            case restq =>
                            simp only [Act.put, List.setIfInBounds_toArray, List.set_cons_zero, List.set_cons_succ]
                            refine wpAnyH_take' (i := 6) (v := (.bool true)) (some 104) rfl rfl (by kernel_rfl) (by kernel_rfl) (by kernel_rfl) (fun _ _ _ h => h) (Or.inl ⟨by rfl, ?hyq⟩) (by assumption) ?restq
                            case hyq => (intro w' hSw; clear hSw; go_simp)
                            case restq =>
                            simp only [Act.put, List.setIfInBounds_toArray, List.set_cons_zero, List.set_cons_succ]
                            refine wpAnyH_take' (i := 7) (v := (.bool true)) (some 105) rfl rfl (by kernel_rfl) (by kernel_rfl) (by kernel_rfl) (fun _ _ _ h => h) (Or.inl ⟨by rfl, ?hyq⟩) (by assumption) ?restq
                            case hyq => (intro w' hSw; clear hSw; go_simp)
                            case restq =>
                            simp only [Act.put, List.setIfInBounds_toArray, List.set_cons_zero, List.set_cons_succ]
                            refine wpAnyH_take' (i := 8) (v := (.int .i64 (t : Int))) (some 106) rfl rfl (by kernel_rfl) (by kernel_rfl) (by kernel_rfl) (fun _ _ _ h => h) (Or.inl ⟨by rfl, ?hyq⟩) (by assumption) ?restq
                            case hyq => (intro w' hSw; clear hSw; go_simp)
                            case restq =>
                            simp only [Act.put, List.setIfInBounds_toArray, List.set_cons_zero, List.set_cons_succ]
                            refine wpAnyH_take' (i := 9) (v := (.bool true)) (some 107) rfl rfl (by kernel_rfl) (by kernel_rfl) (by kernel_rfl) (fun _ _ _ h => h) (Or.inl ⟨by rfl, ?hyq⟩) (by assumption) ?restq
                            case hyq => (intro w' hSw; clear hSw; go_simp)
                            case restq =>
                            simp only [Act.put, List.setIfInBounds_toArray, List.set_cons_zero, List.set_cons_succ]
                            refine wpAnyH_take' (i := 10) (v := (.bool true)) (some 108) rfl rfl (by kernel_rfl) (by kernel_rfl) (by kernel_rfl) (fun _ _ _ h => h) (Or.inl ⟨by rfl, ?hyq⟩) (by assumption) ?restq
                            case hyq => (intro w' hSw; clear hSw; go_simp)
                            case restq =>
                            simp only [Act.put, List.setIfInBounds_toArray, List.set_cons_zero, List.set_cons_succ]
                            refine wpAnyH_take' (i := 11) (v := (.bool true)) (some 109) rfl rfl (by kernel_rfl) (by kernel_rfl) (by kernel_rfl) (fun _ _ _ h => h) (Or.inl ⟨by rfl, ?hyq⟩) (by assumption) ?restq
                            case hyq => (intro w' hSw; clear hSw; go_simp)
                            case restq =>
                            simp only [Act.put, List.setIfInBounds_toArray, List.set_cons_zero, List.set_cons_succ]
                            refine wpAnyH_take' (i := 12) (v := (.int .i64 (j : Int))) (some 110) rfl rfl (by kernel_rfl) (by kernel_rfl) (by kernel_rfl) (fun _ _ _ h => h) (Or.inl ⟨by rfl, ?hyq⟩) (by assumption) ?restq
                            case hyq => (intro w' hSw; clear hSw; go_simp)
                            case restq =>
                            simp only [Act.put, List.setIfInBounds_toArray, List.set_cons_zero, List.set_cons_succ]
                            refine wpAnyH_take' (i := 13) (v := (.int .i64 (m : Int))) (some 111) rfl rfl (by kernel_rfl) (by kernel_rfl) (by kernel_rfl) (fun _ _ _ h => h) (Or.inl ⟨by rfl, ?hyq⟩) (by assumption) ?restq
                            case hyq => (intro w' hSw; clear hSw; go_simp)
                            case restq =>
                            simp only [Act.put, List.setIfInBounds_toArray, List.set_cons_zero, List.set_cons_succ]
                            refine wpAnyH_take' (i := 14) (v := (.int .i64 ((m - 1 : Nat) : Int))) (some 112) rfl rfl (by kernel_rfl) (by kernel_rfl) (by kernel_rfl) (fun _ _ _ h => h) (Or.inl ⟨by rfl, ?hyq⟩) (by assumption) ?restq
                            case hyq => (intro w' hSw; clear hSw; go_simp)
                            case restq =>
                            simp only [Act.put, List.setIfInBounds_toArray, List.set_cons_zero, List.set_cons_succ]
                            refine wpAnyH_take' (i := 15) (v := (.bool true)) (some 113) rfl rfl (by kernel_rfl) (by kernel_rfl) (by kernel_rfl) (fun _ _ _ h => h) (Or.inl ⟨by rfl, ?hyq⟩) (by assumption) ?restq
                            case hyq => (intro w' hSw; clear hSw; go_simp)
                            case restq =>
                            simp only [Act.put, List.setIfInBounds_toArray, List.set_cons_zero, List.set_cons_succ]
                            refine wpAnyH_take' (i := 16) (v := (.bool true)) (some 114) rfl rfl (by kernel_rfl) (by kernel_rfl) (by kernel_rfl) (fun _ _ _ h => h) (Or.inl ⟨by rfl, ?hyq⟩) (by assumption) ?restq
                            case hyq => (intro w' hSw; clear hSw; go_simp)
                            case restq =>
                            simp only [Act.put, List.setIfInBounds_toArray, List.set_cons_zero, List.set_cons_succ]
                            refine wpAnyH_take' (i := 17) (v := (.bool true)) (some 115) rfl rfl (by kernel_rfl) (by kernel_rfl) (by kernel_rfl) (fun _ _ _ h => h) (Or.inl ⟨by rfl, ?hyq⟩) (by assumption) ?restq
                            case hyq => (intro w' hSw; clear hSw; go_simp)
                            case restq =>
                            simp only [Act.put, List.setIfInBounds_toArray, List.set_cons_zero, List.set_cons_succ]
                            refine wpAnyH_take' (i := 18) (v := (.slice (some ⟨b, 0, none⟩) (m + 1) c)) (some 116) rfl rfl (by kernel_rfl) (by kernel_rfl) (by kernel_rfl) (fun _ _ _ h => h) (Or.inl ⟨by rfl, ?hyq⟩) (by assumption) ?restq
                            case hyq => (intro w' hSw; clear hSw; go_simp)
                            case restq =>
                            simp only [Act.put, List.setIfInBounds_toArray, List.set_cons_zero, List.set_cons_succ]
                            refine wpAnyH_take' (i := 19) (v := (.pointer (some ⟨b, 0, none⟩))) (some 117) rfl rfl (by kernel_rfl) (by kernel_rfl) (by kernel_rfl) (fun _ _ _ h => h) (Or.inl ⟨by rfl, ?hyq⟩) (by assumption) ?restq
                            case hyq => (intro w' hSw; clear hSw; go_simp)
                            case restq =>
                            simp only [Act.put, List.setIfInBounds_toArray, List.set_cons_zero, List.set_cons_succ]
                            refine wpAnyH_take' (i := 20) (v := (.agg #[.int .u64 (F 0).1, .int .u64 (F 0).2])) (some 118) rfl rfl (by kernel_rfl) (by kernel_rfl) (by kernel_rfl) (fun _ _ _ h => h) (Or.inl ⟨by rfl, ?hyq⟩) (by assumption) ?restq
                            case hyq => (intro w' hSw; (try dsimp only at hSw); obtain ⟨a0, a1, a2, a3⟩ := hcj.out w' hSw; obtain ⟨u0, u1, u2, u3', u4', u5'⟩ := (NM.later hSw).cells6; clear hSw; go_simp)
                            case restq =>
                            simp only [Act.put, List.setIfInBounds_toArray, List.set_cons_zero, List.set_cons_succ]
                            refine wpAnyH_take' (i := 21) (v := (.slice (some ⟨b, 0, none⟩) (m + 1) c)) (some 119) rfl rfl (by kernel_rfl) (by kernel_rfl) (by kernel_rfl) (fun _ _ _ h => h) (Or.inl ⟨by rfl, ?hyq⟩) (by assumption) ?restq
                            case hyq => (intro w' hSw; clear hSw; go_simp)
                            case restq =>
                            simp only [Act.put, List.setIfInBounds_toArray, List.set_cons_zero, List.set_cons_succ]
                            refine wpAnyH_take' (i := 22) (v := (.int .i64 (m : Int))) (some 120) rfl rfl (by kernel_rfl) (by kernel_rfl) (by kernel_rfl) (fun _ _ _ h => h) (Or.inl ⟨by rfl, ?hyq⟩) (by assumption) ?restq
                            case hyq => (intro w' hSw; clear hSw; go_simp)
                            case restq =>
                            simp only [Act.put, List.setIfInBounds_toArray, List.set_cons_zero, List.set_cons_succ]
                            refine wpAnyH_take' (i := 23) (v := (.pointer (some ⟨b, m * 2, none⟩))) (some 121) rfl rfl (by kernel_rfl) (by kernel_rfl) (by kernel_rfl) (fun _ _ _ h => h) (Or.inl ⟨by rfl, ?hyq⟩) (by assumption) ?restq
                            case hyq => (intro w' hSw; clear hSw; go_simp)
                            case restq =>
                            simp only [Act.put, List.setIfInBounds_toArray, List.set_cons_zero, List.set_cons_succ]
                            refine wpAnyH_take' (i := 24) (v := (.agg #[.int .u64 (F m).1, .int .u64 (F m).2])) (some 122) rfl rfl (by kernel_rfl) (by kernel_rfl) (by kernel_rfl) (fun _ _ _ h => h) (Or.inl ⟨by rfl, ?hyq⟩) (by assumption) ?restq
                            case hyq => (intro w' hSw; (try dsimp only at hSw); obtain ⟨a0, a1, a2, a3⟩ := hcj.out w' hSw; obtain ⟨u0, u1, u2, u3', u4', u5'⟩ := (NM.later hSw).cells6; clear hSw; go_simp)
                            case restq =>
                            simp only [Act.put, List.setIfInBounds_toArray, List.set_cons_zero, List.set_cons_succ]
                            refine wpAnyH_one (i := 25) (by kernel_rfl) rfl (fun K' hK => ?_)
                            go_simp
                            refine (cE _).mono ?_
                            rintro e wX ⟨rfl, hbo⟩
                            have hbX := bel_step (a := w20) hbo (by first | exact Below.refl _ _ | exact below_drewN (Below.refl _ _) 1)
                            refine hK.out _ _ ⟨hbX, ?_⟩
                            try simp only [Act.put, List.setIfInBounds_toArray, List.set_cons_zero, List.set_cons_succ]
                            refine wpAnyH_take' (i := 26) (v := (.bool false)) (some 124) rfl rfl (by kernel_rfl) (by kernel_rfl) (by kernel_rfl) (fun _ _ _ h => h) (Or.inl ⟨by rfl, ?hyq⟩) (by assumption) ?restq
                            case hyq => (intro w' hSw; clear hSw; go_simp)
                            case restq =>
                            simp only [Act.put, List.setIfInBounds_toArray, List.set_cons_zero, List.set_cons_succ]
                            refine wpAnyH_take' (i := 27) (v := (.bool false)) (some 125) rfl rfl (by kernel_rfl) (by kernel_rfl) (by kernel_rfl) (fun _ _ _ h => h) (Or.inl ⟨by rfl, ?hyq⟩) (by assumption) ?restq
                            case hyq => (intro w' hSw; clear hSw; go_simp)
                            case restq =>
                            simp only [Act.put, List.setIfInBounds_toArray, List.set_cons_zero, List.set_cons_succ]
                            refine wpAnyH_take' (i := 28) (v := undef) (some 126) rfl rfl (by kernel_rfl) (by kernel_rfl) (by kernel_rfl) (fun _ _ _ h => h) (Or.inr ⟨by rfl, rfl⟩) (by assumption) ?restq
                            case restq =>
                            simp only [Act.put, List.setIfInBounds_toArray, List.set_cons_zero, List.set_cons_succ]
                            refine wpAnyH_take' (i := 29) (v := undef) (some 127) rfl rfl (by kernel_rfl) (by kernel_rfl) (by kernel_rfl) (fun _ _ _ h => h) (Or.inr ⟨by rfl, rfl⟩) (by assumption) ?restq
                            case restq =>
                            simp only [Act.put, List.setIfInBounds_toArray, List.set_cons_zero, List.set_cons_succ]
                            refine wpAnyH_take' (i := 30) (v := undef) (some 128) rfl rfl (by kernel_rfl) (by kernel_rfl) (by kernel_rfl) (fun _ _ _ h => h) (Or.inr ⟨by rfl, rfl⟩) (by assumption) ?restq
                            case restq =>
                            simp only [Act.put, List.setIfInBounds_toArray, List.set_cons_zero, List.set_cons_succ]
                            refine wpAnyH_take' (i := 31) (v := undef) (some 129) rfl rfl (by kernel_rfl) (by kernel_rfl) (by kernel_rfl) (fun _ _ _ h => h) (Or.inr ⟨by rfl, rfl⟩) (by assumption) ?restq
                            case restq =>
                            simp only [Act.put, List.setIfInBounds_toArray, List.set_cons_zero, List.set_cons_succ]
                            refine wpAnyH_take' (i := 32) (v := undef) (some 130) rfl rfl (by kernel_rfl) (by kernel_rfl) (by kernel_rfl) (fun _ _ _ h => h) (Or.inr ⟨by rfl, rfl⟩) (by assumption) ?restq
                            case restq =>
                            simp only [Act.put, List.setIfInBounds_toArray, List.set_cons_zero, List.set_cons_succ]
                            refine wpAnyH_take' (i := 33) (v := undef) (some 131) rfl rfl (by kernel_rfl) (by kernel_rfl) (by kernel_rfl) (fun _ _ _ h => h) (Or.inr ⟨by rfl, rfl⟩) (by assumption) ?restq
                            case restq =>
                            simp only [Act.put, List.setIfInBounds_toArray, List.set_cons_zero, List.set_cons_succ]
                            refine wpAnyH_take' (i := 34) (v := (.bool false)) (some 132) rfl rfl (by kernel_rfl) (by kernel_rfl) (by kernel_rfl) (fun _ _ _ h => h) (Or.inl ⟨by rfl, ?hyq⟩) (by assumption) ?restq
                            case hyq => (intro w' hSw; clear hSw; go_simp)
                            case restq =>
                            simp only [Act.put, List.setIfInBounds_toArray, List.set_cons_zero, List.set_cons_succ]
                            refine wpAnyH_take' (i := 35) (v := (.bool false)) (some 13) rfl rfl (by kernel_rfl) (by kernel_rfl) (by kernel_rfl) (fun _ _ _ h => h) (Or.inl ⟨by rfl, ?hyq⟩) (by assumption) ?restq
                            case hyq => (intro w' hSw; clear hSw; go_simp)
                            case restq =>
                            simp only [Act.put, List.setIfInBounds_toArray, List.set_cons_zero, List.set_cons_succ]
                            refine wpAnyH_done (by kernel_rfl) ?_ _
                            go_wp2_with fail
                            go_meet
                            exact ⟨by rw [HV.out], hbX⟩
                          | true =>
                            have cP := HAA.out.two h1 h0 hjl (of_decide_eq_true HPC.out.symm)
                            clear h1 h3 h0 hjl
                            go_region_held3 (fun w' => (w'.cell? ⟨b, 0, none⟩ = some (.int .u64 (F 0).1) ∧ w'.cell? ⟨b, 1, none⟩ = some (.int .u64 (F 0).2) ∧ w'.cell? ⟨b, m * 2, none⟩ = some (.int .u64 (F m).1) ∧ w'.cell? ⟨b, m * 2 + 1, none⟩ = some (.int .u64 (F m).2)) ∧ w'.cell? ⟨rM, 0, none⟩ = some (.int .i64 kd) ∧ w'.cell? ⟨rM, 2, none⟩ = some (.int .u64 p1) ∧ w'.cell? ⟨rM, 3, none⟩ = some (.int .u64 p2)) (go_keep) (first | (go_at_call_of 15 p1; refine (cP _).mono ?_; rintro e wY ⟨rfl, hbo⟩; have hbY := hbX.trans ((bel_step (a := wX) hbo (by first | exact Below.refl _ _ | exact below_drewN (Below.refl _ _) 1)).mono hbX.size); clear a0 a1 a2 a3 u0 u1 u2 u3' u4' u5'; obtain ⟨a0, a1, a2, a3⟩ := hcj.out wY hbY; obtain ⟨u0, u1, u2, u3', u4', u5'⟩ := (NM.later hbY).cells6) | (go_at_call 15; refine (cE _).mono ?_; rintro e wX ⟨rfl, hbo⟩; have hbX := bel_step (a := w20) hbo (by first | exact Below.refl _ _ | exact below_drewN (Below.refl _ _) 1); clear a0 a1 a2 a3 u0 u1 u2 u3' u4' u5'; obtain ⟨a0, a1, a2, a3⟩ := hcj.out wX hbX; obtain ⟨u0, u1, u2, u3', u4', u5'⟩ := (NM.later hbX).cells6))
                            all_goals (go_wp2_with fail)
                            all_goals go_meet
                            exact ⟨by rw [HV.out], hbY⟩
                        · have k4 : ((j : Int) == ((m - 1 : Nat) : Int)) = false := by simp; omega
                          have HV : Hid (LS = false) := by show _ = _; rw [HLS.out, decide_eq_false hjl]; simp
                          clear h1 h3 h0 hjl
                          go_quiet (fail)
                          go_wp2
                          go_meet
                          exact ⟨by rw [HV.out], below_drewN (Below.refl _ _) _⟩
                      · have k0 : ((t : Int) == 0) = false := by simpa using h0
                        have HV : Hid (LS = false) := by show _ = _; rw [HLS.out, decide_eq_false h0]; simp
                        clear h1 h3 h0
                        go_quiet (fail)
                        go_wp2
                        go_meet
                        exact ⟨by rw [HV.out], below_drewN (Below.refl _ _) _⟩
                    · have k3 : ¬ (3 : Int) ≤ (m : Int) := by omega
                      have HV : Hid (LS = false) := by show _ = _; rw [HLS.out, decide_eq_false h3]; simp
                      clear h1 h3
                      go_quiet (fail)
                      go_wp2
                      go_meet
                      exact ⟨by rw [HV.out], below_drewN (Below.refl _ _) _⟩
                  · have k1 : (kd == 1) = false := by simpa using h1
                    have HV : Hid (LS = false) := by show _ = _; rw [HLS.out, k1]; rfl
                    clear h1
                    go_quiet (fail)
                    go_wp2
                    go_meet
                    exact ⟨by rw [HV.out], below_drewN (Below.refl _ _) _⟩
                obtain ⟨rfl, hb21⟩ := hcut
                obtain ⟨wm, hwm⟩ : ∃ q, q = wc := ⟨_, rfl⟩
                subst hwm
                clear u0 u1 u2 u3' u4' u5' cE
                replace NM := NM.later hb21
                have hB11 : Hid (Below wQ.heap.size wQ wm) := hB10.out.trans (hb21.mono hB10.out.size)
                clear hb21 hB10
                have HIN : Hid ((!(f t j)) = ((kd == 0) || CM || LS)) := by
                  show _ = _
                  obtain ⟨hkd, h012⟩ := HAA.out.kin
                  rw [HF.out, ← HCM.out]
                  unfold inQ nbQ clQ
                  simp only
                  rw [← hkd, HLS.out, HD1.out, HPC.out]
                  rcases h012 with rfl | rfl | rfl
                  · simp
                  · cases decide (j = t + 1) <;> cases decide (2 < m) <;> cases decide (rkP (F 0) = rkP (F m)) <;> cases decide (t = 0) <;> cases decide (j = m - 1) <;> rfl
                  · simp
                clear HCM HLS HD1 HPC
                obtain ⟨u0, u1, u2, u3', u4', u5'⟩ := NM.cells6
                go_upto_region 22 with fail
                go_cut [141] from 133 to 141 (fun v wx => v = .bool (!(f t j)) ∧ wm = wx)
                case first =>
                  by_cases h0 : kd = 0
                  · have k0 : (kd == 0) = true := by simpa using h0
                    have HV : Hid ((!(f t j)) = true) := by show _ = _; rw [HIN.out, k0]; simp
                    clear h0 HIN
                    go_wp2; go_meet; exact ⟨by rw [HV.out], rfl⟩
                  · have k0 : (kd == 0) = false := by simpa using h0
                    have HV : Hid ((!(f t j)) = (CM || LS)) := by show _ = _; rw [HIN.out, k0]; rfl
                    clear h0 HIN
                    cases CM with
                    | true => go_wp2; go_meet; exact ⟨by rw [HV.out]; rfl, rfl⟩
                    | false =>
                      cases LS with
                      | true => go_wp2; go_meet; exact ⟨by rw [HV.out]; rfl, rfl⟩
                      | false => go_wp2; go_meet; exact ⟨by rw [HV.out]; rfl, rfl⟩
                obtain ⟨rfl, hww⟩ := hcut
                subst hww
                clear u0 u1 u2 u3' u4' u5' HIN NM HAA
                cases hfj : f t j with
                | false =>
                  have HFJ : Hid (f t j = false) := hfj
                  clear hfj
                  go_wp2
                  go_roundw
                  case rel => exact ⟨k + 1, by omega, by rw [HJ1.out, HJ.out]; rfl, by rw [rowQ_succ, ← HJ.out, HFJ.out]; simp [← HKK.out], hB11.out⟩
                  case measure => have := HJ1.out; simp [intOf]; omega
                | true =>
                  have HFJ : Hid (f t j = true) := hfj
                  clear hfj
                  have hnx : (allQ f m m)[kk]? = some ((t : Int), (j : Int)) := by
                    have := allQ_next (f := f) (m := m) (t := t) (k := k) hlt hlt2 (by rw [← HJ.out]; exact HFJ.out)
                    rw [HKK.out, ← HJ.out] at this
                    exact this
                  have hkl : kk < ln := by
                    have := (List.getElem?_eq_some_iff.1 hnx).1
                    rw [HLen.out] at this
                    exact this
                  have r1 : (kk : Int) < (ln : Int) := by omega
                  obtain ⟨bp, cp, hv, hbp, hrw⟩ := HRQ.out.opens (fun e => by rw [e] at hnx; simp at hnx)
                  injection hv with v1 v2 v3
                  subst v1
                  clear v2 v3
                  obtain ⟨z0, z1⟩ := hrw kk _ hnx
                  simp only [Nat.zero_add] at z0 z1
                  have y0 := (hB11.out.cell (p := ⟨bp, kk * 2, none⟩) hbp).trans z0
                  have y1 := (hB11.out.cell (p := ⟨bp, kk * 2 + 1, none⟩) hbp).trans z1
                  have hsm := iarr_same (t : Int) (j : Int)
                  clear z0 z1 hrw hbp hnx
                  go_wp2
                  go_roundw
                  case rel => exact ⟨k + 1, by omega, by rw [HJ1.out, HJ.out]; rfl, by rw [rowQ_succ, ← HJ.out, HFJ.out, if_pos rfl, ← List.append_assoc, List.length_append, HKK.out]; simp, hB11.out⟩
                  case measure => have := HJ1.out; simp [intOf]; omega
              · have hk2 : k = m - 1 - t := by omega
                have hd : ¬ ((t + 1 + k : Nat) : Int) < (m : Int) := by omega
                have HK2 : Hid (k = m - 1 - t) := hk2
                clear hk2
                go_wp2
                go_roundw
                case rel => exact ⟨t + 1, by omega, by rw [HT1.out], by rw [allQ_succ, ← HK2.out], hbr⟩
                case measure => have := HT1.out; simp [intOf]; omega
          · have htm : t = m := by omega
            have hd : ¬ (t : Int) < (m : Int) := by omega
            have e : (allQ f m t).length = ln := by rw [htm]; exact HLen.out
            rw [e]
            clear e htm
            go_wp2
            go_ret
            exact ⟨rfl, HB2.out.trans (hB.mono HB2.out.size)⟩
end Go.Proofs.YtienpliknhkbjaaGreatDoor


import Derived.Deep.RegionHeldLaw
import Derived.Deep.Cut
import Derived.Deep.DeepCutAuto
import Derived.Below
import Derived.BigQuiet
import Derived.ChangeOld
import Derived.Deep.DeepFit
import Derived.Deep.LoopGhost
import Derived.Deep.QuietTactic
import Derived.Deep.RegionHeld3
import Derived.Deep.RegionWith
import Derived.Defers
import Derived.Eval
import Derived.KernelRfl
import Derived.Laws.BitsAllLaws
import Derived.Laws.CopyRow
import Derived.Laws.EntriesVeiled
import Derived.Laws.IdiomCopy
import Derived.Laws.IdiomRangeMap
import Derived.OpenShut
import Derived.Orders
import Derived.OwnWalk
import Derived.ProofKit
import Derived.Recover
import Derived.Scope
import Derived.ShutString
import Derived.WalkKit
import Derived.WalkLawsBesides
import Derived.WalkMore
import Derived.WalkSpells
import Derived.Test.YtienpliknhkbjaaGreatDoorRp1
import Derived.Test.YtienpliknhkbjaaGreatDoorRp2
import Derived.Test.YtienpliknhkbjaaGreatDoorRp3
import Derived.Test.YtienpliknhkbjaaGreatDoorRp4
import Derived.Test.YtienpliknhkbjaaGreatDoorRp5
import Derived.Test.YtienpliknhkbjaaGreatDoorRp6
import Derived.Test.YtienpliknhkbjaaGreatDoorRp7
import Derived.Test.YtienpliknhkbjaaGreatDoorRp8
import Derived.Test.YtienpliknhkbjaaGreatDoorRp9
import Derived.Test.YtienpliknhkbjaaGreatDoorRp10
import Derived.Test.YtienpliknhkbjaaGreatDoorRp11
import Derived.Test.YtienpliknhkbjaaGreatDoorRp12
import Derived.Test.YtienpliknhkbjaaGreatDoorRp13
import Derived.Test.YtienpliknhkbjaaGreatDoorRp14
import Derived.Test.YtienpliknhkbjaaGreatDoorRp15
import Derived.Test.YtienpliknhkbjaaGreatDoorRa1
import Derived.Test.YtienpliknhkbjaaGreatDoorRa2
/- package seg: stretches. -/
namespace Go.Proofs.YtienpliknhkbjaaGreatDoor
open Go.ChangeShapes Go.WideShapes Go.ChangeAt Go.RowKit
open Na Ar
set_option linter.unusedVariables false
theorem step_appS {ops : Array Oper} {o : Oper} {a : Act} {w : World} {K : Act → World → Prop} {Q : Exit → Act → World → Prop} {E : Prop} (hgd : o.guard = none) (s x : Operand) (t : TypeId)
    (ho : o.op = .call { callee := .builtin .append, args := #[s, x], argTypes := #[t, t] }) (v u : Value) (hs : a.eval s = v) (hx : a.eval x = u) {v' : Value} {w' : World}
    (hr : (Builtin.append_ #[t, t] o.type #[v, u]).run Tryz.prog w = .ok v' w') (h : K (a.put o.dst v') w') : if Region.wanted o (yielded ops a.tmps) = true then Oper.wp Tryz.prog o a w K Q else E := by
  have hw : Region.wanted o (yielded ops a.tmps) = true := by simp [Region.wanted, hgd]
  rw [if_pos hw]
  unfold Oper.wp execOp
  simp only [ho, resolve, invoke, builtin, Sem.run_bind, Sem.run_pure, Result.andThen_ok, List.map_toArray, List.map_cons, List.map_nil, hs, hx, hr]
  exact h
/-- the cells of a row of stretches -/
def strs : List ((Int × Int) × (Int × Int)) → List Value
  | [] => []
  | s :: l => .int .i64 s.1.1 :: .int .i64 s.1.2 :: .int .i64 s.2.1 :: .int .i64 s.2.2 :: strs l
theorem strs_snoc : ∀ (l : List ((Int × Int) × (Int × Int))) (s : (Int × Int) × (Int × Int)), strs (l ++ [s]) = strs l ++ [.int .i64 s.1.1, .int .i64 s.1.2, .int .i64 s.2.1, .int .i64 s.2.2]
  | [], s => rfl
  | q :: l, s => by show _ :: _ :: _ :: _ :: strs (l ++ [s]) = _; rw [strs_snoc l s]; rfl
theorem strs_get : ∀ (l : List ((Int × Int) × (Int × Int))) (i : Nat) (s : (Int × Int) × (Int × Int)), l[i]? = some s → (strs l)[i * 4]? = some (.int .i64 s.1.1) ∧ (strs l)[i * 4 + 1]? = some (.int .i64 s.1.2) ∧ (strs l)[i * 4 + 2]? = some (.int .i64 s.2.1) ∧ (strs l)[i * 4 + 3]? = some (.int .i64 s.2.2)
  | [], i, s, h => by simp at h
  | q :: l, 0, s, h => by simp at h; subst h; exact ⟨rfl, rfl, rfl, rfl⟩
  | q :: l, i + 1, s, h => by
    have := strs_get l i s (by simpa using h)
    rw [show (i + 1) * 4 = i * 4 + 4 by omega]
    exact this
/-- stretches in a row of their own -/
def Rs (w : World) (base : Nat) (v : Value) (L : List ((Int × Int) × (Int × Int))) : Prop := w.ownsRow base 80 4 v L.length (strs L)
theorem Rs.nil (w : World) (base : Nat) : Rs w base (.slice none 0 0) [] := World.ownsRow_nil _ _ _ _
theorem Rs.later {w w' : World} {base : Nat} {v : Value} {L : List ((Int × Int) × (Int × Int))} (h : Rs w base v L) (hb : Below w.heap.size w w') : Rs w' base v L :=
  World.ownsRow.kept (row := none) h ⟨hb.os, hb.tape, hb.output, hb.size, fun k hk _ => hb.block k hk⟩ (by cases hv : v.ownBlock <;> simp)
theorem Rs.drew {w : World} {base : Nat} {v : Value} {L : List ((Int × Int) × (Int × Int))} (h : Rs w base v L) : Rs w.drew base v L := h.later (below_drewN (Below.refl _ _) 1)
theorem info_str23 : (Tryz.prog.info? 80).map (fun i => (i.zero, i.size, i.bytes)) = some (some (.agg #[.int .i64 0, .int .i64 0, .int .i64 0, .int .i64 0]), 4, 32) := by kernel_rfl
/-- one stretch more -/
theorem Rs.snoc {W : World} {base b : Nat} {v : Value} {L : List ((Int × Int) × (Int × Int))} {p q r t : Int} (h : Rs W base v L) (hL : L.length ≤ 100000) (hb : base ≤ W.heap.size) (hN : Pb W b 80 #[.int .i64 p, .int .i64 q, .int .i64 r, .int .i64 t]) :
    ∃ v' w', (Builtin.append_ #[111, 111] 111 #[v, .slice (some ⟨b, 0, none⟩) 1 1]).run Tryz.prog W = .ok v' w' ∧ Rs w' base v' (L ++ [((p, q), (r, t))]) ∧ ∀ {w0 : World} {B : Nat}, Below B w0 W → B ≤ base → Below B w0 w' := by
  obtain ⟨i, hi, hz, h1, h2⟩ := info_parts23 info_str23
  have hq : ∀ (j : Nat) (u : Value), [Value.int .i64 p, Value.int .i64 q, Value.int .i64 r, Value.int .i64 t][j]? = some u → W.cell? ((⟨b, 0, none⟩ : Addr).add j) = some u := fun j u hu => by
    have hadd : (⟨b, 0, none⟩ : Addr).add j = ⟨b, j, none⟩ := by unfold Addr.add; split <;> simp_all
    rw [hadd]
    exact hN.cell j (by rw [← hu]; exact (Array.getElem?_toList ..).symm)
  obtain ⟨v', w', hr, hO, hg, _⟩ := run_append_own (P := Tryz.prog) (w := W) base 111 111 80 i _ 4 32 Tryz.underlying111 hi hz h1 h2 rfl (by decide) v L.length (strs L) h ⟨b, 0, none⟩ 1 1 [Value.int .i64 p, Value.int .i64 q, Value.int .i64 r, Value.int .i64 t] rfl hq (by simp [Value.oneCell']) (by unfold maxLen; omega) (by omega) hb
  refine ⟨v', w', hr, ?_, fun hB hBb => grown_low hB hg h hBb (by omega)⟩
  show World.ownsRow _ _ _ _ _ _ _
  rw [strs_snoc, List.length_append]
  exact hO
/-- the stretches of a row of places -/
def strL (Q : Nat → Int × Int) : Nat → List ((Int × Int) × (Int × Int))
  | 0 => []
  | m + 1 => strL Q m ++ [(loP (Q m) (Q (m + 1)), hiP (Q m) (Q (m + 1)))]
theorem strL_len (Q : Nat → Int × Int) : ∀ m, (strL Q m).length = m
  | 0 => rfl
  | m + 1 => by unfold strL; rw [List.length_append, strL_len Q m]; rfl
theorem strL_get (Q : Nat → Int × Int) : ∀ m i, i < m → (strL Q m)[i]? = some (loP (Q i) (Q (i + 1)), hiP (Q i) (Q (i + 1)))
  | 0, i, h => absurd h (by omega)
  | m + 1, i, h => by
    unfold strL
    by_cases e : i = m
    · subst e
      rw [List.getElem?_append_right (by rw [strL_len]; omega), strL_len]
      simp
    · rw [List.getElem?_append_left (by rw [strL_len]; omega)]
      exact strL_get Q m i (by omega)
theorem wrap_less {K j : Nat} (h : K = j + 1) (hK : K ≤ 1000000) : IntKind.i64.wrap ((K : Int) - 1) = (j : Int) := by
  rw [IntKind.wrap_i64]; omega
set_option maxHeartbeats 6400000 in
set_option maxRecDepth 100000 in
theorem stretches23_any {w : World} {o n c : Nat} {cs : Array Value} {Q : Nat → Int × Int} (hPb : Pb w o 78 cs) (hPc : ∀ i, i < n → PcAt cs i (Q i)) (hn : n ≤ 10000) :
    Calls Tryz.prog 63 #[.slice (some ⟨o, 0, none⟩) n c] w fun e w' => ∃ v, e = .returned v ∧ Rs w' w.heap.size v (strL Q (n - 1)) ∧ Below w.heap.size w w' := by
  go_enter Tryz.func63, Tryz.ntmps63
  go_wp2
  go_loopw [3, 4] (fun ov iv wr => ∃ K : Nat, 1 ≤ K ∧ (K ≤ n ∨ K = 1) ∧ iv = .int .i64 (K : Int) ∧ Hid (Rs wr w.heap.size ov (strL Q (K - 1))) ∧ Below w.heap.size w wr) (fun _ iv _ => n + 1 - (intOf iv).toNat)
  case atStart => exact ⟨1, by omega, Or.inr rfl, rfl, Rs.nil _ _, Below.refl _ _⟩
  case round =>
    obtain ⟨K, hK1, hK2, rfl, HR, hB⟩ := hrel
    by_cases hlt : K < n
    · obtain ⟨j, hj⟩ : ∃ j, K = j + 1 := ⟨K - 1, by omega⟩
      have hwr := wrap_less hj (by omega)
      have i1 : (K : Int) < (n : Int) := by omega
      have q1 : (0 : Int) ≤ (K : Int) := by omega
      have q2 : (0 : Int) ≤ (j : Int) := by omega
      have q3 : (j : Int) < (n : Int) := by omega
      have hKj : K - 1 = j := by omega
      rw [hKj] at HR
      clear hKj
      have hj2 : PcAt cs K (Q (j + 1)) := by rw [hj]; exact hPc (j + 1) (by omega)
      obtain ⟨x0, x1⟩ := hPc j (by omega)
      obtain ⟨x2, x3⟩ := hj2
      have hcl : Hid (∀ w', Below w.heap.size w w' → w'.cell? ⟨o, j * 2, none⟩ = some (.int .i64 (Q j).1) ∧ w'.cell? ⟨o, j * 2 + 1, none⟩ = some (.int .i64 (Q j).2) ∧ w'.cell? ⟨o, K * 2, none⟩ = some (.int .i64 (Q (j + 1)).1) ∧ w'.cell? ⟨o, K * 2 + 1, none⟩ = some (.int .i64 (Q (j + 1)).2)) := fun w' q => ⟨(hPb.later q).cell _ x0, (hPb.later q).cell _ x1, (hPb.later q).cell _ x2, (hPb.later q).cell _ x3⟩
      have hApp1 : ∀ wA, Below wr.heap.size wr wA → ∃ v' w', (Builtin.append_ #[111, 111] 111 #[u3, .slice (some ⟨wA.heap.size, 0, none⟩) 1 1]).run Tryz.prog (wA.alloc (.cells #[.int .i64 (loP (Q j) (Q (j + 1))).1, .int .i64 (loP (Q j) (Q (j + 1))).2, .int .i64 (hiP (Q j) (Q (j + 1))).1, .int .i64 (hiP (Q j) (Q (j + 1))).2] 80)) = .ok v' w' ∧ Hid (Rs w' w.heap.size v' (strL Q (j + 1))) ∧ Below w.heap.size w w' := fun wA hA => by
        have hw := hB.trans (hA.mono hB.size)
        have al := alloc_below (w := wA) (.cells #[.int .i64 (loP (Q j) (Q (j + 1))).1, .int .i64 (loP (Q j) (Q (j + 1))).2, .int .i64 (hiP (Q j) (Q (j + 1))).1, .int .i64 (hiP (Q j) (Q (j + 1))).2] 80)
        have R1 := (HR.out.later hA).later al
        have N1 := Pb.new wA 80 #[.int .i64 (loP (Q j) (Q (j + 1))).1, .int .i64 (loP (Q j) (Q (j + 1))).2, .int .i64 (hiP (Q j) (Q (j + 1))).1, .int .i64 (hiP (Q j) (Q (j + 1))).2]
        have B1 := hw.trans (al.mono hw.size)

        obtain ⟨v', w', hr, hR, hb⟩ := R1.snoc (by rw [strL_len]; omega) B1.size N1
        exact ⟨v', w', hr, hR, hb B1 (Nat.le_refl _)⟩
      have hApp2 : ∀ wA, Below wr.heap.size wr wA → ∃ v' w', (Builtin.append_ #[111, 111] 111 #[u3, .slice (some ⟨wA.heap.size, 0, none⟩) 1 1]).run Tryz.prog (wA.alloc (.cells #[.int .i64 (loP (Q j) (Q (j + 1))).1, .int .i64 (loP (Q j) (Q (j + 1))).2, .int .i64 (hiP (Q j) (Q (j + 1))).1, .int .i64 (hiP (Q j) (Q (j + 1))).2] 80)).drew = .ok v' w' ∧ Hid (Rs w' w.heap.size v' (strL Q (j + 1))) ∧ Below w.heap.size w w' := fun wA hA => by
        have hw := hB.trans (hA.mono hB.size)
        have al := alloc_below (w := wA) (.cells #[.int .i64 (loP (Q j) (Q (j + 1))).1, .int .i64 (loP (Q j) (Q (j + 1))).2, .int .i64 (hiP (Q j) (Q (j + 1))).1, .int .i64 (hiP (Q j) (Q (j + 1))).2] 80)
        have R1 := (HR.out.later hA).later al
        have N1 := Pb.new wA 80 #[.int .i64 (loP (Q j) (Q (j + 1))).1, .int .i64 (loP (Q j) (Q (j + 1))).2, .int .i64 (hiP (Q j) (Q (j + 1))).1, .int .i64 (hiP (Q j) (Q (j + 1))).2]
        have B1 := hw.trans (al.mono hw.size)
        replace R1 := R1.drew
        have N1 : Pb (wA.alloc (.cells #[.int .i64 (loP (Q j) (Q (j + 1))).1, .int .i64 (loP (Q j) (Q (j + 1))).2, .int .i64 (hiP (Q j) (Q (j + 1))).1, .int .i64 (hiP (Q j) (Q (j + 1))).2] 80)).drew wA.heap.size 80 #[.int .i64 (loP (Q j) (Q (j + 1))).1, .int .i64 (loP (Q j) (Q (j + 1))).2, .int .i64 (hiP (Q j) (Q (j + 1))).1, .int .i64 (hiP (Q j) (Q (j + 1))).2] := N1
        replace B1 := below_drewN B1 1
        obtain ⟨v', w', hr, hR, hb⟩ := R1.snoc (by rw [strL_len]; omega) B1.size N1
        exact ⟨v', w', hr, hR, hb B1 (Nat.le_refl _)⟩
      have ho := hPb.lt
      have hBz := hB.size
      have HJ : Hid (K = j + 1) := hj
      clear hj x0 x1 x2 x3 hK2
      obtain ⟨i0, i1', i2, i3⟩ := hcl.out wr hB
      go_upto_region 5 with fail
      go_region_held_law (fun w' => w'.cell? ⟨o, j * 2, none⟩ = some (.int .i64 (Q j).1) ∧ w'.cell? ⟨o, j * 2 + 1, none⟩ = some (.int .i64 (Q j).2) ∧ w'.cell? ⟨o, K * 2, none⟩ = some (.int .i64 (Q (j + 1)).1) ∧ w'.cell? ⟨o, K * 2 + 1, none⟩ = some (.int .i64 (Q (j + 1)).2)) (first | exact ⟨i0, i1', i2, i3⟩ | go_keep) (first
        | (go_at_call 36; refine (between23_any (Q j) (Q (j + 1)) _).mono ?_; rintro e wA ⟨rfl, hbo⟩; have hbA := bel_step (a := wr) hbo (by first | exact Below.refl _ _ | exact below_drewN (Below.refl _ _) 1); have zA := hbA.size; have na : ¬ wA.heap.size = o := (by omega); have nb : ¬ o = wA.heap.size := (by omega); clear i0 i1' i2 i3; obtain ⟨i0, i1', i2, i3⟩ := hcl.out wA (hB.trans (hbA.mono hBz)))
        | (obtain ⟨v', wX, hr, HX, hX⟩ := hApp1 wA hbA; refine step_appS (by rfl) (.tmp 11) (.tmp 22) 111 (by rfl) u3 _ (by rfl) (by rfl) hr ?_; clear i0 i1' i2 i3; obtain ⟨i0, i1', i2, i3⟩ := hcl.out wX hX)
        | (obtain ⟨v', wX, hr, HX, hX⟩ := hApp2 wA hbA; refine step_appS (by rfl) (.tmp 11) (.tmp 22) 111 (by rfl) u3 _ (by rfl) (by rfl) hr ?_; clear i0 i1' i2 i3; obtain ⟨i0, i1', i2, i3⟩ := hcl.out wX hX))
      all_goals
        clear hApp1 hApp2 hr i0 i1' i2 i3 hwr
        go_wp2
        go_roundw
        case rel => exact ⟨K + 1, by omega, by omega, rfl, by rw [HJ.out]; exact HX, hX⟩
        case measure => simp [intOf]; omega
    · have hK : K - 1 = n - 1 := by omega
      rw [hK] at HR
      have hd : ¬ (K : Int) < (n : Int) := by omega
      go_wp2
      go_ret
      exact ⟨_, rfl, HR.out, hB⟩
end Go.Proofs.YtienpliknhkbjaaGreatDoor

/- package seg: Pairs of finite points (written by gensgeb.py). -/
namespace Go.Proofs.YtienpliknhkbjaaGreatDoor
open Go.ChangeShapes Go.WideShapes Go.ChangeAt Go.RowKit
open Na Ar
set_option linter.unusedVariables false
/-- hidden from the walk -/
structure HE (p : Prop) : Prop where
  mk ::
  out : p
/-- pairs of numbers in a row of their own -/
def Rp (w : World) (base : Nat) (v : Value) (L : List (Int × Int)) : Prop := w.ownsRow base 63 2 v L.length (plcs L)
theorem Rp.nil (w : World) (base : Nat) : Rp w base (.slice none 0 0) [] := World.ownsRow_nil _ _ _ _
theorem Rp.later {w w' : World} {base : Nat} {v : Value} {L : List (Int × Int)} (h : Rp w base v L) (hb : Below w.heap.size w w') : Rp w' base v L :=
  World.ownsRow.kept (row := none) h ⟨hb.os, hb.tape, hb.output, hb.size, fun k hk _ => hb.block k hk⟩ (by cases hv : v.ownBlock <;> simp)
theorem info_pr23 : (Tryz.prog.info? 63).map (fun i => (i.zero, i.size, i.bytes)) = some (some (.agg #[.int .i64 0, .int .i64 0]), 2, 16) := by kernel_rfl
/-- a block of another kind is not the row's -/
theorem Rp.apart {W : World} {base g : Nat} {v : Value} {L : List (Int × Int)} {cs : Array Value} (h : Rp W base v L) (hg : Pb W g 80 cs) : v.ownBlock ≠ some g := by
  rcases h.2 with ⟨rfl, _⟩ | ⟨b, cap, cur, rfl, _, hb, _⟩
  · intro e; cases e
  · intro e
    have e' : b = g := by simpa [Value.ownBlock] using e
    subst e'
    have hg' : W.heap[b]? = some (.cells cs 80 (0, 0)) := hg
    rw [hb] at hg'
    simp at hg'
theorem Rp.lower {w : World} {base base' : Nat} {v : Value} {L : List (Int × Int)} (h : Rp w base v L) (hb : base' ≤ base) : Rp w base' v L := by
  refine ⟨h.1, ?_⟩
  rcases h.2 with h | ⟨b, cap, cur, hv, hl, h⟩
  · exact Or.inl h
  · exact Or.inr ⟨b, cap, cur, hv, Nat.le_trans hb hl, h⟩
theorem Rp.slice {w : World} {base : Nat} {v : Value} {L : List (Int × Int)} (h : Rp w base v L) : ∃ a c, v = .slice a L.length c := by
  rcases h.2 with ⟨hv, hn⟩ | ⟨b, cap, cur, hv, _⟩
  · rw [hn]; exact ⟨none, 0, hv⟩
  · exact ⟨some ⟨b, 0, none⟩, cap, hv⟩
theorem Rs.slice {w : World} {base : Nat} {v : Value} {L : List ((Int × Int) × (Int × Int))} (h : Rs w base v L) : ∃ a c, v = .slice a L.length c := by
  rcases h.2 with ⟨hv, hn⟩ | ⟨b, cap, cur, hv, _⟩
  · rw [hn]; exact ⟨none, 0, hv⟩
  · exact ⟨some ⟨b, 0, none⟩, cap, hv⟩
theorem Rs.opens {w : World} {base : Nat} {v : Value} {L : List ((Int × Int) × (Int × Int))} (h : Rs w base v L) (hL : L ≠ []) : ∃ b c, v = .slice (some ⟨b, 0, none⟩) L.length c ∧ b < w.heap.size ∧
    ∀ i s, L[i]? = some s → w.cell? ⟨b, i * 4, none⟩ = some (.int .i64 s.1.1) ∧ w.cell? ⟨b, i * 4 + 1, none⟩ = some (.int .i64 s.1.2) ∧ w.cell? ⟨b, i * 4 + 2, none⟩ = some (.int .i64 s.2.1) ∧ w.cell? ⟨b, i * 4 + 3, none⟩ = some (.int .i64 s.2.2) := by
  have h' := h
  rcases h.2 with ⟨_, hn⟩ | ⟨b, cap, cur, hv, _⟩
  · exact absurd (List.eq_nil_of_length_eq_zero hn) hL
  · have ho : v.ownBlock = some b := by rw [hv]; rfl
    refine ⟨b, cap, hv, (World.ownsRow.lt h' b ho).2, fun i s hi => ?_⟩
    have hc := World.ownsRow.cells h' ho
    obtain ⟨e1, e2, e3, e4⟩ := strs_get _ i s hi
    have k1 := hc _ _ e1
    have k2 := hc _ _ e2
    have k3 := hc _ _ e3
    have k4 := hc _ _ e4
    have ad : ∀ j, (⟨b, 0, none⟩ : Addr).add j = ⟨b, j, none⟩ := fun j => by unfold Addr.add; split <;> simp_all
    rw [ad] at k1 k2 k3 k4
    exact ⟨k1, k2, k3, k4⟩
/-- the kind of the meeting of two of a line's stretches -/
def kdQ (Q : Nat → Int × Int) (i j : Nat) : Int := (mtP (loP (Q i) (Q (i + 1))) (hiP (Q i) (Q (i + 1))) (loP (Q j) (Q (j + 1))) (hiP (Q j) (Q (j + 1)))).1.1
/-- are they neighbours? -/
def nbQ (cl : Bool) (m i j : Nat) : Bool := decide (j = i + 1) || (cl && decide (i = 0) && decide (j = m - 1))
def clQ (Q : Nat → Int × Int) (m : Nat) : Bool := decide (2 < m) && decide (Q 0 = Q m)
def inQ (Q : Nat → Int × Int) (m i j : Nat) : Bool := decide (kdQ Q i j = 2) || (decide (kdQ Q i j = 1) && !nbQ (clQ Q m) m i j)
/-- the pairs of one stretch with the next k -/
def rowQ (f : Nat → Nat → Bool) (i : Nat) : Nat → List (Int × Int)
  | 0 => []
  | k + 1 => rowQ f i k ++ (if f i (i + 1 + k) = true then [((i : Int), ((i + 1 + k : Nat) : Int))] else [])
/-- the pairs of the first t stretches of m -/
def allQ (f : Nat → Nat → Bool) (m : Nat) : Nat → List (Int × Int)
  | 0 => []
  | t + 1 => allQ f m t ++ rowQ f t (m - 1 - t)
theorem rowQ_len (f : Nat → Nat → Bool) (i : Nat) : ∀ k, (rowQ f i k).length ≤ k
  | 0 => Nat.le_refl _
  | k + 1 => by
    have := rowQ_len f i k
    unfold rowQ
    rw [List.length_append]
    split <;> simp <;> omega
theorem allQ_len (f : Nat → Nat → Bool) (m : Nat) : ∀ t, (allQ f m t).length ≤ t * m
  | 0 => by simp [allQ]
  | t + 1 => by
    have h1 := allQ_len f m t
    have h2 := rowQ_len f t (m - 1 - t)
    unfold allQ
    rw [List.length_append, Nat.add_mul]
    omega
set_option maxHeartbeats 12800000 in
set_option maxRecDepth 100000 in
theorem Pairs23_fin {w : World} {g n c : Nat} {P : Nat → Int × Int} (hP : PtAt w g 0 P n) (hg : g < w.heap.size) (hn1 : 2 ≤ n) (hn : n ≤ 512) (hf : ∀ i, i < n → fin2 (P i)) :
    Calls Tryz.prog 28 #[.slice (some ⟨g, 0, none⟩) n c] w fun e w' => ∃ v, e = .returned (.tuple #[v, .int .i64 0]) ∧ Rp w' w.heap.size v (allQ (inQ (fun i => rkP (P i)) (n - 1)) (n - 1) (n - 1)) ∧ Below w.heap.size w w' := by
  have c1 := places23_any (c := c) hP hg (by omega)
  have hn2 : ¬ (512 : Int) < (n : Int) := by omega
  have hU : ∀ i, i < n → U2 (P i) := fun i hi => ⟨(hP i hi).2.2.1, (hP i hi).2.2.2⟩
  go_enter Tryz.func28, Tryz.ntmps28
  go_wp2_with fail
  refine c1.mono ?_
  rintro e wA (⟨_, o, cs, rfl, hPb, hwo, hcs, hPc, hbA⟩ | ⟨⟨i, hi, hno⟩, _⟩)
  case inr => exact absurd (hf i hi) hno
  obtain ⟨Q, hQ⟩ : ∃ Q : Nat → Int × Int, Q = fun i => rkP (P i) := ⟨_, rfl⟩
  have hPc' : ∀ i, i < n → PcAt cs i (Q i) := fun i hi => by rw [hQ]; exact hPc i hi
  have hok : ∀ i, i < n → pOk (Q i) := fun i hi => by rw [hQ]; exact rkP_ok (hU i hi) (hf i hi)
  have HQ : Hid (Q = fun i => rkP (P i)) := hQ
  clear hQ hPc hU hf c1
  go_wp2_with fail
  refine (stretches23_any hPb hPc' (by omega)).mono ?_
  rintro e wS ⟨v6, rfl, hRs, hbS⟩
  obtain ⟨m, hm⟩ : ∃ m, m = n - 1 := ⟨_, rfl⟩
  have HM : Hid (m = n - 1) := hm
  have hm1 : 1 ≤ m := by omega
  have hmn : n = m + 1 := by omega
  have hm5 : m ≤ 511 := by omega
  rw [← hm] at hRs
  have hne : strL Q m ≠ [] := fun e => by have := strL_len Q m; rw [e] at this; simp at this; omega
  obtain ⟨b, c6, rfl, hb6, hcell⟩ := hRs.opens hne
  rw [strL_len]
  have hline : ∀ i, i < m → ∀ w', Below wS.heap.size wS w' → w'.cell? ⟨b, i * 4, none⟩ = some (.int .i64 (loP (Q i) (Q (i + 1))).1) ∧ w'.cell? ⟨b, i * 4 + 1, none⟩ = some (.int .i64 (loP (Q i) (Q (i + 1))).2) ∧ w'.cell? ⟨b, i * 4 + 2, none⟩ = some (.int .i64 (hiP (Q i) (Q (i + 1))).1) ∧ w'.cell? ⟨b, i * 4 + 3, none⟩ = some (.int .i64 (hiP (Q i) (Q (i + 1))).2) := fun i hi w' q => by
    obtain ⟨k1, k2, k3, k4⟩ := hcell i _ (strL_get Q m i hi)
    exact ⟨(q.cell (p := ⟨b, i * 4, none⟩) hb6).trans k1, (q.cell (p := ⟨b, i * 4 + 1, none⟩) hb6).trans k2, (q.cell (p := ⟨b, i * 4 + 2, none⟩) hb6).trans k3, (q.cell (p := ⟨b, i * 4 + 3, none⟩) hb6).trans k4⟩
  have hmt : ∀ i j, i < m → j < m → ∃ pr p1 p2 q1 q2, ∀ w, Calls Tryz.prog 35 #[.agg #[.int .i64 (loP (Q i) (Q (i + 1))).1, .int .i64 (loP (Q i) (Q (i + 1))).2, .int .i64 (hiP (Q i) (Q (i + 1))).1, .int .i64 (hiP (Q i) (Q (i + 1))).2], .agg #[.int .i64 (loP (Q j) (Q (j + 1))).1, .int .i64 (loP (Q j) (Q (j + 1))).2, .int .i64 (hiP (Q j) (Q (j + 1))).1, .int .i64 (hiP (Q j) (Q (j + 1))).2]] w fun e w' => e = .returned (.agg #[.int .i64 (kdQ Q i j), .bool pr, .int .u64 p1, .int .u64 p2, .int .u64 q1, .int .u64 q2]) ∧ Below w.heap.size w w' := fun i j hi hj => by
    have l1 := lohi_ok (hok i (by omega)) (hok (i + 1) (by omega))
    have l2 := lohi_ok (hok j (by omega)) (hok (j + 1) (by omega))
    exact ⟨_, _, _, _, _, fun w => meet23_any l1.1 l1.2 l2.1 l2.2 (lohi_le _ _) (lohi_le _ _) w⟩
  have HL := HE.mk hline
  have HT := HE.mk hmt
  have hPS := hPb.later hbS
  obtain ⟨x0, x1⟩ := hPc' 0 (by omega)
  obtain ⟨x2, x3⟩ := hPc' m (by omega)
  have z0 := hPS.cell _ x0
  have z1 := hPS.cell _ x1
  have z2 := hPS.cell _ x2
  have z3 := hPS.cell _ x3
  simp only [Nat.zero_mul, Nat.zero_add] at z0 z1
  have hB0 : Below w.heap.size w wS := hbA.trans (hbS.mono hbA.size)
  have HN : Hid (n = m + 1) := hmn
  have HBS : Hid (Below w.heap.size w wS) := hB0
  have j1 : (1 : Int) ≤ (m : Int) := by omega
  have j2 : (m : Int) ≤ 511 := by omega
  clear hline hmt hcell hRs hne hPb hPc' hPS x0 x1 x2 x3 hwo hcs hbA hbS hB0 hb6 hm hmn hok hn2
  go_upto_region 8 with fail
  go_cut [8] from 31 to 43 (fun v wx => v = .bool (clQ Q m) ∧ Below wS.heap.size wS wx)
  case first =>
    by_cases h2 : 2 < m
    · have i1 : (1 : Int) < (m : Int) - 1 := by omega
      have i2 : (m : Int) - 1 + 1 = (m : Int) := by omega
      have i3 : IntKind.i64.wrap ((m : Int) - 1 + 1) = (m : Int) := by rw [IntKind.wrap_i64]; omega
      have i4 : (m : Int) < (n : Int) := by have := HN.out; omega
      have i5 : (0 : Int) < (n : Int) := by omega
      by_cases hq : Q 0 = Q m
      · have HV : Hid (clQ Q m = true) := by show _ = _; unfold clQ; rw [decide_eq_true h2, decide_eq_true hq]; rfl
        rw [hq] at z0 z1
        clear hq
        go_quiet (fail)
        go_wp2
        go_meet
        exact ⟨by rw [HV.out], below_drewN (Below.refl _ _) _⟩
      · have HV : Hid (clQ Q m = false) := by show _ = _; unfold clQ; rw [decide_eq_false hq, Bool.and_false]
        by_cases h1 : (Q 0).1 = (Q m).1
        · have h3 : ¬ (Q 0).2 = (Q m).2 := fun e => hq (Prod.ext h1 e)
          have h4 : ((Q 0).2 == (Q m).2) = false := by simpa using h3
          rw [h1] at z0
          clear hq h1
          go_quiet (fail)
          go_wp2
          go_meet
          exact ⟨by rw [HV.out], below_drewN (Below.refl _ _) _⟩
        · have h4 : ((Q 0).1 == (Q m).1) = false := by simpa using h1
          clear hq
          go_quiet (fail)
          go_wp2
          go_meet
          exact ⟨by rw [HV.out], below_drewN (Below.refl _ _) _⟩
    · have i1 : ¬ (1 : Int) < (m : Int) - 1 := by omega
      have HV : Hid (clQ Q m = false) := by show _ = _; unfold clQ; rw [decide_eq_false h2, Bool.false_and]
      go_quiet (fail)
      go_wp2
      go_meet
      exact ⟨by rw [HV.out], below_drewN (Below.refl _ _) _⟩
  obtain ⟨rfl, hbC⟩ := hcut
  obtain ⟨w8, hw8⟩ : ∃ q, q = wc := ⟨_, rfl⟩
  subst hw8
  clear z0 z1 z2 z3
  generalize hcl : clQ Q m = cl at *
  have HCL : Hid (clQ Q m = cl) := hcl
  clear hcl
  have HB8 : Hid (Below wS.heap.size wS w8) := hbC
  clear hbC
  go_upto_region 10 with fail
  obtain ⟨f, hf⟩ : ∃ f, f = inQ Q m := ⟨_, rfl⟩
  have HF : Hid (f = inQ Q m) := hf
  clear hf
  go_wp2
  go_loopw [9, 46] (fun ov iv wr => ∃ t : Nat, t ≤ m ∧ iv = .int .i64 (t : Int) ∧ Hid (Rp wr w8.heap.size ov (allQ f m t)) ∧ Below w8.heap.size w8 wr) (fun _ iv _ => m - (intOf iv).toNat)
  case atStart => exact ⟨0, by omega, rfl, Rp.nil _ _, Below.refl _ _⟩
  case round =>
    obtain ⟨t, ht, rfl, HR, hB⟩ := hrel
    by_cases hlt : t < m
    · have i1 : (t : Int) < (m : Int) := by omega
      have i2 : (0 : Int) ≤ (t : Int) := by omega
      have hBz := hB.size
      have hb8z := HB8.out.size
      have HBr : Hid (Below wS.heap.size wS wr) := HB8.out.trans (hB.mono HB8.out.size)
      obtain ⟨k0, k1, k2, k3⟩ := HL.out t hlt wr HBr.out
      have al := alloc_below (w := wr) (.cells #[.int .i64 (loP (Q t) (Q (t + 1))).1, .int .i64 (loP (Q t) (Q (t + 1))).2, .int .i64 (hiP (Q t) (Q (t + 1))).1, .int .i64 (hiP (Q t) (Q (t + 1))).2] 80)
      have NS := Pb.new wr 80 #[.int .i64 (loP (Q t) (Q (t + 1))).1, .int .i64 (loP (Q t) (Q (t + 1))).2, .int .i64 (hiP (Q t) (Q (t + 1))).1, .int .i64 (hiP (Q t) (Q (t + 1))).2]
      go_upto_region 13 with fail
      obtain ⟨gs, hgs⟩ : ∃ gs, gs = wr.heap.size := ⟨_, rfl⟩
      rw [← hgs] at NS ⊢
      clear hgs k0 k1 k2 k3
      have R1 : Hid (Rp (wr.alloc (.cells #[.int .i64 (loP (Q t) (Q (t + 1))).1, .int .i64 (loP (Q t) (Q (t + 1))).2, .int .i64 (hiP (Q t) (Q (t + 1))).1, .int .i64 (hiP (Q t) (Q (t + 1))).2] 80)) w8.heap.size u9 (allQ f m t)) := HR.out.later al
      have B1 := hB.trans (al.mono hBz)
      generalize wr.alloc (.cells #[.int .i64 (loP (Q t) (Q (t + 1))).1, .int .i64 (loP (Q t) (Q (t + 1))).2, .int .i64 (hiP (Q t) (Q (t + 1))).1, .int .i64 (hiP (Q t) (Q (t + 1))).2] 80) = wi at *
      clear al HBr HR
      go_wp2
      go_loopw [9, 12] (fun ov jv wj => ∃ k : Nat, k ≤ m - 1 - t ∧ jv = .int .i64 ((t + 1 + k : Nat) : Int) ∧ Hid (Rp wj w8.heap.size ov (allQ f m t ++ rowQ f t k)) ∧ Below w8.heap.size w8 wj ∧ Pb wj gs 80 #[.int .i64 (loP (Q t) (Q (t + 1))).1, .int .i64 (loP (Q t) (Q (t + 1))).2, .int .i64 (hiP (Q t) (Q (t + 1))).1, .int .i64 (hiP (Q t) (Q (t + 1))).2]) (fun _ jv _ => m - (intOf jv).toNat)
      case atStart => exact ⟨0, by omega, by simp, by show Rp _ _ _ _; rw [show rowQ f t 0 = [] from rfl, List.append_nil]; exact R1.out, B1, NS⟩
      case round =>
        obtain ⟨k, hk, rfl, HRj, hBj, NSj⟩ := hrel
        by_cases hlt2 : k < m - 1 - t
        · obtain ⟨j, hj⟩ : ∃ j, j = t + 1 + k := ⟨_, rfl⟩
          rw [← hj]
          have hjm : j < m := by omega
          have q1 : (j : Int) ≤ (m : Int) - 1 := by omega
          have q2 : (0 : Int) ≤ (j : Int) := by omega
          have q3 : (j : Int) < (m : Int) := by omega
          have HJ : Hid (j = t + 1 + k) := hj
          obtain ⟨pr, p1, p2, q1', q2', mt⟩ := HT.out t j hlt hjm
          have HBj : Hid (Below wS.heap.size wS wr) := HB8.out.trans (hBj.mono HB8.out.size)
          clear hj
          generalize hkd : kdQ Q t j = kd at *
          have HKD : Hid (kdQ Q t j = kd) := hkd
          clear hkd
          have hgs := NSj.lt
          have hfd : ∀ w, Sem.run Tryz.prog (Instr.field 29 (.agg #[.int .i64 kd, .bool pr, .int .u64 p1, .int .u64 p2, .int .u64 q1', .int .u64 q2']) 0) w = .ok (.int .i64 kd) w := fun w => by
            first | rfl | kernel_rfl
          go_upto_region 16 with fail
          go_cut [13] from 58 to 64 (fun v wx => v = .int .i64 kd ∧ Below wr.heap.size wr wx)
          case first =>
            have hcl : Hid (∀ w', Below wr.heap.size wr w' → w'.cell? ⟨gs, 0, none⟩ = some (.int .i64 (loP (Q t) (Q (t + 1))).1) ∧ w'.cell? ⟨gs, 1, none⟩ = some (.int .i64 (loP (Q t) (Q (t + 1))).2) ∧ w'.cell? ⟨gs, 2, none⟩ = some (.int .i64 (hiP (Q t) (Q (t + 1))).1) ∧ w'.cell? ⟨gs, 3, none⟩ = some (.int .i64 (hiP (Q t) (Q (t + 1))).2) ∧ w'.cell? ⟨b, j * 4, none⟩ = some (.int .i64 (loP (Q j) (Q (j + 1))).1) ∧ w'.cell? ⟨b, j * 4 + 1, none⟩ = some (.int .i64 (loP (Q j) (Q (j + 1))).2) ∧ w'.cell? ⟨b, j * 4 + 2, none⟩ = some (.int .i64 (hiP (Q j) (Q (j + 1))).1) ∧ w'.cell? ⟨b, j * 4 + 3, none⟩ = some (.int .i64 (hiP (Q j) (Q (j + 1))).2)) := fun w' q => ⟨(NSj.later q).cell 0 rfl, (NSj.later q).cell 1 rfl, (NSj.later q).cell 2 rfl, (NSj.later q).cell 3 rfl, HL.out j hjm w' (HBj.out.trans (q.mono HBj.out.size))⟩
            obtain ⟨a0, a1, a2, a3, a4, a5, a6, a7⟩ := hcl.out wr (Below.refl _ _)
            go_region_held3 (fun w' => w'.cell? ⟨gs, 0, none⟩ = some (.int .i64 (loP (Q t) (Q (t + 1))).1) ∧ w'.cell? ⟨gs, 1, none⟩ = some (.int .i64 (loP (Q t) (Q (t + 1))).2) ∧ w'.cell? ⟨gs, 2, none⟩ = some (.int .i64 (hiP (Q t) (Q (t + 1))).1) ∧ w'.cell? ⟨gs, 3, none⟩ = some (.int .i64 (hiP (Q t) (Q (t + 1))).2) ∧ w'.cell? ⟨b, j * 4, none⟩ = some (.int .i64 (loP (Q j) (Q (j + 1))).1) ∧ w'.cell? ⟨b, j * 4 + 1, none⟩ = some (.int .i64 (loP (Q j) (Q (j + 1))).2) ∧ w'.cell? ⟨b, j * 4 + 2, none⟩ = some (.int .i64 (hiP (Q j) (Q (j + 1))).1) ∧ w'.cell? ⟨b, j * 4 + 3, none⟩ = some (.int .i64 (hiP (Q j) (Q (j + 1))).2)) (go_keep) ((go_at_call 35; refine (mt _).mono ?_; rintro e wX ⟨rfl, hbo⟩; have hbX := bel_step (a := wr) hbo (by first | exact Below.refl _ _ | exact below_drewN (Below.refl _ _) 1); clear a0 a1 a2 a3 a4 a5 a6 a7; obtain ⟨a0, a1, a2, a3, a4, a5, a6, a7⟩ := hcl.out wX hbX))
            all_goals (go_wp2_with fail)
            all_goals go_meet
            exact ⟨rfl, hbX⟩
          obtain ⟨rfl, hbM⟩ := hcut
          obtain ⟨wm, hwm⟩ : ∃ q, q = wc := ⟨_, rfl⟩
          subst hwm
          clear mt
          have B2 := hBj.trans (hbM.mono hBj.size)
          have N2 := NSj.later hbM
          have R2 : Hid (Rp wm w8.heap.size u9 (allQ f m t ++ rowQ f t k)) := HRj.out.later hbM
          clear hbM HRj
          have e1 : ((j : Int) == (t : Int) + 1) = decide (j = t + 1) := by by_cases h : j = t + 1 <;> simp [h] <;> omega
          have e2 : ((t : Int) == 0) = decide (t = 0) := by by_cases h : t = 0 <;> simp [h]
          have e3 : ((j : Int) == (m : Int) - 1) = decide (j = m - 1) := by by_cases h : j = m - 1 <;> simp [h] <;> omega
          have HNB : Hid (nbQ cl m t j = (decide (j = t + 1) || (cl && decide (t = 0) && decide (j = m - 1)))) := rfl
          generalize decide (j = t + 1) = D1 at *
          generalize decide (t = 0) = D2 at *
          generalize decide (j = m - 1) = D3 at *
          generalize hnb : nbQ cl m t j = nb at *
          have HNBQ : Hid (nbQ cl m t j = nb) := hnb
          clear hnb
          go_upto_region 17 with fail
          go_cut [14] from 65 to 80 (fun v wx => v = .bool nb ∧ wm = wx)
          case first =>
            cases D1
            · cases cl
              · go_wp2; go_meet; exact ⟨by rw [HNB.out]; rfl, rfl⟩
              · cases D2
                · go_wp2; go_meet; exact ⟨by rw [HNB.out]; rfl, rfl⟩
                · cases D3
                  · go_wp2; go_meet; exact ⟨by rw [HNB.out]; rfl, rfl⟩
                  · go_wp2; go_meet; exact ⟨by rw [HNB.out]; rfl, rfl⟩
            · go_wp2; go_meet; exact ⟨by rw [HNB.out]; rfl, rfl⟩
          obtain ⟨rfl, hww⟩ := hcut
          subst hww
          clear e1 e2 e3
          have HIN : Hid (f t j = (decide (kd = 2) || (decide (kd = 1) && !nb))) := by
            show _ = _
            rw [HF.out]
            unfold inQ
            rw [HKD.out, HCL.out, HNBQ.out]
          go_upto_region 18 with fail
          go_cut [90] from 81 to 90 (fun v wx => v = .bool (f t j) ∧ wm = wx)
          case first =>
            by_cases h2 : kd = 2
            · have HV : Hid (f t j = true) := by show _ = _; rw [HIN.out, decide_eq_true h2]; rfl
              have h3 : (kd == 2) = true := by simpa using h2
              clear h2
              go_wp2; go_meet; exact ⟨by rw [HV.out], rfl⟩
            · have h3 : (kd == 2) = false := by simpa using h2
              by_cases h1 : kd = 1
              · have h4 : (kd == 1) = true := by simpa using h1
                have HV : Hid (f t j = !nb) := by show _ = _; rw [HIN.out, decide_eq_false h2, decide_eq_true h1]; rfl
                clear h1 h2
                cases nb
                · go_wp2; go_meet; exact ⟨by rw [HV.out]; rfl, rfl⟩
                · go_wp2; go_meet; exact ⟨by rw [HV.out]; rfl, rfl⟩
              · have h4 : (kd == 1) = false := by simpa using h1
                have HV : Hid (f t j = false) := by show _ = _; rw [HIN.out, decide_eq_false h2, decide_eq_false h1]; rfl
                clear h1 h2
                go_wp2; go_meet; exact ⟨by rw [HV.out], rfl⟩
          obtain ⟨rfl, hww⟩ := hcut
          subst hww
          clear HIN
          generalize hfj : f t j = D at *
          have HD : Hid (f t j = D) := hfj
          clear hfj
          cases D with
          | false =>
            go_wp2
            go_roundw
            case rel => exact ⟨k + 1, by omega, by rw [HJ.out]; rfl, by show Rp _ _ _ _; unfold rowQ; rw [← HJ.out, HD.out]; simpa using R2.out, B2, N2⟩
            case measure => simp [intOf]; omega
          | true =>
            have al := alloc_below (w := wm) (.cells #[.int .i64 (t : Int), .int .i64 (j : Int)] 63)
            have R3 := R2.out.later al
            have N3 := N2.later al
            have B3 := B2.trans (al.mono B2.size)
            have N4 := Pb.new wm 63 #[.int .i64 (t : Int), .int .i64 (j : Int)]
            obtain ⟨W, hW⟩ : ∃ W, W = wm.alloc (.cells #[.int .i64 (t : Int), .int .i64 (j : Int)] 63) := ⟨_, rfl⟩
            have HW : Hid (wm.alloc (.cells #[.int .i64 (t : Int), .int .i64 (j : Int)] 63) = W) := hW.symm
            rw [← hW] at R3 N3 B3 N4
            clear hW al
            have hrow4 : W.ownsRow w8.heap.size 63 2 u9 ((allQ f m t ++ rowQ f t k)).length (plcs ((allQ f m t ++ rowQ f t k))) := R3
            have hW1 : w8.heap.size ≤ W.heap.size := B3.size
            have hq4 : ∀ (z : Nat) (u : Value), [Value.int .i64 (t : Int), Value.int .i64 (j : Int)][z]? = some u → W.cell? ((⟨wm.heap.size, 0, none⟩ : Addr).add z) = some u := fun z u hu => by
              have hadd : (⟨wm.heap.size, 0, none⟩ : Addr).add z = ⟨wm.heap.size, z, none⟩ := by unfold Addr.add; split <;> simp_all
              rw [hadd]
              exact N4.cell z (by rw [← hu]; exact (Array.getElem?_toList ..).symm)
            have hlen : ((allQ f m t ++ rowQ f t k)).length ≤ 300000 := by
              rw [List.length_append]
              have a1 := allQ_len f m t
              have a2 := rowQ_len f t k
              have a3 : t * m ≤ 511 * 511 := Nat.mul_le_mul (by omega) (by omega)
              omega
            have hone : ∀ u ∈ [Value.int .i64 (t : Int), Value.int .i64 (j : Int)], u.oneCell' = true := by simp [Value.oneCell']
            have hne := Rp.apart R3 N3
            obtain ⟨i_t, hi_t, hz0, hz1, hz2⟩ := info_parts23 info_pr23
            have HX : Hid (Rp W w8.heap.size u9 (allQ f m t ++ rowQ f t k) ∧ Pb W gs 80 #[.int .i64 (loP (Q t) (Q (t + 1))).1, .int .i64 (loP (Q t) (Q (t + 1))).2, .int .i64 (hiP (Q t) (Q (t + 1))).1, .int .i64 (hiP (Q t) (Q (t + 1))).2] ∧ Below w8.heap.size w8 W ∧ u9.ownBlock ≠ some gs) := ⟨R3, N3, B3, hne⟩
            clear R3 N3 B3 N4 hne
            go_wp2_with (at_builtin; rw [HW.out]; refine wpList_append_own _ rfl _ _ 60 rfl w8.heap.size 63 i_t (.agg #[.int .i64 0, .int .i64 0]) 2 16 Tryz.underlying60 hi_t hz0 hz1 hz2 rfl (by decide) _ _ _ rfl hrow4 ⟨wm.heap.size, 0, none⟩ 1 1 [Value.int .i64 (t : Int), Value.int .i64 (j : Int)] rfl rfl hq4 hone (by unfold maxLen; omega) (by omega) hW1 ?_)
            intro v' w5 hO5 hg5 hn5
            obtain ⟨x1, x2, x3, x4⟩ := HX.out
            have hb5 := grown_low x3 hg5 hrow4 (Nat.le_refl _) hW1
            have hN5 : Pb w5 gs 80 #[.int .i64 (loP (Q t) (Q (t + 1))).1, .int .i64 (loP (Q t) (Q (t + 1))).2, .int .i64 (hiP (Q t) (Q (t + 1))).1, .int .i64 (hiP (Q t) (Q (t + 1))).2] := (hg5.block gs x2.lt (fun e => x4 e.symm)).trans x2
            have hr5 : Rp w5 w8.heap.size v' (allQ f m t ++ rowQ f t (k + 1)) := by
              show World.ownsRow _ _ _ _ _ _ _
              unfold rowQ
              rw [← HJ.out, HD.out, if_pos rfl, ← List.append_assoc, plcs_snoc, List.length_append]
              first | exact hO5 | (rw [← List.length_append] at hO5; exact hO5)
            have H5 : Hid (Rp w5 w8.heap.size v' (allQ f m t ++ rowQ f t (k + 1)) ∧ Below w8.heap.size w8 w5 ∧ Pb w5 gs 80 #[.int .i64 (loP (Q t) (Q (t + 1))).1, .int .i64 (loP (Q t) (Q (t + 1))).2, .int .i64 (hiP (Q t) (Q (t + 1))).1, .int .i64 (hiP (Q t) (Q (t + 1))).2]) := ⟨hr5, hb5, hN5⟩
            clear hO5 hg5 hn5 hb5 hr5 hrow4 hq4 HX x1 x2 x3 x4 hN5
            go_wp2
            go_roundw
            case rel => exact ⟨k + 1, by omega, by rw [HJ.out]; rfl, H5.out.1, H5.out.2.1, H5.out.2.2⟩
            case measure => simp [intOf]; omega
        · have hk2 : k = m - 1 - t := by omega
          have hd : ¬ ((t + 1 + k : Nat) : Int) ≤ (m : Int) - 1 := by omega
          have HRo : Hid (Rp wr w8.heap.size u9 (allQ f m (t + 1))) := by
            show Rp _ _ _ _
            unfold allQ
            rw [← hk2]
            exact HRj.out
          clear hk2
          go_wp2
          go_roundw
          case rel => exact ⟨t + 1, by omega, rfl, HRo.out, hBj⟩
          case measure => simp [intOf]; omega
    · have htm : t = m := by omega
      have hd : ¬ (t : Int) < (m : Int) := by omega
      have HRo : Hid (Rp wr w8.heap.size u9 (allQ f m m)) := by
        have := HR.out
        rw [htm] at this
        exact this
      clear htm
      go_wp2
      go_ret2
      have hBB := HBS.out.trans (HB8.out.mono HBS.out.size)
      refine ⟨_, rfl, ?_, hBB.trans (hB.mono hBB.size)⟩
      have e : allQ (inQ (fun i => rkP (P i)) (n - 1)) (n - 1) (n - 1) = allQ f m m := by rw [HF.out, ← HQ.out, ← HM.out]
      rw [e]
      exact Rp.lower HRo.out (hBB.size)
end Go.Proofs.YtienpliknhkbjaaGreatDoor

/- plumblaw23: cut, a row of points of the call's own (written by gensgec.py). -/
namespace Go.Proofs.YtienpliknhkbjaaGreatDoor
open Go.ChangeShapes Go.WideShapes Go.ChangeAt Go.RowKit
open Na Ar
set_option linter.unusedVariables false
def pnts : List (Int × Int) → List Value
  | [] => []
  | p :: l => .int .u64 p.1 :: .int .u64 p.2 :: pnts l
theorem pnts_snoc : ∀ (l : List (Int × Int)) (p : Int × Int), pnts (l ++ [p]) = pnts l ++ [.int .u64 p.1, .int .u64 p.2]
  | [], p => rfl
  | q :: l, p => by show _ :: _ :: pnts (l ++ [p]) = _; rw [pnts_snoc l p]; rfl
theorem pnts_get : ∀ (l : List (Int × Int)) (i : Nat) (p : Int × Int), l[i]? = some p → (pnts l)[i * 2]? = some (.int .u64 p.1) ∧ (pnts l)[i * 2 + 1]? = some (.int .u64 p.2)
  | [], i, p, h => by simp at h
  | q :: l, 0, p, h => by simp at h; subst h; exact ⟨rfl, rfl⟩
  | q :: l, i + 1, p, h => by
    have := pnts_get l i p (by simpa using h)
    rw [show (i + 1) * 2 = i * 2 + 2 by omega]
    exact this
/-- points in a row of their own -/
def Rn (w : World) (base : Nat) (v : Value) (L : List (Int × Int)) : Prop := w.ownsRow base 24 2 v L.length (pnts L)
theorem Rn.nil (w : World) (base : Nat) : Rn w base (.slice none 0 0) [] := World.ownsRow_nil _ _ _ _
theorem Rn.later {w w' : World} {base : Nat} {v : Value} {L : List (Int × Int)} (h : Rn w base v L) (hb : Below w.heap.size w w') : Rn w' base v L :=
  World.ownsRow.kept (row := none) h ⟨hb.os, hb.tape, hb.output, hb.size, fun k hk _ => hb.block k hk⟩ (by cases hv : v.ownBlock <;> simp)
theorem info_pn23 : (Tryz.prog.info? 24).map (fun i => (i.zero, i.size, i.bytes)) = some (some (.agg #[.int .u64 0, .int .u64 0]), 2, 16) := by kernel_rfl
theorem Rn.slice {w : World} {base : Nat} {v : Value} {L : List (Int × Int)} (h : Rn w base v L) : ∃ a c, v = .slice a L.length c := by
  rcases h.2 with ⟨hv, hn⟩ | ⟨b, cap, cur, hv, _⟩
  · rw [hn]; exact ⟨none, 0, hv⟩
  · exact ⟨some ⟨b, 0, none⟩, cap, hv⟩
/-- the first points -/
def firsts (P : Nat → Int × Int) : Nat → List (Int × Int)
  | 0 => []
  | k + 1 => firsts P k ++ [P k]
theorem firsts_len (P : Nat → Int × Int) : ∀ k, (firsts P k).length = k
  | 0 => rfl
  | k + 1 => by unfold firsts; rw [List.length_append, firsts_len P k]; rfl
theorem firsts_get (P : Nat → Int × Int) : ∀ k i, i < k → (firsts P k)[i]? = some (P i)
  | 0, i, h => absurd h (by omega)
  | k + 1, i, h => by
    unfold firsts
    by_cases e : i = k
    · subst e
      rw [List.getElem?_append_right (by rw [firsts_len]; omega), firsts_len]
      simp
    · rw [List.getElem?_append_left (by rw [firsts_len]; omega)]
      exact firsts_get P k i (by omega)
set_option maxHeartbeats 6400000 in
set_option maxRecDepth 100000 in
theorem cut23_any {w : World} {v : Value} {n : Nat} {P : Nat → Int × Int} (h : PnAt w v n P) :
    Calls Tryz.prog 26 #[v] w fun e w' => ∃ v', e = .returned v' ∧ Rn w' w.heap.size v' (firsts P (min n 10)) ∧ Below w.heap.size w w' := by
  obtain ⟨hn, hv⟩ := h
  obtain ⟨a, c, rfl, hc⟩ : ∃ a c, v = .slice a n c ∧ ∀ i, i < n → ∃ b o, a = some ⟨b, o, none⟩ ∧ b < w.heap.size ∧ w.cell? ⟨b, o + i * 2, none⟩ = some (.int .u64 (P i).1) ∧ w.cell? ⟨b, o + i * 2 + 1, none⟩ = some (.int .u64 (P i).2) := by
    rcases hv with ⟨rfl, a, c, rfl⟩ | ⟨b, o, c, rfl, hP, hb⟩
    · exact ⟨a, c, rfl, fun i hi => absurd hi (by omega)⟩
    · exact ⟨_, c, rfl, fun i hi => ⟨b, o, rfl, hb (by omega), (hP i hi).1, (hP i hi).2.1⟩⟩
  unfold maxLen at hn
  have HC : Hid (∀ i, i < n → ∃ b o, a = some ⟨b, o, none⟩ ∧ b < w.heap.size ∧ w.cell? ⟨b, o + i * 2, none⟩ = some (.int .u64 (P i).1) ∧ w.cell? ⟨b, o + i * 2 + 1, none⟩ = some (.int .u64 (P i).2)) := hc
  clear hc hv
  obtain ⟨i_t, hi_t, hz0, hz1, hz2⟩ := info_parts23 info_pn23
  go_enter Tryz.func26, Tryz.ntmps26
  go_wp2
  go_loopw [3, 4] (fun ov iv wr => ∃ k : Nat, k ≤ n ∧ k ≤ 10 ∧ iv = .int .i64 (k : Int) ∧ Hid (Rn wr w.heap.size ov (firsts P k)) ∧ Below w.heap.size w wr) (fun _ iv _ => n - (intOf iv).toNat)
  case atStart => exact ⟨0, by omega, by omega, rfl, Rn.nil _ _, Below.refl _ _⟩
  case round =>
    obtain ⟨k, hk, hk10, rfl, HR, hB⟩ := hrel
    have j0 : (0 : Int) ≤ (k : Int) := by omega
    have hBz := hB.size
    by_cases hlt : k < n
    · have j1 : (k : Int) < (n : Int) := by omega
      by_cases h10 : k < 10
      · have j2 : (k : Int) < 10 := by omega
        obtain ⟨b, o, rfl, hb, x0, x1⟩ := HC.out k hlt
        have y0 := (hB.cell (p := ⟨b, o + k * 2, none⟩) hb).trans x0
        have y1 := (hB.cell (p := ⟨b, o + k * 2 + 1, none⟩) hb).trans x1
        have HPk : Hid (firsts P (k + 1) = firsts P k ++ [((P k).1, (P k).2)]) := rfl
        clear x0 x1
        generalize (P k).1 = x at *
        generalize (P k).2 = y at *
        have al := alloc_below (w := wr) (.cells #[.int .u64 x, .int .u64 y] 24)
        have R3 := HR.out.later al
        have B3 := hB.trans (al.mono hBz)
        have N4 := Pb.new wr 24 #[.int .u64 x, .int .u64 y]
        obtain ⟨W, hW⟩ : ∃ W, W = wr.alloc (.cells #[.int .u64 x, .int .u64 y] 24) := ⟨_, rfl⟩
        have HW : Hid (wr.alloc (.cells #[.int .u64 x, .int .u64 y] 24) = W) := hW.symm
        rw [← hW] at R3 B3 N4
        clear hW al
        have hrow4 : W.ownsRow w.heap.size 24 2 u3 (firsts P k).length (pnts (firsts P k)) := R3
        have hW1 : w.heap.size ≤ W.heap.size := B3.size
        have hq4 : ∀ (z : Nat) (u : Value), [Value.int .u64 x, Value.int .u64 y][z]? = some u → W.cell? ((⟨wr.heap.size, 0, none⟩ : Addr).add z) = some u := fun z u hu => by
          have hadd : (⟨wr.heap.size, 0, none⟩ : Addr).add z = ⟨wr.heap.size, z, none⟩ := by unfold Addr.add; split <;> simp_all
          rw [hadd]
          exact N4.cell z (by rw [← hu]; exact (Array.getElem?_toList ..).symm)
        have hlen : (firsts P k).length ≤ 300000 := by rw [firsts_len]; omega
        have hone : ∀ u ∈ [Value.int .u64 x, Value.int .u64 y], u.oneCell' = true := by simp [Value.oneCell']
        have HX : Hid (Below w.heap.size w W) := B3
        clear R3 B3 N4
        go_wp2_with (at_builtin; rw [HW.out]; refine wpList_append_own _ rfl _ _ 37 rfl w.heap.size 24 i_t (.agg #[.int .u64 0, .int .u64 0]) 2 16 Tryz.underlying37 hi_t hz0 hz1 hz2 rfl (by decide) _ _ _ rfl hrow4 ⟨wr.heap.size, 0, none⟩ 1 1 [Value.int .u64 x, Value.int .u64 y] rfl rfl hq4 hone (by unfold maxLen; omega) (by omega) hW1 ?_)
        intro v' w5 hO5 hg5 hn5
        have hb5 := grown_low HX.out hg5 hrow4 (Nat.le_refl _) hW1
        have hr5 : Rn w5 w.heap.size v' (firsts P (k + 1)) := by
          show World.ownsRow _ _ _ _ _ _ _
          rw [HPk.out, pnts_snoc, List.length_append]
          first | exact hO5 | (rw [← List.length_append] at hO5; exact hO5)
        have H5 : Hid (Rn w5 w.heap.size v' (firsts P (k + 1)) ∧ Below w.heap.size w w5) := ⟨hr5, hb5⟩
        clear hO5 hg5 hn5 hb5 hr5 hrow4 hq4 HX y0 y1
        go_wp2
        go_roundw
        case rel => exact ⟨k + 1, by omega, by omega, rfl, H5.out.1, H5.out.2⟩
        case measure => simp [intOf]; omega
      · have j2 : ¬ (k : Int) < 10 := by omega
        have e : min n 10 = k := by omega
        have HRo : Hid (Rn wr w.heap.size u3 (firsts P (min n 10))) := by show Rn _ _ _ _; rw [e]; exact HR.out
        clear e
        go_wp2
        go_ret
        exact ⟨_, rfl, HRo.out, hB⟩
    · have j1 : ¬ (k : Int) < (n : Int) := by omega
      have e : min n 10 = k := by omega
      have HRo : Hid (Rn wr w.heap.size u3 (firsts P (min n 10))) := by show Rn _ _ _ _; rw [e]; exact HR.out
      clear e
      go_wp2
      go_ret
      exact ⟨_, rfl, HRo.out, hB⟩
end Go.Proofs.YtienpliknhkbjaaGreatDoor

/- package seg: which pairs of a line's stretches Pairs tells (pure; for SegAll). -/
namespace Go.Proofs.YtienpliknhkbjaaGreatDoor
open Na Ar
set_option linter.unusedVariables false
section
variable {a b c d y : Int × Int} {M : (Int × Bool) × (Int × Int) × (Int × Int)}
/-- a meeting in one place: it is that end -/
theorem mt_one_all (ua : U2 a) (ub : U2 b) (uc : U2 c) (ud : U2 d) (fa : fin2 a) (fb : fin2 b) (fc : fin2 c) (fd : fin2 d) (h : MtIs a b c d M) (hk : M.1.1 = 1) (hy : onQ a b c d y) : M.2.1 = ptP y := by
  have hen := ends_is ua ub uc ud fa fb fc fd
  rcases mt_pred ua ub uc ud fa fb fc fd h with ⟨_, _, _, z⟩ | ⟨_, z, _⟩ | ⟨hp, _, _, _, x, hx, e⟩ | ⟨_, z, _⟩
  · exact absurd hy (z y)
  · rw [z] at hk; omega
  · rcases h with ⟨hp', rfl⟩ | ⟨_, v, u, _, _, rfl⟩
    · unfold mtQ at hp' hk ⊢
      have hn : ¬ prP (loP (rkP a) (rkP b)) (hiP (rkP a) (rkP b)) (loP (rkP c) (rkP d)) (hiP (rkP c) (rkP d)) := fun k => by
        rw [mtP_proper k] at hp'
        cases hp'
      have hY := (hen y).mpr hy
      cases he : endsP (loP (rkP a) (rkP b)) (hiP (rkP a) (rkP b)) (loP (rkP c) (rkP d)) (hiP (rkP c) (rkP d)) with
      | nil => rw [he] at hY; cases hY
      | cons m l =>
        rw [he] at hY
        by_cases hq : leastP m l = greatP m l
        · rw [mtP_one hn he hq]
          have e1 := least_le hY
          have e2 := great_ge hY
          rw [← hq] at e2
          rw [orP_anti e1 e2]
        · rw [mtP_many hn he hq] at hk
          exact absurd hk (by show ¬ (2 : Int) = 1; omega)
    · cases hp
  · rw [z] at hk; omega
theorem kd_is (h : MtIs a b c d M) : M.1.1 = (mtQ a b c d).1.1 := by
  rcases h with ⟨_, rfl⟩ | ⟨hp, v, u, _, _, rfl⟩
  · rfl
  · unfold mtQ at hp ⊢
    rw [(mt_bool (a := loP (rkP a) (rkP b))).2 hp]
theorem kd_in (ua : U2 a) (ub : U2 b) (uc : U2 c) (ud : U2 d) (fa : fin2 a) (fb : fin2 b) (fc : fin2 c) (fd : fin2 d) (h : MtIs a b c d M) : M.1.1 = 0 ∨ M.1.1 = 1 ∨ M.1.1 = 2 := by
  rcases mt_pred ua ub uc ud fa fb fc fd h with ⟨_, z, _⟩ | ⟨_, z, _⟩ | ⟨_, z, _⟩ | ⟨_, z, _⟩
  · exact Or.inr (Or.inl z)
  · exact Or.inl z
  · exact Or.inr (Or.inl z)
  · exact Or.inr (Or.inr z)
theorem bt_last (ua : U2 a) (ub : U2 b) (fa : fin2 a) (fb : fin2 b) : btQ a b b = true := by
  rw [← btQ_on ua ub ub fa fb fb]
  have l := lohi_le (rkP a) (rkP b)
  rcases lohi_two (rkP a) (rkP b) with ⟨h1, h2⟩ | ⟨h1, h2⟩
  · have := on_last l; rw [h2] at this ⊢; exact this
  · have := on_first l; rw [h1] at this ⊢; exact this
theorem bt_first (ua : U2 a) (ub : U2 b) (ud : U2 d) (fa : fin2 a) (fb : fin2 b) (fd : fin2 d) (h : rkP d = rkP a) : btQ a b d = true := by
  rw [← btQ_on ua ub ud fa fb fd, h]
  have l := lohi_le (rkP a) (rkP b)
  rcases lohi_two (rkP a) (rkP b) with ⟨h1, h2⟩ | ⟨h1, h2⟩
  · have := on_first l; rw [h1] at this ⊢; exact this
  · have := on_last l; rw [h2] at this ⊢; exact this
end
/-- two points of one place, told by their ranks -/
theorem sm_rk {a b : Int × Int} (ua : U2 a) (ub : U2 b) (fa : fin2 a) (fb : fin2 b) : decide (ordS (valR a.1) (valR a.2) (valR b.1) (valR b.2) = 0) = decide (rkP a = rkP b) := by
  rw [← orP_rk ua ub fa fb]
  by_cases h : rkP a = rkP b
  · rw [decide_eq_true h, decide_eq_true (orP_zero.mpr h)]
  · rw [decide_eq_false h, decide_eq_false (fun k => h (orP_zero.mp k))]
theorem rowQ_pre (f : Nat → Nat → Bool) (i : Nat) : ∀ k r, ∃ R, rowQ f i (k + r) = rowQ f i k ++ R
  | k, 0 => ⟨[], by simp⟩
  | k, r + 1 => by
    obtain ⟨R, h⟩ := rowQ_pre f i k r
    refine ⟨R ++ (if f i (i + 1 + (k + r)) = true then [((i : Int), ((i + 1 + (k + r) : Nat) : Int))] else []), ?_⟩
    rw [← Nat.add_assoc]
    show rowQ f i (k + r) ++ _ = _
    rw [h, List.append_assoc]
theorem allQ_pre (f : Nat → Nat → Bool) (m : Nat) : ∀ t r, ∃ R, allQ f m (t + r) = allQ f m t ++ R
  | t, 0 => ⟨[], by simp⟩
  | t, r + 1 => by
    obtain ⟨R, h⟩ := allQ_pre f m t r
    refine ⟨R ++ rowQ f (t + r) (m - 1 - (t + r)), ?_⟩
    rw [← Nat.add_assoc]
    show allQ f m (t + r) ++ _ = _
    rw [h, List.append_assoc]
/-- the next pair of the whole list -/
theorem allQ_next {f : Nat → Nat → Bool} {m t k : Nat} (ht : t < m) (hk : k < m - 1 - t) (hf : f t (t + 1 + k) = true) :
    (allQ f m m)[(allQ f m t ++ rowQ f t k).length]? = some ((t : Int), ((t + 1 + k : Nat) : Int)) := by
  obtain ⟨R, h⟩ := allQ_pre f m (t + 1) (m - (t + 1))
  rw [show t + 1 + (m - (t + 1)) = m by omega] at h
  obtain ⟨R', h'⟩ := rowQ_pre f t (k + 1) (m - 1 - t - (k + 1))
  rw [show k + 1 + (m - 1 - t - (k + 1)) = m - 1 - t by omega] at h'
  have e : allQ f m m = (allQ f m t ++ rowQ f t k) ++ ((t : Int), ((t + 1 + k : Nat) : Int)) :: (R' ++ R) := by
    rw [h]
    show allQ f m t ++ rowQ f t (m - 1 - t) ++ R = _
    rw [h']
    show allQ f m t ++ ((rowQ f t k ++ _) ++ R') ++ R = _
    rw [hf, if_pos rfl]
    simp [List.append_assoc]
  rw [e, List.getElem?_append_right (Nat.le_refl _), Nat.sub_self]
  rfl
end Go.Proofs.YtienpliknhkbjaaGreatDoor

/- package seg: Pairs of one point or none (written by gensgee.py). -/
namespace Go.Proofs.YtienpliknhkbjaaGreatDoor
open Go.ChangeShapes Go.WideShapes Go.ChangeAt Go.RowKit
open Na Ar
set_option linter.unusedVariables false
set_option maxHeartbeats 3200000 in
set_option maxRecDepth 100000 in
theorem places23_zero {w : World} {a : Option Addr} {c : Nat} :
    Calls Tryz.prog 34 #[.slice a 0 c] w fun e w' => ∃ o cs, e = .returned (.tuple #[.slice (some ⟨o, 0, none⟩) 0 0, .int .i64 0]) ∧ Pb w' o 78 cs ∧ Below w.heap.size w w' := by
  obtain ⟨cs0, hcs0, hmk⟩ := make23 w 0 (by omega)
  have hb0 := alloc_below (w := w) (.cells cs0 78)
  have p0 := Pb.new w 78 cs0
  simp only [Int.cast_ofNat_Int] at hmk
  go_enter Tryz.func34, Tryz.ntmps34
  go_wp2
  clear hmk
  go_loopw [16] (fun i wr => i = .int .i64 0 ∧ wr = w.alloc (.cells cs0 78)) (fun i _ => 0)
  case atStart => exact ⟨rfl, rfl⟩
  case round =>
    obtain ⟨rfl, rfl⟩ := hrel
    go_wp2
    go_ret2
    exact ⟨_, _, rfl, p0, hb0⟩
set_option maxHeartbeats 6400000 in
set_option maxRecDepth 100000 in
theorem Pairs23_few {w : World} {a : Option Addr} {n c : Nat} (hn : n ≤ 1)
    (hp : ∀ w', w' = w → Calls Tryz.prog 34 #[.slice a n c] w' fun e w' => ∃ (o : Nat) (cs : Array Value) (Q : Nat → Int × Int), e = .returned (.tuple #[.slice (some ⟨o, 0, none⟩) n n, .int .i64 0]) ∧ Pb w' o 78 cs ∧ (∀ i, i < n → PcAt cs i (Q i)) ∧ Below w.heap.size w w') :
    Calls Tryz.prog 28 #[.slice a n c] w fun e w' => e = .returned (.tuple #[.slice none 0 0, .int .i64 0]) ∧ Below w.heap.size w w' := by
  have hn2 : ¬ (512 : Int) < (n : Int) := by omega
  go_enter Tryz.func28, Tryz.ntmps28
  go_wp2_with fail
  refine (hp w rfl).mono ?_
  rintro e wA ⟨o, cs, Q, rfl, hPb, hPc, hbA⟩
  clear hp
  go_wp2_with fail
  refine (stretches23_any hPb hPc (by omega)).mono ?_
  rintro e wS ⟨v6, rfl, hRs, hbS⟩
  rw [show n - 1 = 0 by omega] at hRs
  obtain ⟨a6, c6, rfl⟩ := hRs.slice
  rw [show (strL Q 0).length = 0 from rfl]
  have hB0 := hbA.trans (hbS.mono hbA.size)
  clear hRs hPb hPc hbA hbS hn2
  go_upto_region 8 with fail
  go_cut [8] from 31 to 43 (fun v wx => v = .bool false ∧ Below wS.heap.size wS wx)
  case first =>
    go_quiet (fail)
    go_wp2
    go_meet
    exact ⟨rfl, below_drewN (Below.refl _ _) _⟩
  obtain ⟨rfl, hbC⟩ := hcut
  obtain ⟨w8, hw8⟩ : ∃ q, q = wc := ⟨_, rfl⟩
  subst hw8
  have hB8 := hB0.trans (hbC.mono hB0.size)
  clear hbC hB0
  go_wp2
  go_loopw [9, 46] (fun ov iv wr => iv = .int .i64 0 ∧ ov = .slice none 0 0 ∧ wr = w8) (fun _ iv _ => 0)
  case atStart => exact ⟨rfl, rfl, rfl⟩
  case round =>
    obtain ⟨rfl, rfl, rfl⟩ := hrel
    go_wp2
    go_ret2
    exact ⟨rfl, hB8⟩
/-- a point number i of a block of points -/
def PuAt (cs : Array Value) (i : Nat) (p : Int × Int) : Prop := cs[i * 2]? = some (.int .u64 p.1) ∧ cs[i * 2 + 1]? = some (.int .u64 p.2)
/-- the points of a row, their block seen as a whole -/
theorem Rn.opens {w : World} {base : Nat} {v : Value} {L : List (Int × Int)} (h : Rn w base v L) (hL : L ≠ []) : ∃ b c cs, v = .slice (some ⟨b, 0, none⟩) L.length c ∧ base ≤ b ∧ Pb w b 24 cs ∧ L.length * 2 ≤ cs.size ∧ ∀ i p, L[i]? = some p → PuAt cs i p := by
  obtain ⟨h1, h2⟩ := h
  rcases h2 with ⟨_, hn⟩ | ⟨b, cap, cur, hv, hb, hg, hc, _, hs, ht⟩
  · exact absurd (List.eq_nil_of_length_eq_zero hn) hL
  · refine ⟨b, cap, cur, hv, hb, hg, by rw [hs]; exact Nat.mul_le_mul_right 2 hc, fun i p hi => ?_⟩
    obtain ⟨e1, e2⟩ := pnts_get L i p hi
    rw [← ht] at e1 e2
    have k : ∀ j u, (cur.toList.take (L.length * 2))[j]? = some u → cur[j]? = some u := fun j u hu => by
      have hj : j < L.length * 2 := by
        have := (List.getElem?_eq_some_iff.1 hu).1
        rw [List.length_take] at this
        omega
      rw [List.getElem?_take_of_lt hj] at hu
      rw [← Array.getElem?_toList]
      exact hu
    exact ⟨k _ _ e1, k _ _ e2⟩
theorem pu_set {cs : Array Value} {T : Nat} {x y : Int} (hT : T * 2 + 1 < cs.size) : PuAt ((cs.setIfInBounds (T * 2) (.int .u64 x)).setIfInBounds (T * 2 + 1) (.int .u64 y)) T (x, y) ∧ ∀ t p, t ≠ T → PuAt cs t p → PuAt ((cs.setIfInBounds (T * 2) (.int .u64 x)).setIfInBounds (T * 2 + 1) (.int .u64 y)) t p := by
  refine ⟨⟨?_, ?_⟩, ?_⟩
  · simp [show T * 2 < cs.size by omega]
  · simp [show T * 2 + 1 < cs.size by omega]
  · rintro t p ht ⟨e1, e2⟩
    refine ⟨?_, ?_⟩
    · rw [Array.getElem?_setIfInBounds_ne (by omega), Array.getElem?_setIfInBounds_ne (by omega)]; exact e1
    · rw [Array.getElem?_setIfInBounds_ne (by omega), Array.getElem?_setIfInBounds_ne (by omega)]; exact e2
/-- a point made finite -/
def finP (p : Int × Int) : Int × Int := (finF p.1, finF p.2)
theorem finP_ok {p : Int × Int} (h : U2 p) : U2 (finP p) ∧ fin2 (finP p) := ⟨⟨(finF_ok h.1).1, (finF_ok h.2).1⟩, ⟨(finF_ok h.1).2, (finF_ok h.2).2⟩⟩
end Go.Proofs.YtienpliknhkbjaaGreatDoor

/- plumblaw23: SegAll's walk (written by gensgef.py). -/
namespace Go.Proofs.YtienpliknhkbjaaGreatDoor
open Go.ChangeShapes Go.WideShapes Go.ChangeAt Go.RowKit
open Na Ar
set_option linter.unusedVariables false
theorem pb_drewE {w : World} {g : Nat} {t : TypeId} {vs : Array Value} (h : Pb w g t vs) : Pb w.drew g t vs := h
theorem info_i64E : (Tryz.prog.info? 3).isSome = true := by kernel_rfl
theorem cells_i64E : Tryz.prog.cellsOf 3 = 1 := by kernel_rfl
theorem ipart_0 (x0 x1 : Int) (w : World) : (part 3 #[.int .i64 x0, .int .i64 x1] 0).run Tryz.prog w = .ok (.int .i64 x0) w := by kernel_rfl
theorem ipart_1 (x0 x1 : Int) (w : World) : (part 3 #[.int .i64 x0, .int .i64 x1] 1).run Tryz.prog w = .ok (.int .i64 x1) w := by kernel_rfl
theorem iarr_same (x0 x1 : Int) (w : World) : (Op.equalIn 10000 63 (.agg #[.int .i64 x0, .int .i64 x1]) (.agg #[.int .i64 x0, .int .i64 x1])).run Tryz.prog w = .ok true w := by
  obtain ⟨i, hi⟩ := Option.isSome_iff_exists.mp info_i64E
  rw [show (10000 : Nat) = 9999 + 1 from rfl, run_equalIn_array w 9999 _ _ Tryz.underlying63 hi, cells_i64E]
  have hr : List.range 2 = [0, 1] := rfl
  rw [hr]
  have e1 := run_equalIn_int (P := Tryz.prog) w 9998 3 .i64 .i64 x0 x0 Tryz.underlying3
  have e2 := run_equalIn_int (P := Tryz.prog) w 9998 3 .i64 .i64 x1 x1 Tryz.underlying3
  simp only [Op.eqItems, Sem.run_bind, Nat.zero_mul, Nat.one_mul, ipart_0, ipart_1, Result.andThen_ok, e1, e2, Sem.run_ite]
  simp
/-- pairs of numbers, opened -/
theorem Rp.opens {w : World} {base : Nat} {v : Value} {L : List (Int × Int)} (h : Rp w base v L) (hL : L ≠ []) : ∃ b c, v = .slice (some ⟨b, 0, none⟩) L.length c ∧ b < w.heap.size ∧ RwAt w b 0 L := by
  have h' := h
  rcases h.2 with ⟨_, hn⟩ | ⟨b, cap, cur, hv, _⟩
  · exact absurd (List.eq_nil_of_length_eq_zero hn) hL
  · have ho : v.ownBlock = some b := by rw [hv]; rfl
    refine ⟨b, cap, hv, (World.ownsRow.lt h' b ho).2, fun i p hi => ?_⟩
    have hc := World.ownsRow.cells h' ho
    obtain ⟨e1, e2⟩ := plcs_get _ i p hi
    have k1 := hc _ _ e1
    have k2 := hc _ _ e2
    have ad : ∀ j, (⟨b, 0, none⟩ : Addr).add j = ⟨b, j, none⟩ := fun j => by unfold Addr.add; split <;> simp_all
    rw [ad] at k1 k2
    rw [Nat.zero_add]
    exact ⟨k1, k2⟩
/-- what one pair of stretches is asked -/
structure AskM (g : Nat) (w0 : World) (F : Nat → Int × Int) (m t j : Nat) (kd : Int) (pr : Bool) (p1 p2 q1 q2 : Int) : Prop where
  meet : ∀ w', Below g w0 w' → Calls Tryz.prog 10 #[.agg #[.int .u64 (F t).1, .int .u64 (F t).2], .agg #[.int .u64 (F (t + 1)).1, .int .u64 (F (t + 1)).2], .agg #[.int .u64 (F j).1, .int .u64 (F j).2], .agg #[.int .u64 (F (j + 1)).1, .int .u64 (F (j + 1)).2]] w' fun e w'' => e = .returned (.tuple #[.agg #[.int .i64 kd, .bool pr, .int .u64 p1, .int .u64 p2, .int .u64 q1, .int .u64 q2], .int .i64 0]) ∧ Below w'.heap.size w' w''
  kin : kd = kdQ (fun i => rkP (F i)) t j ∧ (kd = 0 ∨ kd = 1 ∨ kd = 2)
  one : kd = 1 → j = t + 1 → ∀ w, Calls Tryz.prog 15 #[.agg #[.int .u64 p1, .int .u64 p2], .agg #[.int .u64 (F j).1, .int .u64 (F j).2]] w fun e w' => e = .returned (.bool true) ∧ Below w.heap.size w w'
  two : kd = 1 → t = 0 → j = m - 1 → rkP (F 0) = rkP (F m) → ∀ w, Calls Tryz.prog 15 #[.agg #[.int .u64 p1, .int .u64 p2], .agg #[.int .u64 (F 0).1, .int .u64 (F 0).2]] w fun e w' => e = .returned (.bool true) ∧ Below w.heap.size w w'
  ends : ∀ w, Calls Tryz.prog 15 #[.agg #[.int .u64 (F 0).1, .int .u64 (F 0).2], .agg #[.int .u64 (F m).1, .int .u64 (F m).2]] w fun e w' => e = .returned (.bool (decide (rkP (F 0) = rkP (F m)))) ∧ Below w.heap.size w w'
theorem ask_of {g : Nat} {w0 : World} {F : Nat → Int × Int} {m t j : Nat} (hU : ∀ i, i ≤ m → U2 (F i)) (hf : ∀ i, i ≤ m → fin2 (F i)) (ht : t < m) (hj : j < m) (hG : ∀ w', Below g w0 w' → GrVar w') (hw : g ≤ w0.heap.size) :
    ∃ kd pr p1 p2 q1 q2, AskM g w0 F m t j kd pr p1 p2 q1 q2 := by
  have u1 := hU t (by omega)
  have u2 := hU (t + 1) (by omega)
  have u3 := hU j (by omega)
  have u4 := hU (j + 1) (by omega)
  have f1 := hf t (by omega)
  have f2 := hf (t + 1) (by omega)
  have f3 := hf j (by omega)
  have f4 := hf (j + 1) (by omega)
  obtain ⟨⟨⟨kd, pr⟩, ⟨p1, p2⟩, ⟨q1, q2⟩⟩, hM⟩ := meet_there (w := w0) u1 u2 u3 u4 f1 f2 f3 f4 (hG w0 (Below.refl _ _))
  refine ⟨kd, pr, p1, p2, q1, q2, fun w' hb => Meet23_one u1 u2 u3 u4 f1 f2 f3 f4 (hG w' hb) hM, ⟨kd_is hM, kd_in u1 u2 u3 u4 f1 f2 f3 f4 hM⟩, fun hk he w => ?_, fun hk h0 hm he w => ?_, fun w => ?_⟩
  · subst he
    have hy : onQ (F t) (F (t + 1)) (F (t + 1)) (F (t + 1 + 1)) (rkP (F (t + 1))) := Or.inl ⟨bt_last u1 u2 f1 f2, rfl⟩
    have e := mt_one_all u1 u2 u3 u4 f1 f2 f3 f4 hM hk hy
    have s := sm_pt u3 f3
    have o := pt_ok (rkP_ok u3 f3)
    rw [← e] at s o
    exact place23_yes (a := (p1, p2)) o.1 u3 o.2 f3 s w
  · subst h0
    have hm' : j + 1 = m := by omega
    have hy : onQ (F 0) (F (0 + 1)) (F j) (F (j + 1)) (rkP (F (j + 1))) := Or.inr (Or.inl ⟨bt_first u1 u2 u4 f1 f2 f4 (by rw [hm']; exact he.symm), rfl⟩)
    have e := mt_one_all u1 u2 u3 u4 f1 f2 f3 f4 hM hk hy
    rw [hm', ← he] at e
    have s := sm_pt u1 f1
    have o := pt_ok (rkP_ok u1 f1)
    rw [← e] at s o
    exact place23_yes (a := (p1, p2)) o.1 u1 o.2 f1 s w
  · rw [← sm_rk (hU 0 (by omega)) (hU m (by omega)) (hf 0 (by omega)) (hf m (by omega))]
    exact place23_any (hU 0 (by omega)) (hU m (by omega)) (hf 0 (by omega)) (hf m (by omega)) w
end Go.Proofs.YtienpliknhkbjaaGreatDoor


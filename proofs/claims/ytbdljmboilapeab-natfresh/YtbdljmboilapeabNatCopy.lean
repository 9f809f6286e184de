/- copy into memory that the call has made; stores into it. -/
import Derived.Test.YtbdljmboilapeabNatTrim
import Derived.Test.YtbdljmboilapeabInPlace
namespace Go.Proofs.Ytbdljmboilapeab
open Go.ChangeShapes Go.WideShapes Go.ChangeAt Go.RowKit
open Na
set_option linter.unusedVariables false

/-- ps laid over ds from off on -/
def over (ds ps : List Int) (off : Nat) : List Int := ds.take off ++ ps ++ ds.drop (off + ps.length)
theorem over_length {ds ps : List Int} {off : Nat} (h : off + ps.length ≤ ds.length) : (over ds ps off).length = ds.length := by unfold over; simp; omega
theorem copy_runI {P : Program} {w : World} (dT sT ty elem : TypeId) (hu : P.underlying dT = some (.slice elem)) (hsz : (P.info? elem).map (·.size) = some 1)
    (g off dLen dCap N cap base : Nat) (e : TypeId) (ds ps : List Int) (hown : Own .u64 w base e (.slice (some ⟨g, 0, none⟩) N cap) ds) (hN : N = ds.length)
    (sa : Option Addr) (n scap : Nat) (hr : RowAt .u64 w sa n ps) (hfit : n ≤ dLen) (hoff : off + dLen ≤ N) :
    ∃ w', (Builtin.copy_ #[dT, sT] ty #[.slice (some ⟨g, off, none⟩) dLen dCap, .slice sa n scap]).run P w = .ok (goInt n) w' ∧ Own .u64 w' base e (.slice (some ⟨g, 0, none⟩) N cap) (over ds ps off) ∧ In g (g + 1) w w' := by
  obtain ⟨hl, hcells⟩ := hr
  by_cases h0 : n = 0
  · have e0 : ps = [] := List.eq_nil_of_length_eq_zero (by omega)
    have hrun := run_copy_none (P := P) w dT sT ty elem (some ⟨g, off, none⟩) sa dLen dCap n scap hu hsz (by rw [h0]; exact Nat.zero_min _)
    subst h0
    exact ⟨w, hrun, by rw [e0]; unfold over; simpa using hown, In.refl _ _ _⟩
  · rcases hcells with hz | ⟨b, so, rfl, hb, hc⟩
    · omega
    · obtain ⟨h1, h2⟩ := hown
      rcases h2 with ⟨hv, _⟩ | ⟨g', cap', cur, hv, hbg, hg, hnc, hcm, hcs, hct⟩
      · simp at hv
      · simp only [Value.slice.injEq, Option.some.injEq, Addr.mk.injEq] at hv
        obtain ⟨⟨rfl, _, _⟩, rfl, rfl⟩ := hv
        simp only [Nat.mul_one] at hcs hct
        have hrun := run_copy_row (P := P) w dT sT ty elem g off dLen dCap ⟨b, so, none⟩ n scap cur e (ps.map (Value.int .u64)) hu hsz hg
          (by rw [List.length_map, hl]; exact (Nat.min_eq_left hfit).symm)
          (fun j v hj => by
            have hjl : j < ps.length := by
              by_cases q : j < ps.length
              · exact q
              · rw [List.getElem?_eq_none (by simp; omega)] at hj; simp at hj
            have := hc j (by omega)
            have ea : (⟨b, so, none⟩ : Addr).add j = ⟨b, so + j, none⟩ := by
              unfold Addr.add
              by_cases hi0 : j = 0
              · subst hi0; simp
              · simp [hi0]
            rw [ea, this, ← hj]
            simp [List.getElem?_eq_getElem hjl, List.getD_eq_getElem?_getD])
          (by rw [List.length_map]; omega)
          (fun v hv => by simp only [List.mem_map] at hv; obtain ⟨x, _, rfl⟩ := hv; rfl)
        have hgo : Own .u64 (w.setRow g (cur.toList.take off ++ ps.map (Value.int .u64) ++ cur.toList.drop (off + (ps.map (Value.int .u64)).length)).toArray) base e (.slice (some ⟨g, 0, none⟩) ds.length cap) (over ds ps off) := (by
            refine ⟨by simp [over_length (ds := ds) (ps := ps) (off := off) (by omega)], Or.inr ⟨g, cap, _, by rw [over_length (by omega), ← hN], hbg, setRow_heap w g _ _ e _ hg, by rw [over_length (by omega)]; omega, hcm, by simp; omega, ?_⟩⟩
            rw [over_length (by omega), ← hN, Nat.mul_one]
            have e1 : cur.toList.take off = (ds.take off).map (Value.int .u64) := by
              rw [List.map_take, ← hct, List.take_take, ← hN, Nat.min_eq_left (by omega)]
            have e2 : (cur.toList.drop (off + ps.length)).take (ds.length - (off + ps.length)) = (ds.drop (off + ps.length)).map (Value.int .u64) := by
              rw [List.map_drop, ← hct, ← hN, List.drop_take]
            simp only [List.length_map]
            unfold over
            rw [List.map_append, List.map_append, ← e1, ← e2]
            have e4 : (cur.toList.take off ++ ps.map (Value.int .u64)).length = off + ps.length := by
              rw [List.length_append, List.length_take, List.length_map, Array.length_toList, Nat.min_eq_left (by omega)]
            rw [List.take_append, e4, List.take_of_length_le (by omega)])
        rw [List.length_map, hl] at hrun hgo
        exact ⟨_, hrun, hgo, ⟨rfl, rfl, rfl, by simp [World.setRow], fun k hk hh => setRow_other w g k _ (by omega)⟩⟩
theorem copy_run {P : Program} {w : World} (dT sT ty elem : TypeId) (hu : P.underlying dT = some (.slice elem)) (hsz : (P.info? elem).map (·.size) = some 1)
    (g off dLen dCap N cap base : Nat) (e : TypeId) (ds ps : List Int) (hown : Own .u64 w base e (.slice (some ⟨g, 0, none⟩) N cap) ds) (hN : N = ds.length)
    (sa : Option Addr) (n scap : Nat) (hr : RowAt .u64 w sa n ps) (hfit : n ≤ dLen) (hoff : off + dLen ≤ N) :
    ∃ w', (Builtin.copy_ #[dT, sT] ty #[.slice (some ⟨g, off, none⟩) dLen dCap, .slice sa n scap]).run P w = .ok (goInt n) w' ∧ Own .u64 w' base e (.slice (some ⟨g, 0, none⟩) N cap) (over ds ps off) ∧ Below base w w' := by
  have hb := hown.base_le
  have hl := hown.lt
  obtain ⟨w', h1, h2, h3⟩ := copy_runI dT sT ty elem hu hsz g off dLen dCap N cap base e ds ps hown hN sa n scap hr hfit hoff
  exact ⟨w', h1, h2, (h3.wider hb (Nat.le_refl _)).below (by omega)⟩
theorem copy_wp {P : Program} {w : World} {o : Oper} {act : Act} {K : Act → World → Prop} {Q : Exit → Act → World → Prop} (d s : Operand) (dT sT : TypeId)
    (ho : o.op = .call { callee := .builtin .copy, args := #[d, s], argTypes := #[dT, sT] }) (elem : TypeId) (hu : P.underlying dT = some (.slice elem)) (hsz : (P.info? elem).map (·.size) = some 1)
    (g off dLen dCap N cap base : Nat) (e : TypeId) (ds ps : List Int) (hown : Own .u64 w base e (.slice (some ⟨g, 0, none⟩) N cap) ds) (hN : N = ds.length)
    (sa : Option Addr) (n scap : Nat) (hr : RowAt .u64 w sa n ps) (hd : act.eval d = .slice (some ⟨g, off, none⟩) dLen dCap) (hs : act.eval s = .slice sa n scap)
    (hfit : n ≤ dLen) (hoff : off + dLen ≤ N)
    (h : ∀ w', Own .u64 w' base e (.slice (some ⟨g, 0, none⟩) N cap) (over ds ps off) → Below base w w' → K (act.put o.dst (goInt n)) w') : Oper.wp P o act w K Q := by
  obtain ⟨w', hrun, ho', hb'⟩ := copy_run dT sT o.type elem hu hsz g off dLen dCap N cap base e ds ps hown hN sa n scap hr hfit hoff
  unfold Oper.wp
  simp [execOp, ho, resolve, invoke, builtin, hd, hs, hrun, Result.andThen]
  exact h w' ho' hb'
theorem copy_own {P : Program} {w : World} {ops : Array Oper} {rest : List Oper} {o : Oper} {act : Act} {Q : Exit → Act → World → Prop} (hgd : o.guard = none) (d s : Operand) (dT sT : TypeId)
    (ho : o.op = .call { callee := .builtin .copy, args := #[d, s], argTypes := #[dT, sT] }) (elem : TypeId) (hu : P.underlying dT = some (.slice elem)) (hsz : (P.info? elem).map (·.size) = some 1)
    (g off dLen dCap N cap base : Nat) (e : TypeId) (ds ps : List Int) (hown : Own .u64 w base e (.slice (some ⟨g, 0, none⟩) N cap) ds) (hN : N = ds.length)
    (sa : Option Addr) (n scap : Nat) (hr : RowAt .u64 w sa n ps) (hd : act.eval d = .slice (some ⟨g, off, none⟩) dLen dCap) (hs : act.eval s = .slice sa n scap)
    (hfit : n ≤ dLen) (hoff : off + dLen ≤ N)
    (h : ∀ w', Own .u64 w' base e (.slice (some ⟨g, 0, none⟩) N cap) (over ds ps off) → Below base w w' → wpList P ops Q rest (act.put o.dst (goInt n)) w') : wpList P ops Q (o :: rest) act w := by
  refine wpList_plain hgd fun K hK => ?_
  exact copy_wp d s dT sT ho elem hu hsz g off dLen dCap N cap base e ds ps hown hN sa n scap hr hd hs hfit hoff (fun w' h1 h2 => hK _ _ (h w' h1 h2))
theorem copy_step {P : Program} {w : World} {ops : Array Oper} {o : Oper} {act : Act} {K : Act → World → Prop} {Q : Exit → Act → World → Prop} {E : Prop} (hgd : o.guard = none) (d s : Operand) (dT sT : TypeId)
    (ho : o.op = .call { callee := .builtin .copy, args := #[d, s], argTypes := #[dT, sT] }) (elem : TypeId) (hu : P.underlying dT = some (.slice elem)) (hsz : (P.info? elem).map (·.size) = some 1)
    (g off dLen dCap N cap base : Nat) (e : TypeId) (ds ps : List Int) (hown : Own .u64 w base e (.slice (some ⟨g, 0, none⟩) N cap) ds) (hN : N = ds.length)
    (sa : Option Addr) (n scap : Nat) (hr : RowAt .u64 w sa n ps) (hd : act.eval d = .slice (some ⟨g, off, none⟩) dLen dCap) (hs : act.eval s = .slice sa n scap)
    (hfit : n ≤ dLen) (hoff : off + dLen ≤ N)
    (h : ∀ w', Own .u64 w' base e (.slice (some ⟨g, 0, none⟩) N cap) (over ds ps off) → Below base w w' → K (act.put o.dst (goInt n)) w') : if Region.wanted o (yielded ops act.tmps) = true then Oper.wp P o act w K Q else E := by
  have hw : Region.wanted o (yielded ops act.tmps) = true := by simp [Region.wanted, hgd]
  rw [if_pos hw]
  exact copy_wp d s dT sT ho elem hu hsz g off dLen dCap N cap base e ds ps hown hN sa n scap hr hd hs hfit hoff h
end Go.Proofs.Ytbdljmboilapeab

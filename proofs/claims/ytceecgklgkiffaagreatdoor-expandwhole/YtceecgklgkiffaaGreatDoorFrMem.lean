/- Lists and where their blocks lie: what is written into one leaves the others as they were. -/
import Derived.Test.YtceecgklgkiffaaGreatDoorFreshMem
import Derived.Test.YtceecgklgkiffaaGreatDoorBaseB
namespace Go.Proofs.YtceecgklgkiffaaGreatDoor
open Go.ChangeShapes Go.WideShapes Go.ChangeAt Go.RowKit
open Na Ar
set_option linter.unusedVariables false
theorem own_blk {k : IntKind} {w : World} {base : Nat} {e : TypeId} {v : Value} {xs : List Int} (h : Own k w base e v xs) {g : Nat} (hg : v.ownBlock = some g) : base ≤ g ∧ g < w.heap.size := by
  rcases h.2 with ⟨hv, _⟩ | ⟨g', cap, cur, hv, hb, hc, _⟩
  · rw [hv] at hg; simp [Value.ownBlock] at hg
  · rw [hv] at hg
    simp only [Value.ownBlock, Option.some.injEq] at hg
    subst hg
    refine ⟨hb, ?_⟩
    by_cases hlt : g' < w.heap.size
    · exact hlt
    · simp [Array.getElem?_eq_none (Nat.le_of_not_lt hlt)] at hc
/-- blocks in which nothing has turned keep a list -/
theorem own_same {k : IntKind} {w w' : World} {base : Nat} {e : TypeId} {v : Value} {xs : List Int} (h : Own k w base e v xs) (hb : ∀ g, v.ownBlock = some g → w'.heap[g]? = w.heap[g]?) : Own k w' base e v xs := by
  obtain ⟨h1, h2⟩ := h
  refine ⟨h1, ?_⟩
  rcases h2 with h2 | ⟨g, c, cur, hv, hg, hc, r⟩
  · exact Or.inl h2
  · refine Or.inr ⟨g, c, cur, hv, hg, ?_, r⟩
    rw [hb g (by rw [hv]; rfl)]; exact hc
/-- a list of words whose block, if it has one, lies from lo on and below hi -/
def Ls (w : World) (lo hi : Nat) (v : Value) (xs : List Int) : Prop := Own .u64 w lo 22 v xs ∧ hi ≤ w.heap.size ∧ ∀ g, v.ownBlock = some g → g < hi
theorem Ls.of_own {w : World} {lo : Nat} {v : Value} {xs : List Int} (h : Own .u64 w lo 22 v xs) : Ls w lo w.heap.size v xs := ⟨h, Nat.le_refl _, fun g hg => (own_blk h hg).2⟩
theorem Ls.inn {w w' : World} {lo hi a b : Nat} {v : Value} {xs : List Int} (h : Ls w lo hi v xs) (k : In a b w w') (hd : hi ≤ a ∨ b ≤ lo) : Ls w' lo hi v xs := by
  refine ⟨own_same h.1 fun g hg => ?_, Nat.le_trans h.2.1 k.size, h.2.2⟩
  have h1 := own_blk h.1 hg
  have h2 := h.2.2 g hg
  exact k.block g h1.2 (by omega)
theorem Ls.later {w w' : World} {lo hi : Nat} {v : Value} {xs : List Int} (h : Ls w lo hi v xs) (hb : Below w.heap.size w w') : Ls w' lo hi v xs := h.inn (a := 0) (b := 0) (In.of_below hb) (Or.inr (Nat.zero_le _))
theorem Ls.grown {w w' : World} {lo hi : Nat} {v : Value} {xs : List Int} {row : Option Nat} (h : Ls w lo hi v xs) (hg : w.grownBy w' row) (hne : ∀ g, v.ownBlock = some g → row ≠ some g) : Ls w' lo hi v xs := by
  refine ⟨own_same h.1 fun g hgb => ?_, Nat.le_trans h.2.1 hg.size, h.2.2⟩
  exact hg.block g (own_blk h.1 hgb).2 (fun q => hne g hgb q.symm)
theorem Ls.row {w : World} {lo hi : Nat} {v : Value} {xs : List Int} (h : Ls w lo hi v xs) : ∃ a c, v = .slice a xs.length c ∧ RowC w a xs.length c xs := h.1.readsC
theorem Ls.apart {w : World} {lo hi base k : Nat} {e' : TypeId} {v l : Value} {xs : List Int} {us : List Value} (h : Ls w lo hi v xs) (hl : w.ownsRow base e' 1 l k us) (he : 22 ≠ e') : ∀ g, v.ownBlock = some g → l.ownBlock ≠ some g := by
  intro g hg hlg
  rcases h.1.2 with ⟨h0, _⟩ | ⟨g1, c, cur, hv, _, hc, _⟩
  · rw [h0] at hg; simp [Value.ownBlock] at hg
  · rcases hl.2 with ⟨h0, _⟩ | ⟨g2, c', cur', hv', _, hc', _⟩
    · rw [h0] at hlg; simp [Value.ownBlock] at hlg
    · rw [hv] at hg
      rw [hv'] at hlg
      simp only [Value.ownBlock, Option.some.injEq] at hg hlg
      subst hg hlg
      rw [hc] at hc'
      simp only [Option.some.injEq, Obj.cells.injEq] at hc'
      exact he hc'.2.1
/-- n cells of a block -/
def Arr (w : World) (g n : Nat) (vs : Nat → Value) : Prop := g < w.heap.size ∧ ∀ j, j < n → w.cell? ⟨g, j, none⟩ = some (vs j)
theorem Arr.same {w w' : World} {g n : Nat} {vs : Nat → Value} (h : Arr w g n vs) (hs : w.heap.size ≤ w'.heap.size) (hb : w'.heap[g]? = w.heap[g]?) : Arr w' g n vs :=
  ⟨Nat.lt_of_lt_of_le h.1 hs, fun j hj => by rw [← h.2 j hj]; unfold World.cell?; rw [hb]⟩
theorem Arr.inn {w w' : World} {g n a b : Nat} {vs : Nat → Value} (h : Arr w g n vs) (k : In a b w w') (hd : g < a ∨ b ≤ g) : Arr w' g n vs := h.same k.size (k.block g h.1 hd)
theorem Arr.later {w w' : World} {g n : Nat} {vs : Nat → Value} (h : Arr w g n vs) (hb : Below w.heap.size w w') : Arr w' g n vs := h.same hb.size (hb.block g h.1)
theorem Arr.grown {w w' : World} {g n : Nat} {vs : Nat → Value} {row : Option Nat} (h : Arr w g n vs) (hg : w.grownBy w' row) (hne : row ≠ some g) : Arr w' g n vs := h.same hg.size (hg.block g h.1 (fun q => hne q.symm))
theorem row_newsI {w : World} {b off n : Nat} {xs : List Int} (hl : xs.length = n) (hc : ∀ i, i < n → w.cell? ⟨b, off + i, none⟩ = some (.int .u64 (xs.getD i 0))) : ∀ j u, (xs.map (Value.int .u64))[j]? = some u → w.cell? ((⟨b, off, none⟩ : Addr).add j) = some u := by
  intro j u hj
  have hjl : j < xs.length := by
    by_cases q : j < xs.length
    · exact q
    · rw [List.getElem?_eq_none (by simp; omega)] at hj; simp at hj
  have ea : (⟨b, off, none⟩ : Addr).add j = ⟨b, off + j, none⟩ := by
    unfold Addr.add
    by_cases hi0 : j = 0
    · subst hi0; simp
    · simp [hi0]
  rw [ea, hc j (by omega), ← hj]
  simp [List.getElem?_eq_getElem hjl, List.getD_eq_getElem?_getD]
theorem ints_oneI {xs : List Int} : ∀ u ∈ xs.map (Value.int .u64), u.oneCell' = true := by
  intro u hu
  simp only [List.mem_map] at hu
  obtain ⟨x, _, rfl⟩ := hu
  rfl
/-- an append of nothing -/
theorem run_append_none {P : Program} (w : World) (base : Nat) (t ty e : TypeId) (i : TypeInfo) (ht : P.underlying t = some (.slice e)) (hi : P.info? e = some i) (hsize : i.size = 1)
    (v : Value) (n : Nat) (xs : List Value) (hown : w.ownsRow base e 1 v n xs) (a : Option Addr) (c : Nat) :
    (Builtin.append_ #[t, t] ty #[v, .slice a 0 c]).run P w = .ok v w := by
  rcases hown.2 with ⟨rfl, rfl⟩ | ⟨g, cap, cur, rfl, hbg, hg, hnc, hcm, hcs, htake⟩
  · cases a <;> simp [Builtin.append_, run_underlying ht, Result.andThen, sizeOf, typeInfo, hi, hsize, Builtin.lenOf, Builtin.firstCells, loadCells, loadCellsFrom]
  · cases a <;> simp [Builtin.append_, run_underlying ht, Result.andThen, hnc, sizeOf, typeInfo, hi, hsize, Builtin.lenOf, Builtin.firstCells, loadCells, loadCellsFrom, storeCells]
/-- an append of a list, none perhaps -/
theorem append_row {P : Program} {w : World} {ops : Array Oper} {rest : List Oper} {o : Oper} {act : Act} {Q : Exit → Act → World → Prop} (hgd : o.guard = none) (s x : Operand) (t : TypeId)
    (ho : o.op = .call { callee := .builtin .append, args := #[s, x], argTypes := #[t, t] })
    (base : Nat) (e : TypeId) (i : TypeInfo) (bytes : Nat) (ht : P.underlying t = some (.slice e)) (hi : P.info? e = some i) (hz : i.zero = some (.int .u64 0)) (hsize : i.size = 1) (hby : i.bytes = bytes)
    (v : Value) (xs : List Int) (hs : act.eval s = v) (hown : Own .u64 w base e v xs)
    (a : Option Addr) (m c : Nat) (ys : List Int) (hx : act.eval x = .slice a m c) (hrow : RowAt .u64 w a m ys)
    (h63 : xs.length + m ≤ maxLen) (hbytes : (xs.length + m) * bytes ≤ 140737488355328) (hbase : base ≤ w.heap.size)
    (h : ∀ v' w', Own .u64 w' base e v' (xs ++ ys) → w.grownBy w' v.ownBlock → Own .u64 w' base e v xs → (v'.ownBlock = v.ownBlock ∨ ∃ g, v'.ownBlock = some g ∧ w.heap.size ≤ g) → wpList P ops Q rest (act.put o.dst v') w') : wpList P ops Q (o :: rest) act w := by
  have hl := hrow.1
  by_cases hm : 0 < m
  · obtain ⟨b, off, rfl, hbB, hc⟩ := hrow.at hm
    refine append_keep hgd s x t ho base e i (.int .u64 0) bytes ht hi hz hsize hby rfl v xs.length (xs.map (Value.int .u64)) hs hown ⟨b, off, none⟩ m c (ys.map (Value.int .u64)) hx (by rw [List.length_map, hl, Nat.mul_one]) (row_newsI hl hc) ints_oneI h63 hbytes hbase ?_
    intro v' w' h1 h2 h3 h4
    refine h v' w' ?_ h2 h3 h4
    unfold Own
    rw [List.map_append, List.length_append, hl]; exact h1
  · have hm0 : m = 0 := by omega
    subst hm0
    have hy : ys = [] := List.eq_nil_of_length_eq_zero hl
    subst hy
    refine wpList_plain hgd fun K hK => ?_
    have hr := run_append_none (P := P) w base t o.type e i ht hi hsize v xs.length (xs.map (Value.int .u64)) hown a c
    unfold Oper.wp execOp
    simp only [ho, resolve, invoke, builtin, Sem.run_bind, Sem.run_pure, Result.andThen_ok, List.map_toArray, List.map_cons, List.map_nil, hs, hx, hr]
    refine hK _ _ (h v w ?_ ⟨rfl, rfl, rfl, Nat.le_refl _, fun _ _ _ => rfl⟩ hown (Or.inl rfl))
    rw [List.append_nil]; exact hown
theorem list_one {v : Value} {w : World} {lo hi : Nat} {xs : List Int} (h : Ls w lo hi v xs) : ∀ u ∈ [v], u.oneCell' = true := by
  intro u hu
  rw [List.mem_singleton] at hu
  subst hu
  obtain ⟨a, c, rfl, _⟩ := h.row
  rfl
/-- m in all of the first k places, the rest as it was -/
def mkd (xs : List Int) (m : Int) (k : Nat) : List Int := List.replicate k m ++ xs.drop k
theorem mkd_zero (xs : List Int) (m : Int) : mkd xs m 0 = xs := by simp [mkd]
theorem mkd_all (xs : List Int) (m : Int) : mkd xs m xs.length = List.replicate xs.length m := by simp [mkd]
theorem mkd_length {xs : List Int} {m : Int} {k : Nat} (h : k ≤ xs.length) : (mkd xs m k).length = xs.length := by simp [mkd]; omega
theorem mkd_set {xs : List Int} {m : Int} {k : Nat} (h : k < xs.length) : (mkd xs m k).set k m = mkd xs m (k + 1) := by
  unfold mkd
  rw [List.set_append_right _ _ (by simp), List.length_replicate, Nat.sub_self, List.drop_eq_getElem_cons h, List.set_cons_zero, List.replicate_succ']
  simp
theorem In.of_grown {w w' : World} {lo hi : Nat} {row : Option Nat} (h : w.grownBy w' row) (hr : ∀ g, row = some g → lo ≤ g ∧ g < hi) : In lo hi w w' :=
  ⟨h.os, h.tape, h.output, h.size, fun k hk hd => h.block k hk (fun q => by have := hr k q.symm; omega)⟩
end Go.Proofs.YtceecgklgkiffaaGreatDoor

/- Memory that calls make: a make with spare room; an append that leaves the elder slice as it was; lists of lists, each in memory of its own. -/
import Derived.Test.YtceecgklgkiffaaGreatDoorBaseB
namespace Go.Proofs.YtceecgklgkiffaaGreatDoor
open Go.ChangeShapes Go.WideShapes Go.ChangeAt Go.RowKit
open Na Ar
set_option linter.unusedVariables false

theorem run_part {P : Program} (w : World) (t e : TypeId) (i : TypeInfo) (h1 : P.underlying t = some (.slice e)) (h2 : P.info? e = some i) (h3 : i.zero = some (.int .u64 0)) (h4 : i.size = 1) (L C : Nat) (hLC : L ≤ C) (b2 : i.bytes * C ≤ 281474976710656) (b3 : C ≤ maxLen) :
    ∃ w', (Instr.makeSlice t (.int .i64 (L : Int)) (.int .i64 (C : Int))).run P w = .ok (.slice (some ⟨w.heap.size, 0, none⟩) L C) w' ∧ Own .u64 w' w.heap.size e (.slice (some ⟨w.heap.size, 0, none⟩) L C) (List.replicate L 0) ∧ Below w.heap.size w w' := by
  have h63' : (C : Int) ≤ 9223372036854775807 := by
    have h := b3
    unfold maxLen at h
    omega
  have hb' : (i.bytes : Int) * (C : Int) ≤ 281474976710656 := by
    have h : ((i.bytes * C : Nat) : Int) ≤ 281474976710656 := by omega
    rwa [Int.natCast_mul] at h
  have hr := run_make (P := P) w t e i (.int .u64 0) h1 h2 h3 .i64 .i64 (L : Int) (C : Int) (by omega) (by omega) hb' h63'
  simp only [Int.toNat_natCast, h4, Nat.mul_one] at hr
  refine ⟨_, hr, ?_, alloc_below _⟩
  refine ⟨by simp, Or.inr ⟨w.heap.size, C, _, by simp, Nat.le_refl _, heap_alloc_new _ _, by simpa using hLC, b3, by rw [size_madeCells, Nat.mul_one], ?_⟩⟩
  have e1 : (madeCells (Value.int .u64 0).cells C).toList = List.replicate C (.int .u64 0) := toList_madeCells_one _ _
  rw [e1, List.take_replicate]
  simp
  omega
theorem make_part {P : Program} (w : World) {ops : Array Oper} {rest : List Oper} {o : Oper} {a : Act} {Q : Exit → Act → World → Prop} (hg : o.guard = none) (l c : Operand) (t : TypeId) (hop : o.op = Op.makeSlice t l c)
    (e : TypeId) (i : TypeInfo) (h1 : P.underlying t = some (.slice e)) (h2 : P.info? e = some i) (h3 : i.zero = some (.int .u64 0)) (h4 : i.size = 1) (L C : Nat) (Ci : Int) (hl : a.eval l = .int .i64 (L : Int)) (hc : a.eval c = .int .i64 Ci) (hC : Ci = (C : Int)) (hLC : L ≤ C) (b2 : i.bytes * C ≤ 281474976710656) (b3 : C ≤ maxLen)
    (hK : ∀ w', Own .u64 w' w.heap.size e (.slice (some ⟨w.heap.size, 0, none⟩) L C) (List.replicate L 0) → Below w.heap.size w w' → wpList P ops Q rest (a.put o.dst (.slice (some ⟨w.heap.size, 0, none⟩) L C)) w') : wpList P ops Q (o :: rest) a w := by
  refine wpList_plain hg fun K hK' => ?_
  obtain ⟨w', hrun, r1, r2⟩ := run_part (P := P) w t e i h1 h2 h3 h4 L C hLC b2 b3
  subst hC
  unfold Oper.wp
  simp [execOp, hop, hl, hc, hrun, Result.andThen]
  exact hK' _ _ (hK w' r1 r2)
/-- an append: what the elder slice reads stays -/
theorem run_append_keep {P : Program} (w : World) (base : Nat) (t ty e : TypeId) (i : TypeInfo) (z : Value) (bytes : Nat) (ht : P.underlying t = some (.slice e)) (hi : P.info? e = some i) (hz : i.zero = some z)
    (hsize : i.size = 1) (hby : i.bytes = bytes) (hzs : z.cells.size = 1)
    (v : Value) (n : Nat) (xs : List Value) (hown : w.ownsRow base e 1 v n xs)
    (a : Addr) (m c : Nat) (news : List Value) (hl : news.length = m * 1) (hnews : ∀ j u, news[j]? = some u → w.cell? (a.add j) = some u) (h1 : ∀ u ∈ news, u.oneCell' = true)
    (h63 : n + m ≤ maxLen) (hbytes : (n + m) * bytes ≤ 140737488355328) (hbase : base ≤ w.heap.size) :
    ∃ v' w', (Builtin.append_ #[t, t] ty #[v, .slice (some a) m c]).run P w = .ok v' w' ∧ w'.ownsRow base e 1 v' (n + m) (xs ++ news) ∧ w.grownBy w' v.ownBlock ∧ w'.ownsRow base e 1 v n xs ∧ (v'.ownBlock = v.ownBlock ∨ ∃ g, v'.ownBlock = some g ∧ w.heap.size ≤ g) := by
  obtain ⟨v', w', hr, h2, h3, h4⟩ := run_append_own (P := P) w base t ty e i z 1 bytes ht hi hz hsize hby hzs (by omega) v n xs hown a m c news hl hnews h1 h63 hbytes hbase
  refine ⟨v', w', hr, h2, h3, ?_⟩
  subst hby
  have hsmall : n + m ≤ 9223372036854775807 := by simp only [maxLen] at h63; omega
  rcases hown.2 with ⟨rfl, rfl⟩ | ⟨g, cap, cur, rfl, hbg, hg, hnc, hcm, hcs, htake⟩
  · have hx : xs = [] := List.eq_nil_of_length_eq_zero (by simpa using hown.1)
    subst hx
    refine ⟨World.ownsRow_nil _ _ _ _, ?_⟩
    by_cases hm : m = 0
    · left
      have := h4.mpr ⟨rfl, hm⟩
      rw [this]
    · right
      have hr2 := run_append_nil (P := P) w t ty e i z ht hi hz a m c news (by rw [hsize]; exact hl) hnews (by omega) (by omega) (by have hb := hbytes; simp only [Nat.zero_add] at hb; omega)
      rw [hr2] at hr
      simp only [Result.ok.injEq] at hr
      obtain ⟨rfl, _⟩ := hr
      exact ⟨w.heap.size, rfl, Nat.le_refl _⟩
  · have hlen : (xs ++ news).length = (n + m) * 1 := by rw [List.length_append, hown.1, hl, Nat.add_mul]
    by_cases hroom : n + m ≤ cap
    · have hfit : n * i.size + news.length ≤ cur.size := by rw [hsize, hl, hcs]; omega
      have hr2 := run_append_room (P := P) w t ty e i ht hi g n cap cur hg a m c news (by rw [hsize]; exact hl) hnews h1 hroom hfit
      rw [hr2] at hr
      simp only [Result.ok.injEq] at hr
      obtain ⟨rfl, rfl⟩ := hr
      refine ⟨⟨hown.1, Or.inr ⟨g, cap, _, rfl, hbg, setRow_heap w g cur _ e _ hg, hnc, hcm, ?_, ?_⟩⟩, Or.inl rfl⟩
      · simp only [List.size_toArray, List.length_append, List.length_take, List.length_drop, Array.length_toList, hsize]
        omega
      · simp only [hsize, Nat.mul_one] at *
        rw [List.append_assoc, List.take_append_of_le_length (by rw [List.length_take, Array.length_toList]; omega), List.take_take, Nat.min_self]
        exact htake
    · have holds : ∀ j u, xs[j]? = some u → w.cell? ((⟨g, 0, none⟩ : Addr).add j) = some u := hown.cells (g := g) rfl
      have hr2 := run_append_grow (P := P) w t ty e i z ht hi hz ⟨g, 0, none⟩ n cap xs (by rw [hsize]; exact hown.1) holds a m c news (by rw [hsize]; exact hl) hnews (by omega) (by omega) (growslice_fits (by omega) hbytes)
      rw [hr2] at hr
      simp only [Result.ok.injEq] at hr
      obtain ⟨rfl, rfl⟩ := hr
      have hlt : g < w.heap.size := by
        by_cases hlt : g < w.heap.size
        · exact hlt
        · simp [Array.getElem?_eq_none (Nat.le_of_not_lt hlt)] at hg
      refine ⟨⟨hown.1, Or.inr ⟨g, cap, cur, rfl, hbg, ?_, hnc, hcm, hcs, htake⟩⟩, Or.inr ⟨w.heap.size, rfl, Nat.le_refl _⟩⟩
      rw [heap_alloc_old w.drew _ (r := g) hlt]
      exact hg
theorem append_keep {P : Program} {w : World} {ops : Array Oper} {rest : List Oper} {o : Oper} {a : Act} {Q : Exit → Act → World → Prop} (hgd : o.guard = none) (s x : Operand) (t : TypeId)
    (ho : o.op = .call { callee := .builtin .append, args := #[s, x], argTypes := #[t, t] })
    (base : Nat) (e : TypeId) (i : TypeInfo) (z : Value) (bytes : Nat) (ht : P.underlying t = some (.slice e)) (hi : P.info? e = some i) (hz : i.zero = some z) (hsize : i.size = 1) (hby : i.bytes = bytes) (hzs : z.cells.size = 1)
    (v : Value) (n : Nat) (xs : List Value) (hs : a.eval s = v) (hown : w.ownsRow base e 1 v n xs)
    (ad : Addr) (m c : Nat) (news : List Value) (hx : a.eval x = .slice (some ad) m c) (hl : news.length = m * 1) (hnews : ∀ j u, news[j]? = some u → w.cell? (ad.add j) = some u) (h1 : ∀ u ∈ news, u.oneCell' = true)
    (h63 : n + m ≤ maxLen) (hbytes : (n + m) * bytes ≤ 140737488355328) (hbase : base ≤ w.heap.size)
    (h : ∀ v' w', w'.ownsRow base e 1 v' (n + m) (xs ++ news) → w.grownBy w' v.ownBlock → w'.ownsRow base e 1 v n xs → (v'.ownBlock = v.ownBlock ∨ ∃ g, v'.ownBlock = some g ∧ w.heap.size ≤ g) → wpList P ops Q rest (a.put o.dst v') w') : wpList P ops Q (o :: rest) a w := by
  refine wpList_plain hgd fun K hK => ?_
  obtain ⟨v', w', hr, h2, h3, h4, h5⟩ := run_append_keep (P := P) w base t o.type e i z bytes ht hi hz hsize hby hzs v n xs hown ad m c news hl hnews h1 h63 hbytes hbase
  unfold Oper.wp execOp
  simp only [ho, resolve, invoke, builtin, Sem.run_bind, Sem.run_pure, Result.andThen_ok, List.map_toArray, List.map_cons, List.map_nil, hs, hx, hr]
  exact hK _ _ (h v' w' h2 h3 h4 h5)

def roomMark (i : Nat) : Int := 11889503016258109440 + i
/-- a list and its marks -/
def roomL (xs : List Int) : List Int := xs ++ (List.range 70).map roomMark
theorem room_next (k : Nat) : (List.range (k + 1)).map roomMark = (List.range k).map roomMark ++ [roomMark k] := by rw [List.range_succ, List.map_append]; rfl
theorem set_take_le {us : List Int} {q : Nat} (h : q < us.length) (x : Int) : (us.set q x).take (q + 1) = us.take q ++ [x] := by
  have e := take_next (xs := us.set q x) (k := q) (by rw [List.length_set]; exact h)
  rw [List.take_set_of_le (Nat.le_refl _)] at e
  have g : (us.set q x).getD q 0 = x := by simp [List.getD_eq_getElem?_getD, h]
  rw [e, g]
end Go.Proofs.YtceecgklgkiffaaGreatDoor

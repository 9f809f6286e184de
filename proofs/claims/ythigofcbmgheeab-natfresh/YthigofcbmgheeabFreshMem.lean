/- Memory that calls make: a make with spare room; an append that leaves the elder slice as it was; lists of lists, each in memory of its own. -/
import Derived.Test.YthigofcbmgheeabBaseB
namespace Go.Proofs.Ythigofcbmgheeab
open Go.ChangeShapes Go.WideShapes Go.ChangeAt Go.RowKit
open Na Ar
set_option linter.unusedVariables false

theorem run_part {P : Program} (w : World) (t e : TypeId) (i : TypeInfo) (h1 : P.underlying t = some (.slice e)) (h2 : P.info? e = some i) (h3 : i.zero = some (.int .u64 0)) (h4 : i.size = 1) (L C : Nat) (hLC : L ≤ C) (b2 : i.bytes * C ≤ 281474976710656) (b3 : C ≤ maxLen) :
    ∃ w', (Instr.makeSlice t (.int .i64 (L : Int)) (.int .i64 (C : Int))).run P w = .ok (.slice (some ⟨w.heap.size, 0, none⟩) L C) w' ∧ Own .u64 w' w.heap.size e (.slice (some ⟨w.heap.size, 0, none⟩) L C) (List.replicate L 0) ∧ Below w.heap.size w w' := by
  have h63' : (C : Int) ≤ 9223372036854775807 := by
    have h := b3
    unfold maxLen at h
    omega
  have hb' : (i.bytes : Int) * (C : Int) ≤ 281474976710656 := by
    have h : ((i.bytes * C : Nat) : Int) ≤ 281474976710656 := by omega
    rwa [Int.natCast_mul] at h
  have hr := run_make (P := P) w t e i (.int .u64 0) h1 h2 h3 .i64 .i64 (L : Int) (C : Int) (by omega) (by omega) hb' h63'
  simp only [Int.toNat_natCast, h4, Nat.mul_one] at hr
  refine ⟨_, hr, ?_, alloc_below _⟩
  refine ⟨by simp, Or.inr ⟨w.heap.size, C, _, by simp, Nat.le_refl _, heap_alloc_new _ _, by simpa using hLC, b3, by rw [size_madeCells, Nat.mul_one], ?_⟩⟩
  have e1 : (madeCells (Value.int .u64 0).cells C).toList = List.replicate C (.int .u64 0) := toList_madeCells_one _ _
  rw [e1, List.take_replicate]
  simp
  omega
theorem make_part {P : Program} (w : World) {ops : Array Oper} {rest : List Oper} {o : Oper} {a : Act} {Q : Exit → Act → World → Prop} (hg : o.guard = none) (l c : Operand) (t : TypeId) (hop : o.op = Op.makeSlice t l c)
    (e : TypeId) (i : TypeInfo) (h1 : P.underlying t = some (.slice e)) (h2 : P.info? e = some i) (h3 : i.zero = some (.int .u64 0)) (h4 : i.size = 1) (L C : Nat) (Ci : Int) (hl : a.eval l = .int .i64 (L : Int)) (hc : a.eval c = .int .i64 Ci) (hC : Ci = (C : Int)) (hLC : L ≤ C) (b2 : i.bytes * C ≤ 281474976710656) (b3 : C ≤ maxLen)
    (hK : ∀ w', Own .u64 w' w.heap.size e (.slice (some ⟨w.heap.size, 0, none⟩) L C) (List.replicate L 0) → Below w.heap.size w w' → wpList P ops Q rest (a.put o.dst (.slice (some ⟨w.heap.size, 0, none⟩) L C)) w') : wpList P ops Q (o :: rest) a w := by
  refine wpList_plain hg fun K hK' => ?_
  obtain ⟨w', hrun, r1, r2⟩ := run_part (P := P) w t e i h1 h2 h3 h4 L C hLC b2 b3
  subst hC
  unfold Oper.wp
  simp [execOp, hop, hl, hc, hrun, Result.andThen]
  exact hK' _ _ (hK w' r1 r2)
/-- an append: what the elder slice reads stays -/
theorem run_append_keep {P : Program} (w : World) (base : Nat) (t ty e : TypeId) (i : TypeInfo) (z : Value) (bytes : Nat) (ht : P.underlying t = some (.slice e)) (hi : P.info? e = some i) (hz : i.zero = some z)
    (hsize : i.size = 1) (hby : i.bytes = bytes) (hzs : z.cells.size = 1)
    (v : Value) (n : Nat) (xs : List Value) (hown : w.ownsRow base e 1 v n xs)
    (a : Addr) (m c : Nat) (news : List Value) (hl : news.length = m * 1) (hnews : ∀ j u, news[j]? = some u → w.cell? (a.add j) = some u) (h1 : ∀ u ∈ news, u.oneCell' = true)
    (h63 : n + m ≤ maxLen) (hbytes : (n + m) * bytes ≤ 140737488355328) (hbase : base ≤ w.heap.size) :
    ∃ v' w', (Builtin.append_ #[t, t] ty #[v, .slice (some a) m c]).run P w = .ok v' w' ∧ w'.ownsRow base e 1 v' (n + m) (xs ++ news) ∧ w.grownBy w' v.ownBlock ∧ w'.ownsRow base e 1 v n xs ∧ (v'.ownBlock = v.ownBlock ∨ ∃ g, v'.ownBlock = some g ∧ w.heap.size ≤ g) := by
  obtain ⟨v', w', hr, h2, h3, h4⟩ := run_append_own (P := P) w base t ty e i z 1 bytes ht hi hz hsize hby hzs (by omega) v n xs hown a m c news hl hnews h1 h63 hbytes hbase
  refine ⟨v', w', hr, h2, h3, ?_⟩
  subst hby
  have hsmall : n + m ≤ 9223372036854775807 := by simp only [maxLen] at h63; omega
  rcases hown.2 with ⟨rfl, rfl⟩ | ⟨g, cap, cur, rfl, hbg, hg, hnc, hcm, hcs, htake⟩
  · have hx : xs = [] := List.eq_nil_of_length_eq_zero (by simpa using hown.1)
    subst hx
    refine ⟨World.ownsRow_nil _ _ _ _, ?_⟩
    by_cases hm : m = 0
    · left
      have := h4.mpr ⟨rfl, hm⟩
      rw [this]
    · right
      have hr2 := run_append_nil (P := P) w t ty e i z ht hi hz a m c news (by rw [hsize]; exact hl) hnews (by omega) (by omega) (by have hb := hbytes; simp only [Nat.zero_add] at hb; omega)
      rw [hr2] at hr
      simp only [Result.ok.injEq] at hr
      obtain ⟨rfl, _⟩ := hr
      exact ⟨w.heap.size, rfl, Nat.le_refl _⟩
  · have hlen : (xs ++ news).length = (n + m) * 1 := by rw [List.length_append, hown.1, hl, Nat.add_mul]
    by_cases hroom : n + m ≤ cap
    · have hfit : n * i.size + news.length ≤ cur.size := by rw [hsize, hl, hcs]; omega
      have hr2 := run_append_room (P := P) w t ty e i ht hi g n cap cur hg a m c news (by rw [hsize]; exact hl) hnews h1 hroom hfit
      rw [hr2] at hr
      simp only [Result.ok.injEq] at hr
      obtain ⟨rfl, rfl⟩ := hr
      refine ⟨⟨hown.1, Or.inr ⟨g, cap, _, rfl, hbg, setRow_heap w g cur _ e _ hg, hnc, hcm, ?_, ?_⟩⟩, Or.inl rfl⟩
      · simp only [List.size_toArray, List.length_append, List.length_take, List.length_drop, Array.length_toList, hsize]
        omega
      · simp only [hsize, Nat.mul_one] at *
        rw [List.append_assoc, List.take_append_of_le_length (by rw [List.length_take, Array.length_toList]; omega), List.take_take, Nat.min_self]
        exact htake
    · have holds : ∀ j u, xs[j]? = some u → w.cell? ((⟨g, 0, none⟩ : Addr).add j) = some u := hown.cells (g := g) rfl
      have hr2 := run_append_grow (P := P) w t ty e i z ht hi hz ⟨g, 0, none⟩ n cap xs (by rw [hsize]; exact hown.1) holds a m c news (by rw [hsize]; exact hl) hnews (by omega) (by omega) (growslice_fits (by omega) hbytes)
      rw [hr2] at hr
      simp only [Result.ok.injEq] at hr
      obtain ⟨rfl, rfl⟩ := hr
      have hlt : g < w.heap.size := by
        by_cases hlt : g < w.heap.size
        · exact hlt
        · simp [Array.getElem?_eq_none (Nat.le_of_not_lt hlt)] at hg
      refine ⟨⟨hown.1, Or.inr ⟨g, cap, cur, rfl, hbg, ?_, hnc, hcm, hcs, htake⟩⟩, Or.inr ⟨w.heap.size, rfl, Nat.le_refl _⟩⟩
      rw [heap_alloc_old w.drew _ (r := g) hlt]
      exact hg
theorem append_keep {P : Program} {w : World} {ops : Array Oper} {rest : List Oper} {o : Oper} {a : Act} {Q : Exit → Act → World → Prop} (hgd : o.guard = none) (s x : Operand) (t : TypeId)
    (ho : o.op = .call { callee := .builtin .append, args := #[s, x], argTypes := #[t, t] })
    (base : Nat) (e : TypeId) (i : TypeInfo) (z : Value) (bytes : Nat) (ht : P.underlying t = some (.slice e)) (hi : P.info? e = some i) (hz : i.zero = some z) (hsize : i.size = 1) (hby : i.bytes = bytes) (hzs : z.cells.size = 1)
    (v : Value) (n : Nat) (xs : List Value) (hs : a.eval s = v) (hown : w.ownsRow base e 1 v n xs)
    (ad : Addr) (m c : Nat) (news : List Value) (hx : a.eval x = .slice (some ad) m c) (hl : news.length = m * 1) (hnews : ∀ j u, news[j]? = some u → w.cell? (ad.add j) = some u) (h1 : ∀ u ∈ news, u.oneCell' = true)
    (h63 : n + m ≤ maxLen) (hbytes : (n + m) * bytes ≤ 140737488355328) (hbase : base ≤ w.heap.size)
    (h : ∀ v' w', w'.ownsRow base e 1 v' (n + m) (xs ++ news) → w.grownBy w' v.ownBlock → w'.ownsRow base e 1 v n xs → (v'.ownBlock = v.ownBlock ∨ ∃ g, v'.ownBlock = some g ∧ w.heap.size ≤ g) → wpList P ops Q rest (a.put o.dst v') w') : wpList P ops Q (o :: rest) a w := by
  refine wpList_plain hgd fun K hK => ?_
  obtain ⟨v', w', hr, h2, h3, h4, h5⟩ := run_append_keep (P := P) w base t o.type e i z bytes ht hi hz hsize hby hzs v n xs hown ad m c news hl hnews h1 h63 hbytes hbase
  unfold Oper.wp execOp
  simp only [ho, resolve, invoke, builtin, Sem.run_bind, Sem.run_pure, Result.andThen_ok, List.map_toArray, List.map_cons, List.map_nil, hs, hx, hr]
  exact hK _ _ (h v' w' h2 h3 h4 h5)

def roomMark (i : Nat) : Int := 11889503016258109440 + i
/-- a list and its marks -/
def roomL (xs : List Int) : List Int := xs ++ (List.range 70).map roomMark
theorem room_next (k : Nat) : (List.range (k + 1)).map roomMark = (List.range k).map roomMark ++ [roomMark k] := by rw [List.range_succ, List.map_append]; rfl
theorem set_take_le {us : List Int} {q : Nat} (h : q < us.length) (x : Int) : (us.set q x).take (q + 1) = us.take q ++ [x] := by
  have e := take_next (xs := us.set q x) (k := q) (by rw [List.length_set]; exact h)
  rw [List.take_set_of_le (Nat.le_refl _)] at e
  have g : (us.set q x).getD q 0 = x := by simp [List.getD_eq_getElem?_getD, h]
  rw [e, g]
set_option maxHeartbeats 1600000 in
set_option maxRecDepth 100000 in
theorem roomy_any {a : Option Addr} {n cap : Nat} {xs : List Int} {w : World} (hrow : RowC w a n cap xs) (hn : n ≤ 10000) :
    Calls Try.prog 20 #[.slice a n cap] w fun e w' => ∃ v, e = .returned v ∧ Own .u64 w' w.heap.size 47 v (roomL xs) ∧ Below w.heap.size w w' := by
  obtain ⟨i_u64, hi_u64, hz0_u64, hz1_u64, hz2_u64⟩ := info_parts info_u64
  have h1 := hrow.1
  have HL : Hid (xs.length = n) := h1.1
  clear hrow
  go_enter Try.func20, Try.ntmps20
  go_wp2_with (at_make; refine make_part _ rfl _ _ 22 rfl 47 i_u64 Try.underlying22 hi_u64 hz0_u64 hz1_u64 n (n + 70) _ rfl rfl (by omega) (by omega) (by rw [hz2_u64]; omega) (by unfold maxLen; omega) ?_)
  intro w3 hown hb3
  obtain ⟨g, hg⟩ : ∃ g, g = w.heap.size := ⟨_, rfl⟩
  obtain ⟨us0, hus0⟩ : ∃ us0, us0 = List.replicate n (0 : Int) := ⟨_, rfl⟩
  have hown2 : Own .u64 w3 w.heap.size 47 (.slice (some ⟨g, 0, none⟩) n (n + 70)) us0 := by rw [hg, hus0]; exact hown
  have HU0 : Hid (us0.length = n) := by show _ = _; rw [hus0, List.length_replicate]
  rw [← hg]
  clear hown hg hus0
  go_wp2
  go_loopw [4] (fun i wr => ∃ (q : Nat) (us : List Int), i = .int .i64 q ∧ q ≤ n ∧ Own .u64 wr w.heap.size 47 (.slice (some ⟨g, 0, none⟩) n (n + 70)) us ∧ Hid (us.length = n) ∧ Hid (us.take q = xs.take q) ∧ Below w.heap.size w wr) (fun i _ => n - (intOf i).toNat)
  case atStart => exact ⟨0, us0, rfl, by omega, hown2, HU0, (rfl : us0.take 0 = xs.take 0), hb3⟩
  case round =>
    obtain ⟨q, us, rfl, hq, hou, hul, hut, hnx⟩ := hrel
    clear hown2 hb3 HU0
    by_cases hlt : q < n
    · obtain ⟨b, off, rfl, hbB, hc⟩ := h1.at (by omega)
      have hcx := (hnx.cell (p := ⟨b, off + q, none⟩) hbB).trans (hc q hlt)
      have hlu : n = us.length := hul.out.symm
      have hce := hou.cellAt hlu (j := q) (by omega)
      have hfz := hou.frozenAt hlu q
      have hO := hou.set hlu q (xs.getD q 0)
      have hgb := hou.base_le
      have HT : Hid ((us.set q (xs.getD q 0)).take (q + 1) = xs.take (q + 1)) := by show _ = _; rw [set_take_le (by omega), hut.out, take_next (by rw [HL.out]; exact hlt)]
      have HLL : Hid ((us.set q (xs.getD q 0)).length = n) := by show _ = _; rw [List.length_set]; exact hul.out
      generalize us.getD q 0 = u at *
      generalize xs.getD q 0 = x at *
      clear hou hlu hut hc h1
      go_wp2
      go_roundw
      case rel => exact ⟨q + 1, _, by go_num, by omega, hO, HLL, HT, hnx.setCell hgb _⟩
      case measure => simp [intOf]; omega
    · have hqn : q = n := by omega
      have hux : us = xs := by
        have h := hut.out
        rw [List.take_of_length_le (by rw [hul.out]; omega), List.take_of_length_le (by rw [HL.out]; omega)] at h
        exact h
      subst hux
      have hst : Own .u64 wr w.heap.size 47 (.slice (some ⟨g, 0, none⟩) n (n + 70)) (us ++ (List.range 0).map roomMark) := by simpa using hou
      clear hou hut hul h1 hqn
      go_wp2
      go_loopw [3, 5] (fun l i w1 => ∃ (k : Nat) (zs : List Int), i = .int .i64 k ∧ k ≤ 70 ∧ Own .u64 w1 w.heap.size 47 l zs ∧ Hid (zs = us ++ (List.range k).map roomMark) ∧ Hid (zs.length = n + k) ∧ Below w.heap.size w w1) (fun _ i _ => 70 - (intOf i).toNat)
      case atStart => exact ⟨0, _, rfl, by omega, hst, rfl, (by simp; exact HL.out : (us ++ (List.range 0).map roomMark).length = n + 0), hnx⟩
      case round =>
        obtain ⟨k, zs, rfl, hk, hoz, hz, hzl, hny⟩ := hrel
        clear hst hnx
        by_cases hk7 : k < 70
        · have hsz := hny.size
          have hzl' : zs.length = n + k := hzl.out
          have HZ : Hid (zs ++ [roomMark k] = us ++ (List.range (k + 1)).map roomMark) := by show _ = _; rw [hz.out, room_next, List.append_assoc]
          have HZL : Hid ((zs ++ [roomMark k]).length = n + (k + 1)) := by show _ = _; rw [List.length_append, hzl.out]; rfl
          have HM : Hid (11889503016258109440 + (k : Int) = roomMark k) := rfl
          go_wp2_with (at_builtin; refine wpList_append_own _ rfl _ _ 22 rfl w.heap.size 47 i_u64 (.int .u64 0) 1 8 Try.underlying22 hi_u64 hz0_u64 hz1_u64 hz2_u64 rfl (by decide) _ _ _ rfl (hoz.row.alloc _) ⟨wr.heap.size, 0, none⟩ 1 1 [.int .u64 (11889503016258109440 + (k : Int))] rfl rfl one_new one_cell (by unfold maxLen; omega) (by omega) (by simp; omega) ?_)
          intro v' w5 hown' hgrow _
          have hb' := grow_below hsz hoz.row hny hgrow
          have ho' := own_next hown' hzl.out.symm
          rw [HM.out] at ho'
          clear hown' hgrow hoz hny hzl'
          go_wp2
          go_roundw
          case rel => exact ⟨k + 1, _, by go_num, by omega, ho', HZ, HZL, hb'⟩
          case measure => simp [intOf]; omega
        · have hk0 : k = 70 := by omega
          subst hk0
          have HE : Hid (zs = roomL us) := hz
          clear hz hzl
          go_wp2
          go_ret
          exact ⟨_, rfl, by rw [← HE.out]; exact hoz, hny⟩
/-- is a roomy list as it was made? -/
theorem asWas_any {a b : Option Addr} {n m c1 c2 : Nat} {xs : List Int} {w : World} (hr1 : RowC w a n c1 (roomL xs)) (hr2 : RowC w b m c2 xs) (hm : m ≤ 9000) :
    Calls Try.prog 22 #[.slice a n c1, .slice b m c2] w fun e w' => e = .returned (.bool true) ∧ Below w.heap.size w w' := by
  have l2 := hr2.1.1
  have hll : (roomL xs).length ≤ 4000000 := by unfold roomL; simp; omega
  go_enter Try.func22, Try.ntmps22
  go_wp2_with fail
  refine (roomy_any hr2 (by omega)).mono ?_
  rintro e w1 ⟨v, rfl, ho, hb⟩
  obtain ⟨a1, c1', rfl, r⟩ := ho.readsC
  have r1 := hr1.later hb
  have hs := sameN r1 r hll hll rfl
  generalize (roomL xs).length = L at *
  clear hr1 hr2 ho r r1
  go_wp2_with fail
  refine hs.mono ?_
  rintro e w2 ⟨rfl, hb2⟩
  have hbb := hb.trans (hb2.mono hb.size)
  clear hs hb hb2
  go_wp2
  go_ret
  exact ⟨rfl, hbb⟩
end Go.Proofs.Ythigofcbmgheeab

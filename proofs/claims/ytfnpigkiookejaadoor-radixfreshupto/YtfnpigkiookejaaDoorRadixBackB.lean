/- bytes of a text, turned one by one. -/
import Derived.Test.YtfnpigkiookejaaDoorBaseE
import Derived.Lib.ConvBytes
import Derived.Lib.AtoiErrMem
namespace Go.Proofs.YtfnpigkiookejaaDoor
open Go.ChangeShapes Go.WideShapes Go.ChangeAt Go.RowKit
open Na Ar
set_option linter.unusedVariables false
theorem rowC_four {w : World} {a : Option Addr} {len cap : Nat} {zs : List Int} (h : (a = none ∧ len = 0 ∧ cap = 0 ∧ zs = []) ∨
    ∃ x, a = some x ∧ len ≤ cap ∧ cap ≤ maxLen ∧ zs.length = cap ∧ (∀ i, i < zs.length → w.cell? (x.add i) = some (.int .u64 (zs.getD i 0))) ∧ ∀ n ∈ zs, (Lit.int .u64 n).wf = true) :
    RowC w a len cap (zs.take len) ∧ Ws (zs.take len) := by
  have q := row_of h
  refine ⟨⟨q.1, ?_⟩, q.2.1⟩
  rcases h with ⟨rfl, rfl, rfl, rfl⟩ | ⟨x, rfl, hl, hm, hz, hc, hw⟩
  · exact ⟨Nat.le_refl _, Nat.zero_le _⟩
  · exact ⟨hl, hm⟩
/-- these bytes lie in block g, and may be written -/
def BO (w : World) (g : Nat) (zs : List Int) : Prop := g < w.heap.size ∧ (∀ j, j < zs.length → w.cell? ⟨g, j, none⟩ = some (.int .u8 (zs.getD j 0))) ∧ ∀ j, j < zs.length → w.frozen? ⟨g, j, none⟩ = false
theorem BO.set {w : World} {g : Nat} {zs : List Int} (h : BO w g zs) {j : Nat} (hj : j < zs.length) (x : Int) : BO (w.setCell ⟨g, j, none⟩ (.int .u8 x)) g (zs.set j x) := by
  refine ⟨by simpa [World.setCell] using h.1, fun i hi => ?_, fun i hi => ?_⟩
  · rw [List.length_set] at hi
    by_cases e : i = j
    · subst e
      rw [World.cell?_setCell_same _ _ _ (h.2.1 i hi)]
      simp [List.getD_eq_getElem?_getD, hi]
    · rw [World.cell?_setCell_other _ _ _ _ (by simp), h.2.1 i hi]
      simp [List.getD_eq_getElem?_getD, Ne.symm e]
  · rw [List.length_set] at hi
    rw [World.frozen?_setCell]; exact h.2.2 i hi
theorem BO.kept {w w' : World} {g m : Nat} {zs : List Int} (h : BO w g zs) (hb : Below m w w') (hg : g < m) : BO w' g zs := by
  have e : w'.heap[g]? = w.heap[g]? := hb.block g hg
  refine ⟨Nat.lt_of_lt_of_le h.1 hb.size, fun j hj => ?_, fun j hj => ?_⟩
  · rw [← h.2.1 j hj]; unfold World.cell?; rw [e]
  · rw [← h.2.2 j hj]; unfold World.frozen?; rw [e]
theorem BO.later {w w' : World} {g : Nat} {zs : List Int} (h : BO w g zs) (hb : Below w.heap.size w w') : BO w' g zs := h.kept hb h.1
theorem BO.of_own {w : World} {base g N cap : Nat} {zs : List Int} (h : Own .u8 w base 5 (.slice (some ⟨g, 0, none⟩) N cap) zs) (hN : N = zs.length) : BO w g zs :=
  ⟨h.lt, fun j hj => h.cellAt hN (by omega), fun j _ => h.frozenAt hN j⟩
theorem BO.conv {w : World} {g N cap : Nat} {zs : List Int} (h : BO w g zs) (hN : N = zs.length) (hz : ∀ x ∈ zs, 48 ≤ x ∧ x ≤ 122) :
    (convert 28 9 (.slice (some ⟨g, 0, none⟩) N cap)).run Tryd.prog w = .ok (.string ⟨(bytesOf zs).toArray⟩) w := by
  have hl : (bytesOf zs).length = N := by unfold bytesOf; rw [List.length_map]; exact hN.symm
  have r := run_convert_bytes_back (P := Tryd.prog) w 28 9 5 ⟨g, 0, none⟩ cap (bytesOf zs) Tryd.underlying28 Tryd.underlying5 Tryd.underlying9 (fun j hj => by
    have hjz : j < zs.length := by omega
    have c := h.2.1 j hjz
    have ea : (⟨g, 0, none⟩ : Addr).add j = ⟨g, j, none⟩ := by
      unfold Addr.add
      by_cases hi0 : j = 0
      · subst hi0; simp
      · simp [hi0]
    rw [ea, c]
    have m := hz (zs.getD j 0) (by rw [List.getD_eq_getElem?_getD, List.getElem?_eq_getElem hjz]; exact List.getElem_mem hjz)
    have e : zs[j] = zs.getD j 0 := by rw [List.getD_eq_getElem?_getD, List.getElem?_eq_getElem hjz]; rfl
    have e2 : (bytesOf zs)[j] = UInt8.ofNat (zs.getD j 0).toNat := by rw [← e]; simp [bytesOf]
    rw [e2, UInt8.toNat_ofNat']
    congr 2
    omega)
  rw [hl] at r
  exact r
/-- []byte(t) -/
theorem conv_text {w : World} {t : ByteArray} {D : List Int} (ht : t.data.toList = bytesOf D) (hD : ∀ x ∈ D, 48 ≤ x ∧ x ≤ 122) :
    ∃ (cap : Nat) (w' : World), (convert 9 28 (.string t)).run Tryd.prog w = .ok (.slice (some ⟨w.heap.size, 0, none⟩) t.size cap) w' ∧ BO w' w.heap.size D ∧ Below w.heap.size w w' := by
  have hsz := bytes_size ht
  refine ⟨_, _, Lib.run_convert_string_bytes (P := Tryd.prog) w 9 28 5 t (u := .string) Tryd.underlying9 Tryd.underlying28 Tryd.underlying5, ⟨by rw [Lib.bytesWorld_size]; omega, fun j hj => ?_, fun j hj => ?_⟩, Lib.bytesWorld_below w 5 t⟩
  · rw [Lib.bytesWorld_cell w 5 t j (by omega), ht]
    have m := hD (D.getD j 0) (by rw [List.getD_eq_getElem?_getD, List.getElem?_eq_getElem hj]; exact List.getElem_mem hj)
    have e2 : (bytesOf D).getD j 0 = UInt8.ofNat (D.getD j 0).toNat := by
      unfold bytesOf
      simp [List.getD_eq_getElem?_getD, List.getElem?_eq_getElem hj]
    rw [e2, UInt8.toNat_ofNat']
    congr 2
    omega
  · unfold World.frozen?
    rw [Lib.bytesWorld_at_new]
    have l : D.length ≤ (Lib.bytesCells w 5 t).size := by
      unfold Lib.bytesCells
      have : t.data.size = t.size := rfl
      simp
      omega
    simp
    omega
theorem first_byte {t : ByteArray} {D : List Int} (ht : t.data.toList = bytesOf D) (hD : ∀ x ∈ D, 48 ≤ x ∧ x ≤ 122) (h : 0 < D.length) (h' : 0 < t.size) : ((t[0]'h').toNat : Int) = D.getD 0 0 := by
  have m := hD (D.getD 0 0) (by rw [List.getD_eq_getElem?_getD, List.getElem?_eq_getElem h]; exact List.getElem_mem h)
  have e := byte_list t 0
  rw [get_byte h', ht] at e
  have e2 : (bytesOf D).getD 0 0 = UInt8.ofNat (D.getD 0 0).toNat := by
    unfold bytesOf
    simp [List.getD_eq_getElem?_getD, List.getElem?_eq_getElem h]
  rw [e, e2, UInt8.toNat_ofNat']
  omega
namespace Na
/-- the first j in capitals -/
def ups (D : List Int) (j : Nat) : List Int := (D.take j).map upc ++ D.drop j
theorem ups_length (D : List Int) (j : Nat) : (ups D j).length = D.length := by unfold ups; simp; omega
theorem drop_nextI {D : List Int} {j : Nat} (h : j < D.length) : D.drop j = D.getD j 0 :: D.drop (j + 1) := by
  rw [List.drop_eq_getElem_cons h, List.getD_eq_getElem?_getD, List.getElem?_eq_getElem h]; rfl
theorem ups_split {D : List Int} {j : Nat} (h : j < D.length) : ups D j = (D.take j).map upc ++ D.getD j 0 :: D.drop (j + 1) := by unfold ups; rw [drop_nextI h]
theorem ups_get {D : List Int} {j : Nat} (h : j < D.length) : (ups D j).getD j 0 = D.getD j 0 := by
  rw [ups_split h, List.getD_eq_getElem?_getD, List.getElem?_append_right (by simp; omega)]
  have : j - ((D.take j).map upc).length = 0 := by simp; omega
  rw [this]; simp
theorem ups_set {D : List Int} {j : Nat} (h : j < D.length) {x : Int} (hx : x = upc (D.getD j 0)) : (ups D j).set j x = ups D (j + 1) := by
  have l : ((D.take j).map upc).length = j := by simp; omega
  rw [ups_split h, List.set_append_right _ _ (by omega), l, Nat.sub_self, hx]
  unfold ups
  rw [take_next h]
  simp
theorem ups_skip {D : List Int} {j : Nat} (h : j < D.length) (hx : upc (D.getD j 0) = D.getD j 0) : ups D j = ups D (j + 1) := by
  rw [ups_split h]
  unfold ups
  rw [take_next h, List.map_append, List.append_assoc]
  simp only [List.map_cons, List.map_nil, hx]
  rfl
theorem ups_zero (D : List Int) : ups D 0 = D := by unfold ups; simp
theorem ups_all (D : List Int) : ups D D.length = D.map upc := by unfold ups; simp
theorem upc_bd {D : List Int} (h : ∀ x ∈ D, 48 ≤ x ∧ x ≤ 122) : ∀ x ∈ D.map upc, 48 ≤ x ∧ x ≤ 122 := by
  intro x hx
  obtain ⟨y, hy, rfl⟩ := List.mem_map.mp hx
  have := h y hy
  unfold upc
  split <;> omega
theorem digs_short {X b : Int} {D : List Int} (h : Digs X b D) (hb : 2 ≤ b) (h0 : 0 ≤ X) (hl : (words X).length ≤ 4096) : D.length ≤ 262145 := by
  rcases h.top with ht | ht
  · have g0 := h.get 0 (by have := h.one; omega)
    have hX : b ^ (D.length - 1) ≤ X := by
      by_cases q : b ^ (D.length - 1) ≤ X
      · exact q
      · exfalso
        rw [Nat.sub_zero, Int.ediv_eq_zero_of_lt h0 (by omega)] at g0
        apply ht
        rw [g0]
        simp [dch]
    have hT : X < topB := by
      have e : topB = 2 ^ 262144 := rfl
      have := val_lt (B := 18446744073709551616) (by omega) (Dg_words X)
      rw [val_words h0] at this
      have m := wpow_mono hl
      have e2 : (18446744073709551616 : Int) ^ 4096 = topB := by
        rw [e, show (18446744073709551616 : Int) = 2 ^ 64 by decide, ← Int.pow_mul]
      omega
    have := rung_digits hb (show b ^ (D.length - 1) < topB by omega)
    omega
  · rw [ht]; simp
/-- the first k are zeros' bytes -/
def ZF (zs : List Int) (M k : Nat) : Prop := zs.length = M ∧ ∀ i, i < k → zs.getD i 0 = 48
theorem ZF.set {zs : List Int} {M k : Nat} (h : ZF zs M k) (hk : k < M) : ZF (zs.set k 48) M (k + 1) := by
  refine ⟨by rw [List.length_set]; exact h.1, fun i hi => ?_⟩
  have hl := h.1
  by_cases e : i = k
  · subst e
    have : i < zs.length := by omega
    simp [List.getD_eq_getElem?_getD, this]
  · have := h.2 i (by omega)
    rw [← this]
    simp [List.getD_eq_getElem?_getD, Ne.symm e]
theorem ZF.all {zs : List Int} {M : Nat} (h : ZF zs M M) : zs = List.replicate M 48 := by
  refine List.ext_getElem (by rw [h.1]; simp) fun i h1 h2 => ?_
  have := h.2 i (by rw [← h.1]; exact h1)
  rw [List.getD_eq_getElem?_getD, List.getElem?_eq_getElem h1] at this
  rw [List.getElem_replicate]
  exact this
end Na
end Go.Proofs.YtfnpigkiookejaaDoor

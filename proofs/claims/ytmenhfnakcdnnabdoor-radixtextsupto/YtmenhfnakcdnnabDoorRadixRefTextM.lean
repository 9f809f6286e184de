/- the document's Text: digits the lowest first, cut and turned about. -/
import Derived.Test.YtmenhfnakcdnnabDoorRadixBackA
import Derived.Test.YtmenhfnakcdnnabDoorRadixCount
namespace Go.Proofs.YtmenhfnakcdnnabDoor
open Go.ChangeShapes Go.WideShapes Go.ChangeAt Go.RowKit
open Na Ar
set_option linter.unusedVariables false
namespace Na
/-- digits, the lowest first -/
def lowD (b : Int) (k : Nat) (X : Int) : List Int := (laidD b k X).reverse
theorem lowD_length (b : Int) (k : Nat) (X : Int) : (lowD b k X).length = k := by unfold lowD; rw [List.length_reverse, laidD_length]
theorem lowD_next {b : Int} (hb : 2 ≤ b) (k : Nat) (X : Int) : lowD b (k + 1) X = lowD b k X ++ [dch (X / b ^ k % b)] := by
  unfold lowD; rw [laidD_cons hb, List.reverse_cons]
theorem lowD_join {b : Int} (hb : 2 ≤ b) (n K : Nat) (X : Int) : lowD b (K + n) X = lowD b K X ++ lowD b n (X / b ^ K % b ^ n) := by
  unfold lowD; rw [laidD_mod hb, Nat.add_comm, laidD_split hb, List.reverse_append]
theorem lowD_bd {b : Int} (hb : 2 ≤ b) (hb9 : b ≤ 36) (m : Nat) (X : Int) : ∀ x ∈ lowD b m X, 48 ≤ x ∧ x ≤ 122 := by
  intro x hx; unfold lowD at hx; exact laidD_bd hb hb9 m X x (List.mem_reverse.mp hx)
theorem step_small4 {b : Int} {c : Nat} (hb : 2 ≤ b) (h : b ^ c < 4294967296) : c < 32 := by
  by_cases g : c < 32
  · exact g
  · have a : (2 : Int) ^ 32 ≤ 2 ^ c := p2mono (by omega)
    have e : (2 : Int) ^ c ≤ b ^ c := ipow_base (by omega) hb c
    have f : (2 : Int) ^ 32 = 4294967296 := by decide
    omega
theorem getD_setI {l : List Int} {i j : Nat} {x : Int} : (l.set i x).getD j 0 = if i = j ∧ j < l.length then x else l.getD j 0 := by
  rw [List.getD_eq_getElem?_getD, List.getElem?_set, List.getD_eq_getElem?_getD]
  by_cases h : i = j
  · subst h
    by_cases q : i < l.length
    · simp [q]
    · rw [if_pos rfl, if_neg q, if_neg (by omega), List.getElem?_eq_none (by omega)]
  · rw [if_neg h, if_neg (by omega)]
theorem rev_getD {zs : List Int} {j : Nat} (h : j < zs.length) : zs.reverse.getD j 0 = zs.getD (zs.length - 1 - j) 0 := by
  rw [List.getD_eq_getElem?_getD, List.getElem?_reverse h, List.getD_eq_getElem?_getD]
/-- i pairs have been turned about -/
def RvI (zs ys : List Int) (i : Nat) : Prop := ys.length = zs.length ∧ ∀ j, j < zs.length → ys.getD j 0 = if j < i ∨ zs.length - i ≤ j then zs.getD (zs.length - 1 - j) 0 else zs.getD j 0
theorem rvI_start (zs : List Int) : RvI zs zs 0 := ⟨rfl, fun j hj => by rw [if_neg (by omega)]⟩
theorem rvI_step {zs ys : List Int} {i : Nat} (h : RvI zs ys i) (hi : i < zs.length / 2) : RvI zs ((ys.set i (ys.getD (zs.length - 1 - i) 0)).set (zs.length - 1 - i) (ys.getD i 0)) (i + 1) := by
  obtain ⟨h1, h2⟩ := h
  have a := h2 i (by omega)
  have b := h2 (zs.length - 1 - i) (by omega)
  rw [if_neg (by omega)] at a b
  refine ⟨by rw [List.length_set, List.length_set, h1], fun j hj => ?_⟩
  rw [getD_setI, getD_setI, List.length_set, a, b]
  by_cases q1 : zs.length - 1 - i = j
  · rw [if_pos ⟨q1, by omega⟩, if_pos (by omega)]
    congr 1; omega
  · rw [if_neg (by omega)]
    by_cases q2 : i = j
    · rw [if_pos ⟨q2, by omega⟩, if_pos (by omega), q2]
    · rw [if_neg (by omega), h2 j hj]
      by_cases q3 : j < i ∨ zs.length - i ≤ j
      · rw [if_pos q3, if_pos (by omega)]
      · rw [if_neg q3, if_neg (by omega)]
theorem rvI_done {zs ys : List Int} {i : Nat} (h : RvI zs ys i) (hi : ¬ i < zs.length / 2) : ys = zs.reverse := by
  obtain ⟨h1, h2⟩ := h
  refine List.ext_getElem (by rw [List.length_reverse, h1]) (fun j p q => ?_)
  have e1 : ys[j] = ys.getD j 0 := by rw [List.getD_eq_getElem?_getD, List.getElem?_eq_getElem p]; rfl
  have e2 : zs.reverse[j] = zs.reverse.getD j 0 := by rw [List.getD_eq_getElem?_getD, List.getElem?_eq_getElem q]; rfl
  rw [e1, e2, h2 j (by omega), rev_getD (by omega)]
  by_cases g : j < i ∨ zs.length - i ≤ j
  · rw [if_pos g]
  · rw [if_neg g]
    congr 1; omega
/-- what is cut off the digits' end are zeros, and no more can be -/
def Cut48 (zs : List Int) (m : Nat) : Prop := m ≤ zs.length ∧ ∀ j, m ≤ j → j < zs.length → zs.getD j 0 = 48
theorem cut48_start (zs : List Int) : Cut48 zs zs.length := ⟨Nat.le_refl _, fun j a b => by omega⟩
theorem cut48_step {zs : List Int} {m : Nat} (h : Cut48 zs (m + 1)) (h0 : zs.getD m 0 = 48) : Cut48 zs m := by
  refine ⟨by have := h.1; omega, fun j a b => ?_⟩
  by_cases q : j = m
  · rw [q]; exact h0
  · exact h.2 j (by omega) b
theorem textIs_low {X b : Int} {K m : Nat} {t : ByteArray} (hb : 2 ≤ b) (hb9 : b ≤ 36) (hK : 1 ≤ K) (hX : X < b ^ K) (hc : Cut48 (lowD b K X) m) (hlast : m = 0 ∨ (lowD b K X).getD (m - 1) 0 ≠ 48) (ht : t.data.toList = bytesOf ((lowD b K X).take m).reverse) : TextIs X b t := by
  have hl := lowD_length b K X
  have hmK : m ≤ K := by have := hc.1; omega
  have hbd := laidD_bd hb hb9 K X
  have hll := laidD_length b K X
  have hz : ∀ j, j < K → (laidD b K X).getD j 0 = (lowD b K X).getD (K - 1 - j) 0 := by
    intro j hj
    have e : laidD b K X = (lowD b K X).reverse := by unfold lowD; rw [List.reverse_reverse]
    rw [e, rev_getD (by omega), hl]
  have hdrop : ((lowD b K X).take m).reverse = (laidD b K X).drop (K - m) := by
    unfold lowD
    rw [List.take_reverse, List.reverse_reverse, hll]
  obtain ⟨u, hu⟩ : ∃ u : ByteArray, u.data.toList = bytesOf (laidD b K X) := ⟨⟨(bytesOf (laidD b K X)).toArray⟩, by simp⟩
  have hul : u.size = K := by rw [bytes_size hu, hll]
  have hbyte : ∀ j, j < K → u.get! j = UInt8.ofNat ((laidD b K X).getD j 0).toNat := by
    intro j hj
    rw [byte_list, hu]
    unfold bytesOf
    rw [List.getD_eq_getElem?_getD, List.getElem?_map, List.getD_eq_getElem?_getD, List.getElem?_eq_getElem (by omega)]
    rfl
  refine ⟨K, u, hK, hX, hu, K - m, ⟨?_, by omega⟩, fun j hj => ?_, fun hk => ?_⟩
  · rw [ht, hdrop, hu]; unfold bytesOf; rw [List.map_drop]
  · rw [hbyte j (by omega), hz j (by omega), hc.2 _ (by omega) (by omega)]; rfl
  · rw [hbyte _ (by omega), hz _ (by omega)]
    rw [hul] at hk
    have hne := hlast.resolve_left (by omega)
    rw [show K - 1 - (K - m) = m - 1 by omega]
    have mem : (lowD b K X).getD (m - 1) 0 ∈ lowD b K X := by
      rw [List.getD_eq_getElem?_getD, List.getElem?_eq_getElem (by omega)]; exact List.getElem_mem _
    have bd := lowD_bd hb hb9 K X _ mem
    generalize (lowD b K X).getD (m - 1) 0 = z at *
    intro e
    have a := congrArg UInt8.toNat e
    rw [UInt8.toNat_ofNat'] at a
    have f : (48 : UInt8).toNat = 48 := rfl
    rw [f] at a
    omega
theorem bytes_eq {s t : ByteArray} (h : s.data.toList = t.data.toList) : s = t := by
  cases s with
  | mk d => cases t with
    | mk d2 => simp at h; rw [h]
theorem textIs_uniq {X b : Int} {s t : ByteArray} (hb : 2 ≤ b) (hb9 : b ≤ 36) (hX : 0 < X) (hs : TextIs X b s) (ht : TextIs X b t) : s = t := by
  obtain ⟨d, d1, d2⟩ := has_log hb hX
  exact bytes_eq ((text_bytes hs hb hb9 d1 d2).trans (text_bytes ht hb hb9 d1 d2).symm)
theorem textIs_pos {X b : Int} {t : ByteArray} (hb : 2 ≤ b) (hb9 : b ≤ 36) (hX : 0 < X) (ht : TextIs X b t) : 0 < t.size := by
  obtain ⟨d, d1, d2⟩ := has_log hb hX
  rw [bytes_size (text_bytes ht hb hb9 d1 d2), laidD_length]; omega
theorem count_text {X d : Int} {t : ByteArray} (hX : 0 < X) (ht : TextIs X 10 t) (hd : CountIs X d) : d = (t.size : Int) := by
  rcases hd with ⟨q, _⟩ | ⟨n, rfl, d1, d2⟩
  · omega
  · rw [bytes_size (text_bytes ht (by omega) (by omega) d1 d2), laidD_length]; omega
end Na
end Go.Proofs.YtmenhfnakcdnnabDoor

/- Layer 16: OctetFresh. -/
import Derived.Test.YtchlflmdannhaaaOctQ
namespace Go.Proofs.Ytchlflmdannhaaa
open Go.ChangeShapes Go.WideShapes Go.ChangeAt Go.RowKit
open Ep Oc
set_option linter.unusedVariables false
namespace Oc
/-- the three answers of a turn -/
def frL (l : List UInt8) (V : Nat) : Nat → List UInt8 := fun i => if i % 3 = 0 then l ++ ord 4 (V % 4294967296) true else if i % 3 = 1 then l ++ ord 8 V false else l ++ [0]
theorem frL_0 (l : List UInt8) (V : Nat) {i : Nat} (h : i % 3 = 0) : frL l V i = l ++ ord 4 (V % 4294967296) true := by unfold frL; rw [if_pos h]
theorem frL_1 (l : List UInt8) (V : Nat) {i : Nat} (h : i % 3 = 1) : frL l V i = l ++ ord 8 V false := by unfold frL; rw [if_neg (by omega), if_pos h]
theorem frL_2 (l : List UInt8) (V : Nat) {i : Nat} (h : i % 3 = 2) : frL l V i = l ++ [0] := by unfold frL; rw [if_neg (by omega), if_neg (by omega)]
theorem unhex_two (l : List UInt8) : unhexL (hexL l ++ [48, 48]) = l ++ [0] := by
  rw [unhexL_two _ _ _ (by rw [hexL_len]; omega), unhex_hex]
  rfl
theorem ubad_two (l : List UInt8) : ubad (hexL l ++ [48, 48]) = false := by
  have hd : ∀ c ∈ hexL l ++ [48, 48], isD c := fun c hc => by
    rcases List.mem_append.1 hc with h | h
    · exact hexL_is l c h
    · have : c = 48 := by simpa using h
      subst this
      show (valD 48).isSome = true
      decide
  exact ubad_no (fb_all hd) (by rw [List.length_append, hexL_len]; simp)
theorem mrk_ge (L : Nat → List UInt8) {n i : Nat} (h : n ≤ i) : mrk L n i = L i := by unfold mrk; rw [if_neg (by omega)]
end Oc
/-- three rows more -/
theorem Fam.three {w w1 w2 w3 : World} {base K m : Nat} {g c : Nat → Nat} {L : Nat → List UInt8} (h : Fam w base K g c (mrk L m)) (hm : m ≤ K) (hbase : base ≤ w.heap.size)
    {vx vy vz : Value} (h1 : Ob w1 w.heap.size vx (L K)) (b1 : Below w.heap.size w w1) (h2 : Ob w2 w1.heap.size vy (L (K + 1))) (b2 : Below w1.heap.size w1 w2) (h3 : Ob w3 w2.heap.size vz (L (K + 2))) (b3 : Below w2.heap.size w2 w3)
    (hl : 0 < (L K).length ∧ 0 < (L (K + 1)).length ∧ 0 < (L (K + 2)).length) :
    ∃ g' c', vx = .slice (some ⟨g' K, 0, none⟩) (L K).length (c' K) ∧ vy = .slice (some ⟨g' (K + 1), 0, none⟩) (L (K + 1)).length (c' (K + 1)) ∧ vz = .slice (some ⟨g' (K + 2), 0, none⟩) (L (K + 2)).length (c' (K + 2)) ∧
      Fam w3 base (K + 3) g' c' (mrk L m) ∧ (∀ i, i < K → g' i = g i ∧ c' i = c i) ∧ (∀ i, K ≤ i → i < K + 3 → w.heap.size ≤ g' i) := by
  obtain ⟨gx, cx, rfl, _, _, f1⟩ := h.snoc b1 hbase h1 hl.1
  obtain ⟨gy, cy, rfl, _, _, f2⟩ := f1.snoc b2 (Nat.le_trans hbase b1.size) h2 hl.2.1
  obtain ⟨gz, cz, rfl, _, _, f3⟩ := f2.snoc b3 (Nat.le_trans hbase (Nat.le_trans b1.size b2.size)) h3 hl.2.2
  have q1 : w.heap.size ≤ gx := (h1.blk rfl).1
  have q2 : w1.heap.size ≤ gy := (h2.blk rfl).1
  have q3 : w2.heap.size ≤ gz := (h3.blk rfl).1
  have s1 := b1.size
  have s2 := b2.size
  refine ⟨ext1 (ext1 (ext1 g K gx) (K + 1) gy) (K + 2) gz, ext1 (ext1 (ext1 c K cx) (K + 1) cy) (K + 2) cz, ?_, ?_, ?_, ?_, ?_, ?_⟩
  · rw [ext1_lt _ _ (by omega), ext1_lt _ _ (by omega), ext1_at, ext1_lt _ _ (by omega), ext1_lt _ _ (by omega), ext1_at]
  · rw [ext1_lt _ _ (by omega), ext1_at, ext1_lt _ _ (by omega), ext1_at]
  · rw [ext1_at, ext1_at]
  · refine Fam.congr f3 (fun i hi => ⟨rfl, rfl, ?_⟩)
    rcases (by omega : i < K ∨ i = K ∨ i = K + 1 ∨ i = K + 2) with q | q | q | q
    · rw [ext1_lt _ _ (by omega), ext1_lt _ _ (by omega), ext1_lt _ _ (by omega)]
    · subst q; rw [ext1_lt _ _ (by omega), ext1_lt _ _ (by omega), ext1_at, mrk_ge _ hm]
    · subst q; rw [ext1_lt _ _ (by omega), ext1_at, mrk_ge _ (by omega)]
    · subst q; rw [ext1_at, mrk_ge _ (by omega)]
  · intro i hi
    rw [ext1_lt _ _ (by omega), ext1_lt _ _ (by omega), ext1_lt _ _ (by omega), ext1_lt _ _ (by omega), ext1_lt _ _ (by omega), ext1_lt _ _ (by omega)]
    exact ⟨rfl, rfl⟩
  · intro i hi hi2
    rcases (by omega : i = K ∨ i = K + 1 ∨ i = K + 2) with q | q | q
    · subst q; rw [ext1_lt _ _ (by omega), ext1_lt _ _ (by omega), ext1_at]; omega
    · subst q; rw [ext1_lt _ _ (by omega), ext1_at]; omega
    · subst q; rw [ext1_at]; omega
theorem Fam.wider {w : World} {base base' K : Nat} {g c : Nat → Nat} {ls : Nat → List UInt8} (h : Fam w base K g c ls) (hb : base' ≤ base) : Fam w base' K g c ls := ⟨fun i hi => (h.ob i hi).wider hb, h.inj⟩
/-- so many rows are marked behind turn t -/
def Oc.mT (t : Nat) : Nat := if t ≤ 1 then 0 else 3 * t
def StF (w2 wr : World) (H : Nat) (L : Nat → List UInt8) (t : Nat) (va vf : Value) : Prop :=
  Below H w2 wr ∧ H ≤ wr.heap.size ∧ ∃ (g c fg fc : Nat → Nat) (S0 : Nat), Fam wr H (3 * t) g c (mrk L (mT t)) ∧ (0 < t → Fam wr H 3 fg fc L ∧ (∀ i j, i < 3 * t → j < 3 → g i ≠ fg j) ∧ Ar8 wr H vf (slV fg fc (fun i => (L i).length) 0 3)) ∧ (t = 0 → vf = .slice none 0 0 ∧ va = .slice none 0 0) ∧
    Ar8 wr H va (slV g c (fun i => (L i).length) 0 (3 * t)) ∧ (∀ x, vf.ownBlock = some x → x < S0) ∧ (∀ x, va.ownBlock = some x → S0 ≤ x) ∧ S0 ≤ wr.heap.size
theorem Fam.inn8 {w w' : World} {base K g' : Nat} {g c : Nat → Nat} {ls : Nat → List UInt8} (h : Fam w base K g c ls) (hi : In g' (g' + 1) w w') (hne : ∀ i, i < K → g i ≠ g') : Fam w' base K g c ls := ⟨fun i hik => (h.ob i hik).inn8 hi (fun e => hne i hik (Option.some.inj e)), h.inj⟩
theorem Oc.mrk_at (L : Nat → List UInt8) (q : Nat) : mrk L (q + 1) q = List.replicate (L q).length (mk8 q) := by unfold mrk; rw [if_pos (by omega)]
theorem Oc.mrk_ne (L : Nat → List UInt8) {q i : Nat} (h : i ≠ q) : mrk L (q + 1) i = mrk L q i := by
  unfold mrk
  by_cases h1 : i < q
  · rw [if_pos h1, if_pos (by omega)]
  · rw [if_neg h1, if_neg (by omega)]
theorem Oc.mk8_nat {q : Nat} (h : q < 100) : ((mk8 q).toNat : Int) = 100 + (q : Int) := by
  unfold mk8
  have : (UInt8.ofNat (100 + q)).toNat = (100 + q) % 256 := by simp
  rw [this]
  omega
namespace Oc
/-- the byte inverted -/
def inv8 (x : UInt8) : UInt8 := UInt8.ofNat (255 - x.toNat)
theorem inv8_nat (x : UInt8) : ((inv8 x).toNat : Int) = 255 - (x.toNat : Int) := by
  have := x.toNat_lt
  have e : (inv8 x).toNat = (255 - x.toNat) % 256 := by unfold inv8; simp
  rw [e]
  omega
theorem inv8_ne (x : UInt8) : inv8 x ≠ x := by
  intro e
  have h := inv8_nat x
  rw [e] at h
  omega
theorem xor_all : ∀ y : Fin 256, bits BinOp.xor IntKind.u8 255 ((y.val : Nat) : Int) = 255 - ((y.val : Nat) : Int) := by decide +kernel
theorem xor_not {y : Nat} (h : y < 256) : bits BinOp.xor IntKind.u8 (if IntKind.u8.signed = true then -1 else IntKind.u8.max) (y : Int) = 255 - (y : Int) := xor_all ⟨y, h⟩
/-- the first z inverted -/
def invL (l : List UInt8) (z : Nat) : List UInt8 := (l.take z).map inv8 ++ l.drop z
theorem invL_len {l : List UInt8} {z : Nat} (h : z ≤ l.length) : (invL l z).length = l.length := by unfold invL; simp; omega
theorem invL_at {l : List UInt8} {z : Nat} (h : z < l.length) : (invL l z).getD z 0 = l.getD z 0 := by
  unfold invL
  have e : ((l.take z).map inv8).length = z := by simp; omega
  rw [List.getD_eq_getElem?_getD, List.getElem?_append_right (by omega), e, Nat.sub_self, List.getElem?_drop, Nat.add_zero, List.getD_eq_getElem?_getD]
theorem invL_set {l : List UInt8} {z : Nat} (h : z < l.length) : (invL l z).set z (inv8 (l.getD z 0)) = invL l (z + 1) := by
  unfold invL
  have e : ((l.take z).map inv8).length = z := by simp; omega
  rw [List.set_append_right _ _ (by omega), e, Nat.sub_self, List.drop_eq_getElem_cons h, List.set_cons_zero, takeD h, List.map_append, List.append_assoc]
  rfl
theorem invL_take {l : List UInt8} {n : Nat} (h : n ≤ l.length) : (invL l n).take n = (l.take n).map inv8 := by
  unfold invL
  have e : ((l.take n).map inv8).length = n := by simp; omega
  rw [List.take_append, List.take_of_length_le (by omega), e]
  simp
theorem hex_inv {l : List UInt8} (h : 0 < l.length) : hexL (l.map inv8) ≠ hexL l := by
  intro e
  have e2 := congrArg unhexL e
  rw [unhex_hex, unhex_hex] at e2
  cases l with
  | nil => simp at h
  | cons x r => simp only [List.map_cons, List.cons.injEq] at e2; exact inv8_ne x e2.1
end Oc
theorem Oc.rep_at {n z : Nat} (x : UInt8) (h : z < n) : (List.replicate n x).getD z 0 = x := by
  rw [List.getD_eq_getElem?_getD, List.getElem?_replicate_of_lt h]
  rfl
/-- rows one longer -/
def Lng (w : World) (H q : Nat) (g hg hc : Nat → Nat) (L : Nat → List UInt8) : Prop := ∀ i, i < q → Ob w H (.slice (some ⟨hg i, 0, none⟩) ((L i).length + 1) (hc i)) (List.replicate ((L i).length + 1) (mk8 i)) ∧ ∀ j, j < 9 → j ≠ i → hg i ≠ g j
theorem Lng.later {w w' : World} {H q : Nat} {g hg hc : Nat → Nat} {L : Nat → List UInt8} (h : Lng w H q g hg hc L) (hb : Below w.heap.size w w') : Lng w' H q g hg hc L := fun i hi => ⟨(h i hi).1.later hb, (h i hi).2⟩
theorem Lng.grownA {w w' : World} {base H q : Nat} {g hg hc : Nat → Nat} {L : Nat → List UInt8} {v : Value} {vals : List Value} (h : Lng w H q g hg hc L) (hA : Ar8 w base v vals) (hgr : w.grownBy w' v.ownBlock) : Lng w' H q g hg hc L := fun i hi => ⟨(h i hi).1.grownA hA hgr, (h i hi).2⟩
theorem Oc.mrk9 (L : Nat → List UInt8) {q : Nat} (h : q < 9) : mrk L 9 q = List.replicate (L q).length (mk8 q) := by unfold mrk; rw [if_pos h]
theorem long_step {w w5 : World} {H q : Nat} {g c0 hg hc : Nat → Nat} {L : Nat → List UInt8} {o : Obj} {v5 : Value} (G : Fam w H 9 g c0 (mrk L 9)) (hL : Lng w H q g hg hc L) (hq : q < 9) (hgr : (w.alloc o).grownBy w5 (some (g q))) (hO5 : Ob w5 H v5 (mrk L 9 q ++ [mk8 q]))
    (hkp : Kept8 (w.alloc o) w5 H (.slice (some ⟨g q, 0, none⟩) (mrk L 9 q).length (c0 q)) v5 (mrk L 9 q)) :
    ∃ gx cx, v5 = .slice (some ⟨gx, 0, none⟩) ((L q).length + 1) cx ∧ (L q).length + 1 ≤ cx ∧ Fam w5 H 9 g c0 (mrk L 9) ∧ Lng w5 H (q + 1) g (ext1 hg q gx) (ext1 hc q cx) L := by
  have hb : Below w.heap.size w (w.alloc o) := alloc_below o
  obtain ⟨gx, cx, rfl, h1, h2, h3, h4⟩ := hO5.shape (by rw [List.length_append]; simp)
  have hlen : (mrk L 9 q ++ [mk8 q]).length = (L q).length + 1 := by rw [List.length_append, mrk_len]; rfl
  have hrep : mrk L 9 q ++ [mk8 q] = List.replicate ((L q).length + 1) (mk8 q) := by rw [mrk9 L hq, List.replicate_succ']
  rw [hlen] at hO5 h1 ⊢
  rw [hrep] at hO5
  refine ⟨gx, cx, rfl, h1, ⟨fun i hi => ?_, G.inj⟩, fun i hi => ?_⟩
  · by_cases e : i = q
    · subst e; exact hkp.1
    · exact ((G.ob i hi).later hb).keep hgr (fun x hx e2 => by
        have e3 : g i = x := Option.some.inj hx
        have e4 : g q = x := Option.some.inj e2
        exact G.inj i q hi hq e (e3.trans e4.symm))
  · by_cases e : i = q
    · subst e
      rw [ext1_at, ext1_at]
      refine ⟨hO5, fun j hj hji => ?_⟩
      rcases hkp.2 with e | ⟨x, e, hx⟩
      · have e2 : gx = g i := Option.some.inj e
        rw [e2]
        exact G.inj i j hq hj (fun q => hji q.symm)
      · have e2 : gx = x := Option.some.inj e
        have e3 := (G.lt hj).2
        have e4 := hb.size
        omega
    · rw [ext1_lt _ _ (by omega), ext1_lt _ _ (by omega)]
      obtain ⟨k1, k2⟩ := hL i (by omega)
      exact ⟨(k1.later hb).keep hgr (fun x hx e2 => by
        have e3 : hg i = x := Option.some.inj hx
        have e4 : g q = x := Option.some.inj e2
        exact k2 q hq (fun q => e q.symm) (e3.trans e4.symm)), k2⟩
set_option maxHeartbeats 12800000 in
set_option maxRecDepth 100000 in
theorem fresh_walk16 {w : World} {a : Option Addr} {n c V : Nat} {l : List UInt8} (h : Rb w a n c l) (hn : n ≤ 1048576) (hV : V < 18446744073709551616) :
    Calls Try.prog 4 #[.slice a n c, .int .u64 (V : Int)] w fun e w' => e = .returned (.bool true) ∧ Below w.heap.size w w' := by
  have HL : Hid (l.length = n) := h.len
  have hcc := h.2
  go_enter Try.func4, Try.ntmps4
  go_wp2_with fail
  refine (lent16_any h (by omega)).mono ?_
  rintro e w1 ⟨v1, rfl, hO1, hb1⟩
  have h1 := h.later hb1
  have hlen : (lentL l).length = n + 2 := by rw [lentL_len, HL.out]
  obtain ⟨lg, lc, rfl, hlc, hlc9, hlg, hlg2⟩ := hO1.shape (by omega)
  rw [hlen] at hO1 hlc ⊢
  obtain ⟨X, hX⟩ : ∃ X : ByteArray, X = ⟨(hexL l).toArray⟩ := ⟨_, rfl⟩
  have HX : Hid (X.data.toList = hexL l) := by show _ = _; rw [hX]
  have HXS : Hid (X.size = 2 * n) := by show _ = _; rw [hX]; show (hexL l).toArray.size = _; rw [List.size_toArray, hexL_len, HL.out]
  have hx := hex16_any h1 (by omega)
  rw [← hX] at hx
  clear hX hlen
  go_wp2_with fail
  refine hx.mono ?_
  rintro e w2 ⟨rfl, hb2⟩
  have hB2 := hb1.trans (hb2.mono hb1.size)
  have hO2 := hO1.later hb2
  have hlg3 : lg < w2.heap.size := (hO2.blk rfl).2
  have hXs : X.size ≤ 2097152 := by rw [HXS.out]; omega
  obtain ⟨X2, eX2, sX2, HX2⟩ : ∃ X2 : ByteArray, X ++ ⟨#[48, 48]⟩ = X2 ∧ X2.size = X.size + 2 ∧ Hid (X2.data.toList = hexL l ++ [48, 48]) := ⟨_, rfl, ByteArray.size_append, by show (X ++ ⟨#[48, 48]⟩).data.toList = _; rw [← HX.out]; simp⟩
  have hX29 : X2.size ≤ 3000000 := by omega
  clear sX2 hx h1 hb1 hb2 hO1
  obtain ⟨H, hH⟩ : ∃ H, H = w2.heap.size := ⟨_, rfl⟩
  have HH : Hid (H = w2.heap.size) := hH
  have hlrow : ∀ wk : World, Below H w2 wk → Rb wk (some ⟨lg, 0, none⟩) n lc l := fun wk hb => by
    have := (hO2.later (by rw [← hH]; exact hb)).rb.take (k := n) (c' := lc) (by omega) (by omega) (by omega)
    rwa [lentL_take l HL.out] at this
  have HLR : Hid (∀ wk : World, Below H w2 wk → Rb wk (some ⟨lg, 0, none⟩) n lc l) := hlrow
  have hm32 : V % 4294967296 < 256 ^ 4 := by show _ < 4294967296; omega
  have hm64 : V < 256 ^ 8 := hV
  have E32 : Hid ((V : Int) % 4294967296 = ((V % 4294967296 : Nat) : Int)) := by show _ = _; omega
  have HP : Hid (∀ wk : World, Below H w2 wk → Calls Try.prog 6 #[.slice (some ⟨lg, 0, none⟩) n lc, .int .u32 ((V % 4294967296 : Nat) : Int), .bool true] wk fun e w' => ∃ v, e = .returned v ∧ Ob w' wk.heap.size v (frL l V 0) ∧ Below wk.heap.size wk w') := fun wk hb => put32_any (HLR.out wk hb) (by omega) hm32
  have HQ : Hid (∀ wk : World, Below H w2 wk → Calls Try.prog 7 #[.slice (some ⟨lg, 0, none⟩) n lc, .int .u64 (V : Int), .bool false] wk fun e w' => ∃ v, e = .returned v ∧ Ob w' wk.heap.size v (frL l V 1) ∧ Below wk.heap.size wk w') := fun wk hb => put64_any (HLR.out wk hb) (by omega) hm64
  have HU : Hid (∀ wk : World, Calls Try.prog 12 #[.string X2] wk fun e w' => ∃ v, e = .returned (.tuple #[v, .nilIface]) ∧ Ob w' wk.heap.size v (frL l V 2) ∧ Below wk.heap.size wk w') := fun wk => by
    refine (unhex16_any X2 wk (by omega)).mono ?_
    rintro e w' ⟨hr, hb⟩
    rw [HX2.out, ubad_two, unhex_two] at hr
    rcases hr with ⟨q, _⟩ | ⟨_, v, rfl, hO⟩
    · cases q
    · exact ⟨v, rfl, hO, hb⟩
  have hl0 : (frL l V 0).length = n + 4 := by rw [frL_0 _ _ rfl, List.length_append, HL.out, ord_len]
  have hl1 : (frL l V 1).length = n + 8 := by rw [frL_1 _ _ rfl, List.length_append, HL.out, ord_len]
  have hl2 : (frL l V 2).length = n + 1 := by rw [frL_2 _ _ rfl, List.length_append, HL.out]; rfl
  have HLN : Hid (∀ i, (frL l V (3 * i)) = frL l V 0 ∧ frL l V (3 * i + 1) = frL l V 1 ∧ frL l V (3 * i + 2) = frL l V 2) := fun i => ⟨by rw [frL_0 _ _ (by omega), frL_0 _ _ rfl], by rw [frL_1 _ _ (by omega), frL_1 _ _ rfl], by rw [frL_2 _ _ (by omega), frL_2 _ _ rfl]⟩
  have HN0 : Hid ((frL l V 0).length = n + 4 ∧ (frL l V 1).length = n + 8 ∧ (frL l V 2).length = n + 1) := ⟨hl0, hl1, hl2⟩
  obtain ⟨L, hLL⟩ : ∃ L, L = frL l V := ⟨_, rfl⟩
  rw [← hLL] at HP HQ HU HLN HN0
  have HLL : Hid (L = frL l V) := hLL
  clear hlrow hl0 hl1 hl2 hm32 hm64 hLL HX2 hlg2
  have hHw : H ≤ w2.heap.size := by rw [HH.out]; exact Nat.le_refl _
  have hS0 : StF w2 w2 H L 0 (.slice none 0 0) (.slice none 0 0) := ⟨Below.refl _ _, hHw, fun _ => 0, fun _ => 0, fun _ => 0, fun _ => 0, H, ⟨fun i hi => by omega, fun i j hi => by omega⟩, fun q => by omega, fun _ => ⟨rfl, rfl⟩, Ar8.nil _ _, fun x hx => (by cases hx), fun x hx => (by cases hx), hHw⟩
  clear hH
  go_wp2
  go_loopw [7, 8, 9] (fun va vf tv wr => ∃ t : Nat, t ≤ 3 ∧ tv = .int .i64 (t : Int) ∧ StF w2 wr H L t va vf) (fun _ _ tv _ => 3 - (intOf tv).toNat)
  case atStart => exact ⟨0, by omega, rfl, hS0⟩
  case round =>
    obtain ⟨t, ht, rfl, hBk, hHk, g, c0, fg, fc, S0, F, FS, FN, AA, SF, SA, SS⟩ := hrel
    clear hS0 hHw
    obtain ⟨wO, hwO⟩ : ∃ wO, wO = wr := ⟨_, rfl⟩
    subst hwO
    obtain ⟨va, hva⟩ : ∃ va, va = u7 := ⟨_, rfl⟩
    subst hva
    obtain ⟨vf, hvf⟩ : ∃ vf, vf = u8 := ⟨_, rfl⟩
    subst hvf
    rcases (by omega : t = 0 ∨ t = 1 ∨ t = 2 ∨ t = 3) with rfl | rfl | rfl | rfl
    · obtain ⟨rfl, rfl⟩ := FN rfl
      go_wp2_with fail
      rw [E32.out]
      refine (HP.out _ hBk).mono ?_
      rintro e wx ⟨vx, rfl, hOx, hbx⟩
      have hBx := hBk.trans (hbx.mono hHk)
      have hHx := Nat.le_trans hHk hbx.size
      go_wp2_with fail
      refine (HQ.out _ hBx).mono ?_
      rintro e wy ⟨vy, rfl, hOy, hby⟩
      have hBy := hBx.trans (hby.mono hHx)
      have hHy := Nat.le_trans hHx hby.size
      go_wp2_with fail
      refine (HU.out _).mono ?_
      rintro e wz ⟨vz, rfl, hOz, hbz⟩
      have hBz := hBy.trans (hbz.mono hHy)
      have hHz := Nat.le_trans hHy hbz.size
      have hkz : Below wO.heap.size wO wz := (hbx.trans (hby.mono hbx.size)).trans (hbz.mono (Nat.le_trans hbx.size hby.size))
      rw [← (HLN.out 0).1] at hOx
      rw [← (HLN.out 0).2.1] at hOy
      rw [← (HLN.out 0).2.2] at hOz
      have hln : (L 0).length = n + 4 ∧ (L (0 + 1)).length = n + 8 ∧ (L (0 + 2)).length = n + 1 := by
        rw [show L 0 = L 0 from (HLN.out 0).1, show L (0 + 1) = L 1 from (HLN.out 0).2.1, show L (0 + 2) = L 2 from (HLN.out 0).2.2]
        exact HN0.out
      have F0 : Fam wO H 0 g c0 (mrk L 0) := F
      obtain ⟨g1, c1, rfl, rfl, rfl, F1, hag, hnw⟩ := Fam.three F0 (by decide) hHk hOx hbx hOy hby hOz hbz ⟨by rw [hln.1]; omega, by rw [hln.2.1]; omega, by rw [hln.2.2]; omega⟩
      have HNW : Hid (∀ i, 0 ≤ i → i < 0 + 3 → wO.heap.size ≤ g1 i) := hnw
      have HAG : Hid (∀ i, i < 0 → g1 i = g i ∧ c1 i = c0 i) := hag
      rw [hln.1, hln.2.1, hln.2.2]
      have HLK : Hid ((L 0).length = n + 4 ∧ (L (0 + 1)).length = n + 8 ∧ (L (0 + 2)).length = n + 1) := hln
      clear hnw hag hln hOx hOy hOz hbx hby hbz hBx hBy hHx hHy F F0
      generalize hgx : g1 0 = gx at *
      generalize hgy : g1 (0 + 1) = gy at *
      generalize hgz : g1 (0 + 2) = gz at *
      generalize hcx : c1 0 = cx at *
      generalize hcy : c1 (0 + 1) = cy at *
      generalize hcz : c1 (0 + 2) = cz at *
      have HGC : Hid ((g1 0 = gx ∧ g1 (0 + 1) = gy ∧ g1 (0 + 2) = gz) ∧ c1 0 = cx ∧ c1 (0 + 1) = cy ∧ c1 (0 + 2) = cz) := ⟨⟨hgx, hgy, hgz⟩, hcx, hcy, hcz⟩
      clear hgx hgy hgz hcx hcy hcz
      have u1 : ((n : Int) + 4 != (n : Int) + 4) = false := by simp
      have u2 : ((n : Int) + 8 != (n : Int) + 8) = false := by simp
      have u3 : ((n : Int) + 1 != (n : Int) + 1) = false := by simp
      obtain ⟨wT, hwT⟩ : ∃ wT, wT = wz.alloc (.cells #[.slice (some ⟨gx, 0, none⟩) (n + 4) cx, .slice (some ⟨gy, 0, none⟩) (n + 8) cy, .slice (some ⟨gz, 0, none⟩) (n + 1) cz] 22) := ⟨_, rfl⟩
      have hbT : Below wz.heap.size wz wT := by rw [hwT]; exact alloc_below _
      have hcT : wT.cell? ⟨wz.heap.size, 0, none⟩ = some (.slice (some ⟨gx, 0, none⟩) (n + 4) cx) ∧ wT.cell? ⟨wz.heap.size, 1, none⟩ = some (.slice (some ⟨gy, 0, none⟩) (n + 8) cy) ∧ wT.cell? ⟨wz.heap.size, 2, none⟩ = some (.slice (some ⟨gz, 0, none⟩) (n + 1) cz) := by rw [hwT]; simp
      go_upto_region 14 with fail
      rw [← hwT]
      have FT := F1.later hbT
      have hBT := hBz.trans (hbT.mono hHz)
      have hHT := Nat.le_trans hHz hbT.size
      obtain ⟨tb, htb⟩ : ∃ tb, tb = wz.heap.size := ⟨_, rfl⟩
      rw [← htb] at hcT ⊢
      have HTB : Hid (tb < wT.heap.size ∧ wO.heap.size ≤ tb) := ⟨by rw [htb, hwT]; simp, by rw [htb]; exact hkz.size⟩
      have hkT : Below wO.heap.size wO wT := hkz.trans (hbT.mono hkz.size)
      clear htb hwT hbT F1 hBz hHz hkz
      have HCL : Hid (∀ (wk : World) (q : Nat), Below wT.heap.size wT wk → q < 3 → wk.cell? ⟨tb, q, none⟩ = some (.slice (some ⟨g1 (0 + q), 0, none⟩) (L (0 + q)).length (c1 (0 + q)))) := fun wk q hb hq => by
        obtain ⟨⟨e1, e2, e3⟩, e4, e5, e6⟩ := HGC.out
        obtain ⟨m1, m2, m3⟩ := HLK.out
        obtain ⟨d1, d2, d3⟩ := hcT
        rw [hb.cell (p := ⟨tb, q, none⟩) HTB.out.1]
        rcases (by omega : q = 0 ∨ q = 1 ∨ q = 2) with rfl | rfl | rfl
        · rw [d1]; show _ = some (Value.slice (some ⟨g1 0, 0, none⟩) (L 0).length (c1 0)); rw [e1, e4, m1]
        · rw [d2, e2, e5, m2]
        · rw [d3, e3, e6, m3]
      have HLB : Hid (∀ q, q < 3 → 0 < (L (0 + q)).length ∧ (L (0 + q)).length ≤ 1048584) := fun q hq => by
        obtain ⟨m1, m2, m3⟩ := HLK.out
        rcases (by omega : q = 0 ∨ q = 1 ∨ q = 2) with rfl | rfl | rfl
        · show 0 < (L 0).length ∧ (L 0).length ≤ _; omega
        · omega
        · omega
      have hcT' := hcT
      clear hcT
      have FX : Fam wT H 3 g1 c1 (mrk L 0) := FT
      obtain ⟨HT, hHTe⟩ : ∃ HT, HT = wT.heap.size := ⟨_, rfl⟩
      have HHT : Hid (HT = wT.heap.size) := hHTe
      have hf0 : Fam wT HT 0 (fun _ => 0) (fun _ => 0) L := ⟨fun i hi => by omega, fun i j hi => by omega⟩
      have hHTle : H ≤ HT := by rw [hHTe]; exact hHT
      clear hHTe FT
      go_wp2
      go_loopw [8, 15] (fun vf i wk => ∃ (q : Nat) (fg fc : Nat → Nat), q ≤ 3 ∧ i = .int .i64 (q : Int) ∧ Fam wk HT q fg fc L ∧ Ar8 wk HT vf (slV fg fc (fun i => (L i).length) 0 q) ∧ Below HT wT wk) (fun _ i _ => 3 - (intOf i).toNat)
      case atStart => exact ⟨0, _, _, by omega, rfl, hf0, Ar8.nil _ _, Below.refl _ _⟩
      case round =>
        obtain ⟨q, fg', fc', hq, rfl, G, AF, hBL⟩ := hrel
        clear hf0
        by_cases hlt : q < 3
        · have cq := HCL.out wr q (by rw [← HHT.out]; exact hBL) hlt
          have hlb := HLB.out q hlt
          have hrow := ((FX.ob q hlt).later (by rw [← HHT.out]; exact hBL)).rb
          rw [mrk_ge L (Nat.zero_le q)] at hrow
          rw [Nat.zero_add] at cq hlb
          have hHTw : HT ≤ wr.heap.size := by rw [HHT.out]; exact hBL.size
          have hOe : Ob (wr.alloc (.cells #[] 5)) wr.heap.size (.slice (some ⟨wr.heap.size, 0, none⟩) 0 0) [] := World.ownsRow_made wr #[] 0 (Nat.le_refl _) (Nat.zero_le _) rfl
          have hbe : Below wr.heap.size wr (wr.alloc (.cells #[] 5)) := alloc_below _
          have HLQ : Hid ((L q).length ≤ 1048584 ∧ 0 < (L q).length) := ⟨hlb.2, hlb.1⟩
          generalize hlnq : (L q).length = lq at *
          have HLE : Hid ((L q).length = lq) := hlnq
          generalize hgq : g1 q = gq at *
          generalize hcq : c1 q = cq' at *
          clear hlb hlnq hgq hcq
          have htbw : tb < wr.heap.size := by have := HTB.out.1; have := HHT.out; have := hHTw; omega
          have cqa : (wr.alloc (.cells #[] 5)).cell? ⟨tb, q, none⟩ = some (.slice (some ⟨gq, 0, none⟩) lq cq') := (hbe.cell (p := ⟨tb, q, none⟩) htbw).trans cq
          go_wp2_with (at_builtin; refine wpList_app8 rfl _ _ rfl rfl hOe rfl (hrow.later hbe) (by simp; have := HLQ.out; omega) hbe.size ?_)
          intro v5 w5 hO5 hg5 hkp
          have hb5 : Below wr.heap.size wr w5 := hOe.below hbe (Nat.le_refl _) hg5
          clear hkp hg5 hOe hbe cqa
          have hO5' : Ob w5 wr.heap.size v5 (L q) := hO5
          obtain ⟨gx5, cx5, rfl, h55, h56, G5⟩ := G.snoc hb5 hHTw hO5' (by rw [HLE.out]; exact HLQ.out.2)
          have G6 : Fam w5 HT (q + 1) (ext1 fg' q gx5) (ext1 fc' q cx5) L := G5.congr (fun i hi => ⟨rfl, rfl, by
            by_cases e : i = q
            · subst e; rw [ext1_at]
            · rw [ext1_lt _ _ (by omega)]⟩)
          have AF5 := (AF.later hb5).later (alloc_below (w := w5) (.cells #[.slice (some ⟨gx5, 0, none⟩) (L q).length cx5] 22))
          rw [HLE.out] at AF5 ⊢
          have hs5 := hb5.size
          have HB5 : Hid (Below HT wT w5) := by show Below _ _ _; exact hBL.trans (hb5.mono hHTw)
          have hlv := slV_len fg' fc' (fun i => (L i).length) 0 q
          clear G5 hO5 hO5' hb5
          go_wp2_with (at_builtin; refine wpList_appA rfl _ _ rfl rfl AF5 rfl (news := [.slice (some ⟨gx5, 0, none⟩) lq cx5]) rfl one_new (fun u hu => by rw [List.mem_singleton.1 hu]; rfl) (by rw [hlv]; omega) (by simp; omega) ?_)
          intro v6 w6 AF6 hg6 hk6
          have G7 := (G6.later (alloc_below (w := w5) (.cells #[.slice (some ⟨gx5, 0, none⟩) lq cx5] 22))).grownA AF5 hg6
          have hB6 : Below HT wT w6 := AF5.below (HB5.out.alloc (by have := HB5.out.size; rw [HHT.out]; exact this) _) (by rw [HHT.out]; exact Nat.le_refl _) hg6
          have AF7 : Ar8 w6 HT v6 (slV (ext1 fg' q gx5) (ext1 fc' q cx5) (fun i => (L i).length) 0 (q + 1)) := by
            have e1 : slV (ext1 fg' q gx5) (ext1 fc' q cx5) (fun i => (L i).length) 0 (q + 1) = slV fg' fc' (fun i => (L i).length) 0 q ++ [.slice (some ⟨gx5, 0, none⟩) lq cx5] := by
              rw [slV_more, slV_congr (g' := fg') (c' := fc') (len' := fun i => (L i).length) (fun i _ hi => ⟨ext1_lt _ _ (by omega), ext1_lt _ _ (by omega), rfl⟩)]
              congr 1
              show [Value.slice (some ⟨ext1 fg' q gx5 (0 + q + 0), 0, none⟩) (L (0 + q + 0)).length (ext1 fc' q cx5 (0 + q + 0))] = _
              rw [show 0 + q + 0 = q by omega, ext1_at, ext1_at, HLE.out]
            rw [e1]
            exact AF6
          clear AF5 AF6 hg6 hk6 G6 HB5 AF G hBL hrow cq
          go_wp2
          go_roundw
          case rel => exact ⟨q + 1, _, _, by omega, by go_num, G7, AF7, hB6⟩
          case measure => simp [intOf]; omega
        · have hq3 : q = 3 := by omega
          subst hq3
          have hHTw : HT ≤ wr.heap.size := by rw [HHT.out]; exact hBL.size
          have hbr : Below wT.heap.size wT wr := by rw [← HHT.out]; exact hBL
          have HNE : Hid (∀ j u, (slV g1 c1 (fun i => (L i).length) 0 3)[j]? = some u → wr.cell? ((⟨tb, 0, none⟩ : Addr).add j) = some u) := fun j u hj => by
            have hj3 : j < 3 := by have := (List.getElem?_eq_some_iff.1 hj).1; rwa [slV_len] at this
            rw [slV_at _ _ _ _ hj3] at hj
            have ad : (⟨tb, 0, none⟩ : Addr).add j = ⟨tb, j, none⟩ := by unfold Addr.add; split <;> simp_all
            rw [ad, HCL.out wr j hbr hj3]
            exact hj
          obtain ⟨fa', fcc', rfl, hfc1, hfc2, hfcC⟩ := AF.row
          clear hfcC
          rw [slV_len] at AF hfc1 ⊢
          go_wp2_with (at_builtin; refine wpList_appA rfl _ _ rfl rfl (Ar8.nil wr wr.heap.size) rfl (news := slV g1 c1 (fun i => (L i).length) 0 3) (slV_len _ _ _ _ _) HNE.out (slV_one _ _ _ _ _) (by simp) (Nat.le_refl _) ?_)
          intro v7 w7 AA7 hg7 hk7
          have hb7 : Below wr.heap.size wr w7 := (Ar8.nil wr wr.heap.size).below (Below.refl _ _) (Nat.le_refl _) hg7
          have hSt : StF w2 w7 H L 1 v7 (.slice fa' 3 fcc') := by
            have hHr : H ≤ wr.heap.size := Nat.le_trans hHTle hHTw
            refine ⟨(hBT.trans (hbr.mono hHT)).trans (hb7.mono hHr), Nat.le_trans hHr hb7.size, g1, c1, fg', fc', wr.heap.size, (FX.later hbr).later hb7, fun _ => ⟨(G.later hb7).wider hHTle, fun i j hi hj => ?_, (AF.later hb7).wider hHTle⟩, fun q => by omega, ?_, fun x hx => (AF.blk hx).2, fun x hx => (AA7.blk hx).1, hb7.size⟩
            · have e1 := (FX.lt (i := i) hi).2
              have e2 := (G.lt hj).1
              have e3 := HHT.out
              omega
            · exact AA7.wider hHr
          obtain ⟨xa, xc, rfl, hx1, hx2, hxC⟩ := AA7.row
          clear hxC
          rw [slV_len] at hSt ⊢
          clear AA7 hg7 hk7 hb7 HNE AF G FX
          go_wp2
          refine wp_loop_rounds 1 ?_
          rw [rounds_succ]
          go_wp2
          go_roundw
          case rel => exact ⟨1, by omega, rfl, hSt⟩
          case measure => simp [intOf]
    · obtain ⟨FS1, FS2, FS3⟩ := FS (by decide)
      clear FS FN
      obtain ⟨fa, fcc, rfl, hfc1, hfc2, hfcC⟩ := FS3.row
      rw [slV_len] at hfc1 FS3 SF
      obtain ⟨fb, rfl, hfb, _⟩ := hfcC 0 _ (slV_at _ _ _ _ (by decide))
      have HFC : Hid (∀ (wk : World) (q : Nat), Below wO.heap.size wO wk → q < 3 → wk.cell? ⟨fb, q, none⟩ = some (.slice (some ⟨fg q, 0, none⟩) (L q).length (fc q))) := fun wk q hb hq => by
        obtain ⟨b', e1, _, e2⟩ := hfcC q _ (slV_at _ _ _ _ hq)
        simp only [Option.some.injEq, Addr.mk.injEq] at e1
        rw [hb.cell (p := ⟨fb, q, none⟩) hfb, e1.1, e2, Nat.zero_add]
      obtain ⟨aa, acc, rfl, hac1, hac2, hacC⟩ := AA.row
      rw [slV_len] at hac1 AA SA
      clear hfcC hacC
      have AA : Ar8 wO H (.slice aa 3 acc) (slV g c0 (fun i => (L i).length) 0 3) := AA
      have SA : ∀ x, (Value.slice aa 3 acc).ownBlock = some x → S0 ≤ x := SA
      have HSF : Hid (∀ x, (Value.slice (some ⟨fb, 0, none⟩) 3 fcc).ownBlock = some x → x < S0) := SF
      have HSA : Hid (∀ x, (Value.slice aa 3 acc).ownBlock = some x → S0 ≤ x) := SA
      have hac1 : 3 ≤ acc := hac1
      rw [slV_len]
      clear SF SA
      go_wp2_with fail
      rw [E32.out]
      refine (HP.out _ hBk).mono ?_
      rintro e wx ⟨vx, rfl, hOx, hbx⟩
      have hBx := hBk.trans (hbx.mono hHk)
      have hHx := Nat.le_trans hHk hbx.size
      go_wp2_with fail
      refine (HQ.out _ hBx).mono ?_
      rintro e wy ⟨vy, rfl, hOy, hby⟩
      have hBy := hBx.trans (hby.mono hHx)
      have hHy := Nat.le_trans hHx hby.size
      go_wp2_with fail
      refine (HU.out _).mono ?_
      rintro e wz ⟨vz, rfl, hOz, hbz⟩
      have hBz := hBy.trans (hbz.mono hHy)
      have hHz := Nat.le_trans hHy hbz.size
      have hkz : Below wO.heap.size wO wz := (hbx.trans (hby.mono hbx.size)).trans (hbz.mono (Nat.le_trans hbx.size hby.size))
      rw [← (HLN.out 1).1] at hOx
      rw [← (HLN.out 1).2.1] at hOy
      rw [← (HLN.out 1).2.2] at hOz
      have hln : (L 3).length = n + 4 ∧ (L (3 + 1)).length = n + 8 ∧ (L (3 + 2)).length = n + 1 := by
        rw [show L 3 = L 0 from (HLN.out 1).1, show L (3 + 1) = L 1 from (HLN.out 1).2.1, show L (3 + 2) = L 2 from (HLN.out 1).2.2]
        exact HN0.out
      have F0 : Fam wO H 3 g c0 (mrk L 0) := F
      obtain ⟨g1, c1, rfl, rfl, rfl, F1, hag, hnw⟩ := Fam.three F0 (by decide) hHk hOx hbx hOy hby hOz hbz ⟨by rw [hln.1]; omega, by rw [hln.2.1]; omega, by rw [hln.2.2]; omega⟩
      have HNW : Hid (∀ i, 3 ≤ i → i < 3 + 3 → wO.heap.size ≤ g1 i) := hnw
      have HAG : Hid (∀ i, i < 3 → g1 i = g i ∧ c1 i = c0 i) := hag
      rw [hln.1, hln.2.1, hln.2.2]
      have HLK : Hid ((L 3).length = n + 4 ∧ (L (3 + 1)).length = n + 8 ∧ (L (3 + 2)).length = n + 1) := hln
      clear hnw hag hln hOx hOy hOz hbx hby hbz hBx hBy hHx hHy F F0
      generalize hgx : g1 3 = gx at *
      generalize hgy : g1 (3 + 1) = gy at *
      generalize hgz : g1 (3 + 2) = gz at *
      generalize hcx : c1 3 = cx at *
      generalize hcy : c1 (3 + 1) = cy at *
      generalize hcz : c1 (3 + 2) = cz at *
      have HGC : Hid ((g1 3 = gx ∧ g1 (3 + 1) = gy ∧ g1 (3 + 2) = gz) ∧ c1 3 = cx ∧ c1 (3 + 1) = cy ∧ c1 (3 + 2) = cz) := ⟨⟨hgx, hgy, hgz⟩, hcx, hcy, hcz⟩
      clear hgx hgy hgz hcx hcy hcz
      have u1 : ((n : Int) + 4 != (n : Int) + 4) = false := by simp
      have u2 : ((n : Int) + 8 != (n : Int) + 8) = false := by simp
      have u3 : ((n : Int) + 1 != (n : Int) + 1) = false := by simp
      obtain ⟨wT, hwT⟩ : ∃ wT, wT = wz.alloc (.cells #[.slice (some ⟨gx, 0, none⟩) (n + 4) cx, .slice (some ⟨gy, 0, none⟩) (n + 8) cy, .slice (some ⟨gz, 0, none⟩) (n + 1) cz] 22) := ⟨_, rfl⟩
      have hbT : Below wz.heap.size wz wT := by rw [hwT]; exact alloc_below _
      have hcT : wT.cell? ⟨wz.heap.size, 0, none⟩ = some (.slice (some ⟨gx, 0, none⟩) (n + 4) cx) ∧ wT.cell? ⟨wz.heap.size, 1, none⟩ = some (.slice (some ⟨gy, 0, none⟩) (n + 8) cy) ∧ wT.cell? ⟨wz.heap.size, 2, none⟩ = some (.slice (some ⟨gz, 0, none⟩) (n + 1) cz) := by rw [hwT]; simp
      go_upto_region 14 with fail
      rw [← hwT]
      have FT := F1.later hbT
      have hBT := hBz.trans (hbT.mono hHz)
      have hHT := Nat.le_trans hHz hbT.size
      obtain ⟨tb, htb⟩ : ∃ tb, tb = wz.heap.size := ⟨_, rfl⟩
      rw [← htb] at hcT ⊢
      have HTB : Hid (tb < wT.heap.size ∧ wO.heap.size ≤ tb) := ⟨by rw [htb, hwT]; simp, by rw [htb]; exact hkz.size⟩
      have hkT : Below wO.heap.size wO wT := hkz.trans (hbT.mono hkz.size)
      clear htb hwT hbT F1 hBz hHz hkz
      have HCL : Hid (∀ (wk : World) (q : Nat), Below wT.heap.size wT wk → q < 3 → wk.cell? ⟨tb, q, none⟩ = some (.slice (some ⟨g1 (3 + q), 0, none⟩) (L (3 + q)).length (c1 (3 + q)))) := fun wk q hb hq => by
        obtain ⟨⟨e1, e2, e3⟩, e4, e5, e6⟩ := HGC.out
        obtain ⟨m1, m2, m3⟩ := HLK.out
        obtain ⟨d1, d2, d3⟩ := hcT
        rw [hb.cell (p := ⟨tb, q, none⟩) HTB.out.1]
        rcases (by omega : q = 0 ∨ q = 1 ∨ q = 2) with rfl | rfl | rfl
        · rw [d1]; show _ = some (Value.slice (some ⟨g1 3, 0, none⟩) (L 3).length (c1 3)); rw [e1, e4, m1]
        · rw [d2, e2, e5, m2]
        · rw [d3, e3, e6, m3]
      have HLB : Hid (∀ q, q < 3 → 0 < (L (3 + q)).length ∧ (L (3 + q)).length ≤ 1048584) := fun q hq => by
        obtain ⟨m1, m2, m3⟩ := HLK.out
        rcases (by omega : q = 0 ∨ q = 1 ∨ q = 2) with rfl | rfl | rfl
        · show 0 < (L 3).length ∧ (L 3).length ≤ _; omega
        · omega
        · omega
      have hcT' := hcT
      clear hcT
      have FX : Fam wT H 6 g1 c1 (mrk L 0) := FT
      have FF := FS1.later hkT
      have HDS : Hid (∀ i j, i < 6 → j < 3 → g1 i ≠ fg j) := fun i j hi hj => by
        by_cases q : i < 3
        · rw [(HAG.out i q).1]; exact FS2 i j q hj
        · have e1 := HNW.out i (by omega) (by omega)
          have e2 := (FS1.lt hj).2
          omega
      have AFt := FS3.later hkT
      have AAt := AA.later hkT
      have HM3 : Hid (∀ i, L (3 + i) = L i) := fun i => by rw [HLL.out]; unfold frL; rw [show (3 + i) % 3 = i % 3 by omega]
      clear FT FS1 FS2 FS3 AA
      go_wp2
      go_loopw [8, 15] (fun vf i wk => ∃ q : Nat, q ≤ 3 ∧ i = .int .i64 (q : Int) ∧ vf = .slice (some ⟨fb, 0, none⟩) 3 fcc ∧ Below wT.heap.size wT wk) (fun _ i _ => 3 - (intOf i).toNat)
      case atStart => exact ⟨0, by omega, rfl, rfl, Below.refl _ _⟩
      case round =>
        obtain ⟨q, hq, rfl, rfl, hbr⟩ := hrel
        by_cases hlt : q < 3
        · have cq := HCL.out wr q hbr hlt
          have cf := HFC.out wr q (hkT.trans (hbr.mono hkT.size)) hlt
          have hlb := HLB.out q hlt
          have r1 := (FX.ob (3 + q) (by omega)).rb
          rw [mrk_ge L (by omega : 0 ≤ 3 + q)] at r1
          have r2 := (FF.ob q hlt).rb
          rw [HM3.out q] at r1 cq hlb
          have hsq := fun (k : Nat) => same16_yes (r1.later (below_drewN hbr k)) (r2.later (below_drewN hbr k))
          generalize hlnq : (L q).length = lq at *
          generalize hgq : g1 (3 + q) = gq at *
          generalize hcq : c1 (3 + q) = cq' at *
          generalize hfq : fg q = fq at *
          generalize hdq : fc q = dq at *
          clear hlnq hgq hcq hfq hdq r1 r2
          go_wp2
          go_quiet ((go_at_call 8; exact Calls.quiet_of (hsq _)))
          go_wp2
          go_roundw
          case rel => exact ⟨q + 1, by omega, by go_num, rfl, below_drewN hbr _⟩
          case measure => simp [intOf]; omega
        · have hq3 : q = 3 := by omega
          subst hq3
          obtain ⟨wk, hwk⟩ : ∃ wk, wk = wr := ⟨_, rfl⟩
          subst hwk
          have HNE : Hid (∀ j u, (slV g1 c1 (fun i => (L i).length) 3 3)[j]? = some u → wk.cell? ((⟨tb, 0, none⟩ : Addr).add j) = some u) := fun j u hj => by
            have hj3 : j < 3 := by have := (List.getElem?_eq_some_iff.1 hj).1; rwa [slV_len] at this
            rw [slV_at _ _ _ _ hj3] at hj
            have ad : (⟨tb, 0, none⟩ : Addr).add j = ⟨tb, j, none⟩ := by unfold Addr.add; split <;> simp_all
            rw [ad, HCL.out wk j hbr hj3]
            exact hj
          have AAk : Ar8 wk H (.slice aa 3 acc) (slV g1 c1 (fun i => (L i).length) 0 3) := by
            rw [slV_congr (g' := g) (c' := c0) (len' := fun i => (L i).length) (fun i _ hi => ⟨(HAG.out i (by omega)).1, (HAG.out i (by omega)).2, rfl⟩)]
            exact AAt.later hbr
          have hHk2 : H ≤ wk.heap.size := Nat.le_trans hHT hbr.size
          have HBK : Hid (Below H w2 wk) := by show Below _ _ _; exact hBT.trans (hbr.mono hHT)
          have HSZ : Hid (wO.heap.size ≤ wk.heap.size) := Nat.le_trans hkT.size hbr.size
          have F5 := FX.later hbr
          have FF5 := FF.later hbr
          have AF5 := AFt.later hbr
          have hlv := slV_len g1 c1 (fun i => (L i).length) 0 3
          clear FX FF AFt AAt
          go_wp2_with (at_builtin; refine wpList_appA rfl _ _ rfl rfl AAk rfl (news := slV g1 c1 (fun i => (L i).length) 3 3) (slV_len _ _ _ _ _) HNE.out (slV_one _ _ _ _ _) (by rw [hlv]; omega) hHk2 ?_)
          intro v7 w7 AA7 hg7 hk7
          have F7 : Fam w7 H 6 g1 c1 (mrk L 0) := F5.grownA AAk hg7
          have FF7 : Fam w7 H 3 fg fc L := FF5.grownA AAk hg7
          have AF7 := AF5.keep hg7 (fun x hx e => by have e1 := HSF.out x hx; have e2 := HSA.out x e; omega)
          have hB7 : Below H w2 w7 := AAk.below HBK.out (by rw [HH.out]; exact Nat.le_refl _) hg7
          have hs7 : wk.heap.size ≤ w7.heap.size := hg7.size
          have AA8 : Ar8 w7 H v7 (slV g1 c1 (fun i => (L i).length) 0 6) := by
            have e : slV g1 c1 (fun i => (L i).length) 0 (3 + 3) = slV g1 c1 (fun i => (L i).length) 0 3 ++ slV g1 c1 (fun i => (L i).length) 3 3 := slV_more _ _ _ 0 3 3
            have := AA7
            rw [← e] at this
            exact this
          have HSV : Hid (∀ x, v7.ownBlock = some x → S0 ≤ x) := fun x hx => by
            rcases hk7.out with e | ⟨y, e, hy⟩
            · exact HSA.out x (e ▸ hx)
            · have e2 : y = x := Option.some.inj (e.symm.trans hx)
              have := HSZ.out
              omega
          obtain ⟨xa, xc, rfl, hx1, hx2, hxC⟩ := AA8.row
          rw [slV_len] at hx1 AA8 HSV ⊢
          obtain ⟨xb, rfl, hxb, _⟩ := hxC 0 _ (slV_at _ _ _ _ (by decide))
          clear hxC AA7 hg7 hk7 HNE AAk F5 FF5 AF5 hHT hHk2 hkT hBT
          have HS7 : Hid (S0 ≤ w7.heap.size ∧ H ≤ w7.heap.size) := ⟨by have := HSZ.out; omega, by have := HBK.out.size; have := HH.out; omega⟩
          go_wp2
          go_loopw [17] (fun i wk => ∃ q : Nat, 0 ≤ q ∧ q ≤ 6 ∧ i = .int .i64 (q : Int) ∧ Fam wk H 6 g1 c1 (mrk L q) ∧ Fam wk H 3 fg fc L ∧ Ar8 wk H (.slice (some ⟨fb, 0, none⟩) 3 fcc) (slV fg fc (fun i => (L i).length) 0 3) ∧ Ar8 wk H (.slice (some ⟨xb, 0, none⟩) 6 xc) (slV g1 c1 (fun i => (L i).length) 0 6) ∧ Below H w2 wk ∧ w7.heap.size ≤ wk.heap.size) (fun i _ => 6 - (intOf i).toNat)
          case atStart => exact ⟨0, by omega, by omega, rfl, F7, FF7, AF7, AA8, hB7, Nat.le_refl _⟩
          case round =>
            obtain ⟨q, hqm, hq, rfl, G, GF, AF, AA, hBq, hsq⟩ := hrel
            clear F7 FF7 AF7 AA8 hB7
            by_cases hlt : q < 6
            · obtain ⟨wq, hwq⟩ : ∃ wq, wq = wr := ⟨_, rfl⟩
              subst hwq
              have hOq := G.ob q hlt
              rw [mrk_ge L (Nat.le_refl q)] at hOq
              have HAC : Hid (∀ wk : World, In (g1 q) (g1 q + 1) wq wk → wk.cell? ⟨xb, q, none⟩ = some (.slice (some ⟨g1 q, 0, none⟩) (L q).length (c1 q))) := fun wk hi => by
                obtain ⟨_, _, e0, _, _, hC⟩ := (AA.inn hOq hi).row
                obtain ⟨b', e1, _, e2⟩ := hC q _ (slV_at _ _ _ _ hlt)
                simp only [Value.slice.injEq] at e0
                rw [e1] at e0
                have e3 : xb = b' := by have := e0.1; simpa using this
                rw [e3, e2, Nat.zero_add]
              have hlq : (L q).length ≤ 1048584 := by
                rw [HLL.out]
                have e1 := HN0.out
                rw [HLL.out] at e1
                rcases (by omega : q % 3 = 0 ∨ q % 3 = 1 ∨ q % 3 = 2) with e | e | e
                · rw [frL_0 _ _ e, ← frL_0 l V (i := 0) rfl]; omega
                · rw [frL_1 _ _ e, ← frL_1 l V (i := 1) rfl]; omega
                · rw [frL_2 _ _ e, ← frL_2 l V (i := 2) rfl]; omega
              have hxbq : xb < wq.heap.size := Nat.lt_of_lt_of_le hxb hsq
              have hO0 : Ob wq H (.slice (some ⟨g1 q, 0, none⟩) (L q).length (c1 q)) (half8 (L q) (mk8 q) 0) := hOq
              have HCQ : Hid (c1 q ≤ 9223372036854775807 ∧ (L q).length ≤ c1 q) := ⟨(hOq.rb).2.2, (hOq.rb).2.1⟩
              obtain ⟨lq, hlnq⟩ : ∃ lq, lq = (L q).length := ⟨_, rfl⟩
              obtain ⟨gq, hgq⟩ : ∃ gq, gq = g1 q := ⟨_, rfl⟩
              obtain ⟨cq, hcq⟩ : ∃ cq, cq = c1 q := ⟨_, rfl⟩
              have HEQ : Hid (lq = (L q).length ∧ gq = g1 q ∧ cq = c1 q) := ⟨hlnq, hgq, hcq⟩
              rw [← hgq, ← hlnq, ← hcq] at HAC hO0
              rw [← hlnq] at hlq
              clear hOq hlnq hgq hcq
              have cz := HAC.out wq (In.refl _ _ _)
              go_wp2
              go_loopw [18] (fun i wk => ∃ z : Nat, z ≤ lq ∧ i = .int .i64 (z : Int) ∧ Ob wk H (.slice (some ⟨gq, 0, none⟩) lq cq) (half8 (L q) (mk8 q) z) ∧ In gq (gq + 1) wq wk) (fun i _ => lq - (intOf i).toNat)
              case atStart => exact ⟨0, Nat.zero_le _, rfl, hO0, In.refl _ _ _⟩
              case round =>
                obtain ⟨z, hz, rfl, hOz, hIz⟩ := hrel
                clear hO0
                have cz := HAC.out _ hIz
                by_cases hzt : z < lq
                · have hlz : (half8 (L q) (mk8 q) z).length = lq := by rw [half8_len (by have := HEQ.out.1; omega)]; exact HEQ.out.1.symm
                  have cx := hOz.rb.cells (by omega)
                  obtain ⟨_, _, e1, _, cx⟩ := cx
                  simp only [Option.some.injEq, Addr.mk.injEq] at e1
                  obtain ⟨rfl, rfl, _⟩ := e1
                  have cx := cx z hzt
                  rw [Nat.zero_add] at cx
                  have fx := hOz.free hlz.symm z
                  have hO2 := hOz.set hlz.symm z (mk8 q) (mk8_nat (q := q) (by omega)).symm
                  rw [half8_set (by have := HEQ.out.1; omega)] at hO2
                  have hI2 := hIz.set1 z (.int .u8 (100 + (q : Int)))
                  generalize ((half8 (L q) (mk8 q) z).getD z 0) = y at *
                  clear hlz hOz hIz
                  go_wp2
                  go_roundw
                  case rel => exact ⟨z + 1, by omega, by go_num, hO2, hI2⟩
                  case measure => simp [intOf]; omega
                · have hzl : z = lq := by omega
                  subst hzl
                  obtain ⟨e1, e2, e3⟩ := HEQ.out
                  have hOr : Ob wr H (.slice (some ⟨g1 q, 0, none⟩) (mrk L (q + 1) q).length (c1 q)) (mrk L (q + 1) q) := by
                    rw [mrk_len, mrk_at, ← half8_all, ← e1, ← e2, ← e3]
                    exact hOz
                  have hI : In (g1 q) (g1 q + 1) wq wr := by rw [← e2]; exact hIz
                  have G2 := G.put hlt hI hOr (fun i hi hne => mrk_ne L hne)
                  have GF2 := GF.inn8 hI (fun j hj => (HDS.out q j hlt hj).symm)
                  have AF2 := AF.inn (G.ob q hlt) hI
                  have AA2 := AA.inn (G.ob q hlt) hI
                  have hB2 := below_inn hBq hI (G.lt hlt).1 (by rw [HH.out]; exact Nat.le_refl _)
                  have hs2 := Nat.le_trans hsq hI.size
                  clear hOz hIz e1 e2 e3 hOr hI G GF AF AA hBq
                  go_wp2
                  go_roundw
                  case rel => exact ⟨q + 1, by omega, by omega, by go_num, G2, GF2, AF2, AA2, hB2, hs2⟩
                  case measure => simp [intOf]; omega
            · have hq3 : q = 6 := by omega
              subst hq3
              go_wp2
              go_roundw
              case rel =>
                refine ⟨2, by omega, rfl, hBq, Nat.le_trans HS7.out.2 hsq, g1, c1, fg, fc, S0, G, fun _ => ⟨GF, HDS.out, AF⟩, fun e => by omega, AA, HSF.out, HSV.out, Nat.le_trans HS7.out.1 hsq⟩
              case measure => simp [intOf]
    · obtain ⟨FS1, FS2, FS3⟩ := FS (by decide)
      clear FS FN
      obtain ⟨fa, fcc, rfl, hfc1, hfc2, hfcC⟩ := FS3.row
      rw [slV_len] at hfc1 FS3 SF
      obtain ⟨fb, rfl, hfb, _⟩ := hfcC 0 _ (slV_at _ _ _ _ (by decide))
      have HFC : Hid (∀ (wk : World) (q : Nat), Below wO.heap.size wO wk → q < 3 → wk.cell? ⟨fb, q, none⟩ = some (.slice (some ⟨fg q, 0, none⟩) (L q).length (fc q))) := fun wk q hb hq => by
        obtain ⟨b', e1, _, e2⟩ := hfcC q _ (slV_at _ _ _ _ hq)
        simp only [Option.some.injEq, Addr.mk.injEq] at e1
        rw [hb.cell (p := ⟨fb, q, none⟩) hfb, e1.1, e2, Nat.zero_add]
      obtain ⟨aa, acc, rfl, hac1, hac2, hacC⟩ := AA.row
      rw [slV_len] at hac1 AA SA
      clear hfcC hacC
      have AA : Ar8 wO H (.slice aa 6 acc) (slV g c0 (fun i => (L i).length) 0 6) := AA
      have SA : ∀ x, (Value.slice aa 6 acc).ownBlock = some x → S0 ≤ x := SA
      have HSF : Hid (∀ x, (Value.slice (some ⟨fb, 0, none⟩) 3 fcc).ownBlock = some x → x < S0) := SF
      have HSA : Hid (∀ x, (Value.slice aa 6 acc).ownBlock = some x → S0 ≤ x) := SA
      have hac1 : 6 ≤ acc := hac1
      rw [slV_len]
      clear SF SA
      go_wp2_with fail
      rw [E32.out]
      refine (HP.out _ hBk).mono ?_
      rintro e wx ⟨vx, rfl, hOx, hbx⟩
      have hBx := hBk.trans (hbx.mono hHk)
      have hHx := Nat.le_trans hHk hbx.size
      go_wp2_with fail
      refine (HQ.out _ hBx).mono ?_
      rintro e wy ⟨vy, rfl, hOy, hby⟩
      have hBy := hBx.trans (hby.mono hHx)
      have hHy := Nat.le_trans hHx hby.size
      go_wp2_with fail
      refine (HU.out _).mono ?_
      rintro e wz ⟨vz, rfl, hOz, hbz⟩
      have hBz := hBy.trans (hbz.mono hHy)
      have hHz := Nat.le_trans hHy hbz.size
      have hkz : Below wO.heap.size wO wz := (hbx.trans (hby.mono hbx.size)).trans (hbz.mono (Nat.le_trans hbx.size hby.size))
      rw [← (HLN.out 2).1] at hOx
      rw [← (HLN.out 2).2.1] at hOy
      rw [← (HLN.out 2).2.2] at hOz
      have hln : (L 6).length = n + 4 ∧ (L (6 + 1)).length = n + 8 ∧ (L (6 + 2)).length = n + 1 := by
        rw [show L 6 = L 0 from (HLN.out 2).1, show L (6 + 1) = L 1 from (HLN.out 2).2.1, show L (6 + 2) = L 2 from (HLN.out 2).2.2]
        exact HN0.out
      have F0 : Fam wO H 6 g c0 (mrk L 6) := F
      obtain ⟨g1, c1, rfl, rfl, rfl, F1, hag, hnw⟩ := Fam.three F0 (by decide) hHk hOx hbx hOy hby hOz hbz ⟨by rw [hln.1]; omega, by rw [hln.2.1]; omega, by rw [hln.2.2]; omega⟩
      have HNW : Hid (∀ i, 6 ≤ i → i < 6 + 3 → wO.heap.size ≤ g1 i) := hnw
      have HAG : Hid (∀ i, i < 6 → g1 i = g i ∧ c1 i = c0 i) := hag
      rw [hln.1, hln.2.1, hln.2.2]
      have HLK : Hid ((L 6).length = n + 4 ∧ (L (6 + 1)).length = n + 8 ∧ (L (6 + 2)).length = n + 1) := hln
      clear hnw hag hln hOx hOy hOz hbx hby hbz hBx hBy hHx hHy F F0
      generalize hgx : g1 6 = gx at *
      generalize hgy : g1 (6 + 1) = gy at *
      generalize hgz : g1 (6 + 2) = gz at *
      generalize hcx : c1 6 = cx at *
      generalize hcy : c1 (6 + 1) = cy at *
      generalize hcz : c1 (6 + 2) = cz at *
      have HGC : Hid ((g1 6 = gx ∧ g1 (6 + 1) = gy ∧ g1 (6 + 2) = gz) ∧ c1 6 = cx ∧ c1 (6 + 1) = cy ∧ c1 (6 + 2) = cz) := ⟨⟨hgx, hgy, hgz⟩, hcx, hcy, hcz⟩
      clear hgx hgy hgz hcx hcy hcz
      have u1 : ((n : Int) + 4 != (n : Int) + 4) = false := by simp
      have u2 : ((n : Int) + 8 != (n : Int) + 8) = false := by simp
      have u3 : ((n : Int) + 1 != (n : Int) + 1) = false := by simp
      obtain ⟨wT, hwT⟩ : ∃ wT, wT = wz.alloc (.cells #[.slice (some ⟨gx, 0, none⟩) (n + 4) cx, .slice (some ⟨gy, 0, none⟩) (n + 8) cy, .slice (some ⟨gz, 0, none⟩) (n + 1) cz] 22) := ⟨_, rfl⟩
      have hbT : Below wz.heap.size wz wT := by rw [hwT]; exact alloc_below _
      have hcT : wT.cell? ⟨wz.heap.size, 0, none⟩ = some (.slice (some ⟨gx, 0, none⟩) (n + 4) cx) ∧ wT.cell? ⟨wz.heap.size, 1, none⟩ = some (.slice (some ⟨gy, 0, none⟩) (n + 8) cy) ∧ wT.cell? ⟨wz.heap.size, 2, none⟩ = some (.slice (some ⟨gz, 0, none⟩) (n + 1) cz) := by rw [hwT]; simp
      go_upto_region 14 with fail
      rw [← hwT]
      have FT := F1.later hbT
      have hBT := hBz.trans (hbT.mono hHz)
      have hHT := Nat.le_trans hHz hbT.size
      obtain ⟨tb, htb⟩ : ∃ tb, tb = wz.heap.size := ⟨_, rfl⟩
      rw [← htb] at hcT ⊢
      have HTB : Hid (tb < wT.heap.size ∧ wO.heap.size ≤ tb) := ⟨by rw [htb, hwT]; simp, by rw [htb]; exact hkz.size⟩
      have hkT : Below wO.heap.size wO wT := hkz.trans (hbT.mono hkz.size)
      clear htb hwT hbT F1 hBz hHz hkz
      have HCL : Hid (∀ (wk : World) (q : Nat), Below wT.heap.size wT wk → q < 3 → wk.cell? ⟨tb, q, none⟩ = some (.slice (some ⟨g1 (6 + q), 0, none⟩) (L (6 + q)).length (c1 (6 + q)))) := fun wk q hb hq => by
        obtain ⟨⟨e1, e2, e3⟩, e4, e5, e6⟩ := HGC.out
        obtain ⟨m1, m2, m3⟩ := HLK.out
        obtain ⟨d1, d2, d3⟩ := hcT
        rw [hb.cell (p := ⟨tb, q, none⟩) HTB.out.1]
        rcases (by omega : q = 0 ∨ q = 1 ∨ q = 2) with rfl | rfl | rfl
        · rw [d1]; show _ = some (Value.slice (some ⟨g1 6, 0, none⟩) (L 6).length (c1 6)); rw [e1, e4, m1]
        · rw [d2, e2, e5, m2]
        · rw [d3, e3, e6, m3]
      have HLB : Hid (∀ q, q < 3 → 0 < (L (6 + q)).length ∧ (L (6 + q)).length ≤ 1048584) := fun q hq => by
        obtain ⟨m1, m2, m3⟩ := HLK.out
        rcases (by omega : q = 0 ∨ q = 1 ∨ q = 2) with rfl | rfl | rfl
        · show 0 < (L 6).length ∧ (L 6).length ≤ _; omega
        · omega
        · omega
      have hcT' := hcT
      clear hcT
      have FX : Fam wT H 9 g1 c1 (mrk L 6) := FT
      have FF := FS1.later hkT
      have HDS : Hid (∀ i j, i < 9 → j < 3 → g1 i ≠ fg j) := fun i j hi hj => by
        by_cases q : i < 6
        · rw [(HAG.out i q).1]; exact FS2 i j q hj
        · have e1 := HNW.out i (by omega) (by omega)
          have e2 := (FS1.lt hj).2
          omega
      have AFt := FS3.later hkT
      have AAt := AA.later hkT
      have HM3 : Hid (∀ i, L (6 + i) = L i) := fun i => by rw [HLL.out]; unfold frL; rw [show (6 + i) % 3 = i % 3 by omega]
      clear FT FS1 FS2 FS3 AA
      go_wp2
      go_loopw [8, 15] (fun vf i wk => ∃ q : Nat, q ≤ 3 ∧ i = .int .i64 (q : Int) ∧ vf = .slice (some ⟨fb, 0, none⟩) 3 fcc ∧ Below wT.heap.size wT wk) (fun _ i _ => 3 - (intOf i).toNat)
      case atStart => exact ⟨0, by omega, rfl, rfl, Below.refl _ _⟩
      case round =>
        obtain ⟨q, hq, rfl, rfl, hbr⟩ := hrel
        by_cases hlt : q < 3
        · have cq := HCL.out wr q hbr hlt
          have cf := HFC.out wr q (hkT.trans (hbr.mono hkT.size)) hlt
          have hlb := HLB.out q hlt
          have r1 := (FX.ob (6 + q) (by omega)).rb
          rw [mrk_ge L (by omega : 6 ≤ 6 + q)] at r1
          have r2 := (FF.ob q hlt).rb
          rw [HM3.out q] at r1 cq hlb
          have hsq := fun (k : Nat) => same16_yes (r1.later (below_drewN hbr k)) (r2.later (below_drewN hbr k))
          generalize hlnq : (L q).length = lq at *
          generalize hgq : g1 (6 + q) = gq at *
          generalize hcq : c1 (6 + q) = cq' at *
          generalize hfq : fg q = fq at *
          generalize hdq : fc q = dq at *
          clear hlnq hgq hcq hfq hdq r1 r2
          go_wp2
          go_quiet ((go_at_call 8; exact Calls.quiet_of (hsq _)))
          go_wp2
          go_roundw
          case rel => exact ⟨q + 1, by omega, by go_num, rfl, below_drewN hbr _⟩
          case measure => simp [intOf]; omega
        · have hq3 : q = 3 := by omega
          subst hq3
          obtain ⟨wk, hwk⟩ : ∃ wk, wk = wr := ⟨_, rfl⟩
          subst hwk
          have HNE : Hid (∀ j u, (slV g1 c1 (fun i => (L i).length) 6 3)[j]? = some u → wk.cell? ((⟨tb, 0, none⟩ : Addr).add j) = some u) := fun j u hj => by
            have hj3 : j < 3 := by have := (List.getElem?_eq_some_iff.1 hj).1; rwa [slV_len] at this
            rw [slV_at _ _ _ _ hj3] at hj
            have ad : (⟨tb, 0, none⟩ : Addr).add j = ⟨tb, j, none⟩ := by unfold Addr.add; split <;> simp_all
            rw [ad, HCL.out wk j hbr hj3]
            exact hj
          have AAk : Ar8 wk H (.slice aa 6 acc) (slV g1 c1 (fun i => (L i).length) 0 6) := by
            rw [slV_congr (g' := g) (c' := c0) (len' := fun i => (L i).length) (fun i _ hi => ⟨(HAG.out i (by omega)).1, (HAG.out i (by omega)).2, rfl⟩)]
            exact AAt.later hbr
          have hHk2 : H ≤ wk.heap.size := Nat.le_trans hHT hbr.size
          have HBK : Hid (Below H w2 wk) := by show Below _ _ _; exact hBT.trans (hbr.mono hHT)
          have HSZ : Hid (wO.heap.size ≤ wk.heap.size) := Nat.le_trans hkT.size hbr.size
          have F5 := FX.later hbr
          have FF5 := FF.later hbr
          have AF5 := AFt.later hbr
          have hlv := slV_len g1 c1 (fun i => (L i).length) 0 6
          clear FX FF AFt AAt
          go_wp2_with (at_builtin; refine wpList_appA rfl _ _ rfl rfl AAk rfl (news := slV g1 c1 (fun i => (L i).length) 6 3) (slV_len _ _ _ _ _) HNE.out (slV_one _ _ _ _ _) (by rw [hlv]; omega) hHk2 ?_)
          intro v7 w7 AA7 hg7 hk7
          have F7 : Fam w7 H 9 g1 c1 (mrk L 6) := F5.grownA AAk hg7
          have FF7 : Fam w7 H 3 fg fc L := FF5.grownA AAk hg7
          have AF7 := AF5.keep hg7 (fun x hx e => by have e1 := HSF.out x hx; have e2 := HSA.out x e; omega)
          have hB7 : Below H w2 w7 := AAk.below HBK.out (by rw [HH.out]; exact Nat.le_refl _) hg7
          have hs7 : wk.heap.size ≤ w7.heap.size := hg7.size
          have AA8 : Ar8 w7 H v7 (slV g1 c1 (fun i => (L i).length) 0 9) := by
            have e : slV g1 c1 (fun i => (L i).length) 0 (6 + 3) = slV g1 c1 (fun i => (L i).length) 0 6 ++ slV g1 c1 (fun i => (L i).length) 6 3 := slV_more _ _ _ 0 6 3
            have := AA7
            rw [← e] at this
            exact this
          have HSV : Hid (∀ x, v7.ownBlock = some x → S0 ≤ x) := fun x hx => by
            rcases hk7.out with e | ⟨y, e, hy⟩
            · exact HSA.out x (e ▸ hx)
            · have e2 : y = x := Option.some.inj (e.symm.trans hx)
              have := HSZ.out
              omega
          obtain ⟨xa, xc, rfl, hx1, hx2, hxC⟩ := AA8.row
          rw [slV_len] at hx1 AA8 HSV ⊢
          obtain ⟨xb, rfl, hxb, _⟩ := hxC 0 _ (slV_at _ _ _ _ (by decide))
          clear hxC AA7 hg7 hk7 HNE AAk F5 FF5 AF5 hHT hHk2 hkT hBT
          have HS7 : Hid (S0 ≤ w7.heap.size ∧ H ≤ w7.heap.size) := ⟨by have := HSZ.out; omega, by have := HBK.out.size; have := HH.out; omega⟩
          go_wp2
          go_loopw [17] (fun i wk => ∃ q : Nat, 6 ≤ q ∧ q ≤ 9 ∧ i = .int .i64 (q : Int) ∧ Fam wk H 9 g1 c1 (mrk L q) ∧ Fam wk H 3 fg fc L ∧ Ar8 wk H (.slice (some ⟨fb, 0, none⟩) 3 fcc) (slV fg fc (fun i => (L i).length) 0 3) ∧ Ar8 wk H (.slice (some ⟨xb, 0, none⟩) 9 xc) (slV g1 c1 (fun i => (L i).length) 0 9) ∧ Below H w2 wk ∧ w7.heap.size ≤ wk.heap.size) (fun i _ => 9 - (intOf i).toNat)
          case atStart => exact ⟨6, by omega, by omega, rfl, F7, FF7, AF7, AA8, hB7, Nat.le_refl _⟩
          case round =>
            obtain ⟨q, hqm, hq, rfl, G, GF, AF, AA, hBq, hsq⟩ := hrel
            clear F7 FF7 AF7 AA8 hB7
            by_cases hlt : q < 9
            · obtain ⟨wq, hwq⟩ : ∃ wq, wq = wr := ⟨_, rfl⟩
              subst hwq
              have hOq := G.ob q hlt
              rw [mrk_ge L (Nat.le_refl q)] at hOq
              have HAC : Hid (∀ wk : World, In (g1 q) (g1 q + 1) wq wk → wk.cell? ⟨xb, q, none⟩ = some (.slice (some ⟨g1 q, 0, none⟩) (L q).length (c1 q))) := fun wk hi => by
                obtain ⟨_, _, e0, _, _, hC⟩ := (AA.inn hOq hi).row
                obtain ⟨b', e1, _, e2⟩ := hC q _ (slV_at _ _ _ _ hlt)
                simp only [Value.slice.injEq] at e0
                rw [e1] at e0
                have e3 : xb = b' := by have := e0.1; simpa using this
                rw [e3, e2, Nat.zero_add]
              have hlq : (L q).length ≤ 1048584 := by
                rw [HLL.out]
                have e1 := HN0.out
                rw [HLL.out] at e1
                rcases (by omega : q % 3 = 0 ∨ q % 3 = 1 ∨ q % 3 = 2) with e | e | e
                · rw [frL_0 _ _ e, ← frL_0 l V (i := 0) rfl]; omega
                · rw [frL_1 _ _ e, ← frL_1 l V (i := 1) rfl]; omega
                · rw [frL_2 _ _ e, ← frL_2 l V (i := 2) rfl]; omega
              have hxbq : xb < wq.heap.size := Nat.lt_of_lt_of_le hxb hsq
              have hO0 : Ob wq H (.slice (some ⟨g1 q, 0, none⟩) (L q).length (c1 q)) (half8 (L q) (mk8 q) 0) := hOq
              have HCQ : Hid (c1 q ≤ 9223372036854775807 ∧ (L q).length ≤ c1 q) := ⟨(hOq.rb).2.2, (hOq.rb).2.1⟩
              obtain ⟨lq, hlnq⟩ : ∃ lq, lq = (L q).length := ⟨_, rfl⟩
              obtain ⟨gq, hgq⟩ : ∃ gq, gq = g1 q := ⟨_, rfl⟩
              obtain ⟨cq, hcq⟩ : ∃ cq, cq = c1 q := ⟨_, rfl⟩
              have HEQ : Hid (lq = (L q).length ∧ gq = g1 q ∧ cq = c1 q) := ⟨hlnq, hgq, hcq⟩
              rw [← hgq, ← hlnq, ← hcq] at HAC hO0
              rw [← hlnq] at hlq
              clear hOq hlnq hgq hcq
              have cz := HAC.out wq (In.refl _ _ _)
              go_wp2
              go_loopw [18] (fun i wk => ∃ z : Nat, z ≤ lq ∧ i = .int .i64 (z : Int) ∧ Ob wk H (.slice (some ⟨gq, 0, none⟩) lq cq) (half8 (L q) (mk8 q) z) ∧ In gq (gq + 1) wq wk) (fun i _ => lq - (intOf i).toNat)
              case atStart => exact ⟨0, Nat.zero_le _, rfl, hO0, In.refl _ _ _⟩
              case round =>
                obtain ⟨z, hz, rfl, hOz, hIz⟩ := hrel
                clear hO0
                have cz := HAC.out _ hIz
                by_cases hzt : z < lq
                · have hlz : (half8 (L q) (mk8 q) z).length = lq := by rw [half8_len (by have := HEQ.out.1; omega)]; exact HEQ.out.1.symm
                  have cx := hOz.rb.cells (by omega)
                  obtain ⟨_, _, e1, _, cx⟩ := cx
                  simp only [Option.some.injEq, Addr.mk.injEq] at e1
                  obtain ⟨rfl, rfl, _⟩ := e1
                  have cx := cx z hzt
                  rw [Nat.zero_add] at cx
                  have fx := hOz.free hlz.symm z
                  have hO2 := hOz.set hlz.symm z (mk8 q) (mk8_nat (q := q) (by omega)).symm
                  rw [half8_set (by have := HEQ.out.1; omega)] at hO2
                  have hI2 := hIz.set1 z (.int .u8 (100 + (q : Int)))
                  generalize ((half8 (L q) (mk8 q) z).getD z 0) = y at *
                  clear hlz hOz hIz
                  go_wp2
                  go_roundw
                  case rel => exact ⟨z + 1, by omega, by go_num, hO2, hI2⟩
                  case measure => simp [intOf]; omega
                · have hzl : z = lq := by omega
                  subst hzl
                  obtain ⟨e1, e2, e3⟩ := HEQ.out
                  have hOr : Ob wr H (.slice (some ⟨g1 q, 0, none⟩) (mrk L (q + 1) q).length (c1 q)) (mrk L (q + 1) q) := by
                    rw [mrk_len, mrk_at, ← half8_all, ← e1, ← e2, ← e3]
                    exact hOz
                  have hI : In (g1 q) (g1 q + 1) wq wr := by rw [← e2]; exact hIz
                  have G2 := G.put hlt hI hOr (fun i hi hne => mrk_ne L hne)
                  have GF2 := GF.inn8 hI (fun j hj => (HDS.out q j hlt hj).symm)
                  have AF2 := AF.inn (G.ob q hlt) hI
                  have AA2 := AA.inn (G.ob q hlt) hI
                  have hB2 := below_inn hBq hI (G.lt hlt).1 (by rw [HH.out]; exact Nat.le_refl _)
                  have hs2 := Nat.le_trans hsq hI.size
                  clear hOz hIz e1 e2 e3 hOr hI G GF AF AA hBq
                  go_wp2
                  go_roundw
                  case rel => exact ⟨q + 1, by omega, by omega, by go_num, G2, GF2, AF2, AA2, hB2, hs2⟩
                  case measure => simp [intOf]; omega
            · have hq3 : q = 9 := by omega
              subst hq3
              go_wp2
              go_roundw
              case rel =>
                refine ⟨3, by omega, rfl, hBq, Nat.le_trans HS7.out.2 hsq, g1, c1, fg, fc, S0, G, fun _ => ⟨GF, HDS.out, AF⟩, fun e => by omega, AA, HSF.out, HSV.out, Nat.le_trans HS7.out.1 hsq⟩
              case measure => simp [intOf]
    · have G : Fam wO H 9 g c0 (mrk L 9) := F
      obtain ⟨aa, acc, rfl, hac1, hac2, hacC⟩ := AA.row
      rw [slV_len] at hac1 AA
      have AA : Ar8 wO H (.slice aa 9 acc) (slV g c0 (fun i => (L i).length) 0 9) := AA
      have hac1 : 9 ≤ acc := hac1
      rw [slV_len]
      obtain ⟨ab, rfl, hab, _⟩ := hacC 0 _ (slV_at _ _ _ _ (by decide))
      clear hacC F FS FN SF SA SS
      have HLB : Hid (∀ i, 0 < (L i).length ∧ (L i).length ≤ 1048584) := fun q => by
        rw [HLL.out]
        have e1 := HN0.out
        rw [HLL.out] at e1
        rcases (by omega : q % 3 = 0 ∨ q % 3 = 1 ∨ q % 3 = 2) with e | e | e
        · rw [frL_0 _ _ e, ← frL_0 l V (i := 0) rfl]; omega
        · rw [frL_1 _ _ e, ← frL_1 l V (i := 1) rfl]; omega
        · rw [frL_2 _ _ e, ← frL_2 l V (i := 2) rfl]; omega
      have hL0 : Lng wO H 0 g (fun _ => 0) (fun _ => 0) L := fun i hi => by omega
      go_wp2
      go_loopw [19, 20] (fun vl i wk => ∃ (q : Nat) (hg hc : Nat → Nat), q ≤ 9 ∧ i = .int .i64 (q : Int) ∧ Lng wk H q g hg hc L ∧ Fam wk H 9 g c0 (mrk L 9) ∧ Ar8 wk H (.slice (some ⟨ab, 0, none⟩) 9 acc) (slV g c0 (fun i => (L i).length) 0 9) ∧ Ar8 wk wO.heap.size vl (slV hg hc (fun i => (L i).length + 1) 0 q) ∧ Below H w2 wk ∧ wO.heap.size ≤ wk.heap.size) (fun _ i _ => 9 - (intOf i).toNat)
      case atStart => exact ⟨0, _, _, by omega, rfl, hL0, G, AA, Ar8.nil _ _, hBk, Nat.le_refl _⟩
      case round =>
        obtain ⟨q, hg, hc, hq, rfl, LG, G, AA, AL, hBq, hsq⟩ := hrel
        clear hL0
        by_cases hlt : q < 9
        · obtain ⟨_, _, e0, _, _, hC⟩ := AA.row
          obtain ⟨b', e1, _, e2⟩ := hC q _ (slV_at _ _ _ _ hlt)
          simp only [Value.slice.injEq] at e0
          rw [e1] at e0
          have e3 : ab = b' := by have := e0.1; simpa using this
          rw [← e3, Nat.zero_add] at e2
          clear e0 e1 e3 hC
          have HLQ : Hid (0 < (L q).length ∧ (L q).length ≤ 1048584) := HLB.out q
          have hbe : Below wr.heap.size wr (wr.alloc (.cells #[.int .u8 (100 + (q : Int))] 5)) := alloc_below _
          have hOq := (G.ob q hlt).alloc (.cells #[.int .u8 (100 + (q : Int))] 5)
          have hHr : H ≤ wr.heap.size := Nat.le_trans hHk hsq
          have habq : ab < wr.heap.size := Nat.lt_of_lt_of_le hab hsq
          have e2a : (wr.alloc (.cells #[.int .u8 (100 + (q : Int))] 5)).cell? ⟨ab, q, none⟩ = _ := (hbe.cell (p := ⟨ab, q, none⟩) habq).trans e2
          have hml := mrk_len L 9 q
          rw [hml] at hOq
          obtain ⟨lq, hlnq⟩ : ∃ lq, lq = (L q).length := ⟨_, rfl⟩
          have HEQ : Hid (lq = (L q).length) := hlnq
          rw [← hlnq] at hOq e2 e2a HLQ
          have HQ1 : Hid ((100 + (q : Int)) = ((mk8 q).toNat : Int)) := (mk8_nat (by omega)).symm
          clear hlnq
          go_wp2_with (at_builtin; refine wpList_app8 rfl _ _ rfl rfl hOq rfl (rb_one wr HQ1.out) (by rw [hml, ← HEQ.out]; have := HLQ.out; omega) (Nat.le_trans hHr hbe.size) ?_)
          intro v5 w5 hO5 hg5 hkp
          have hB5 : Below H w2 w5 := hOq.below (hBq.trans (hbe.mono hHr)) (by rw [HH.out]; exact Nat.le_refl _) hg5
          have AA5 := (AA.later hbe).keep hg5 (fun x hx e => (AA.later hbe).off hOq x e hx)
          have AL5 := (AL.later hbe).keep hg5 (fun x hx e => (AL.later hbe).off hOq x e hx)
          have hs5 : wr.heap.size ≤ w5.heap.size := Nat.le_trans hbe.size hg5.size
          rw [HEQ.out, ← mrk_len L 9 q] at hkp
          obtain ⟨gx, cx, rfl, hcx, G5, LG5⟩ := long_step G LG hlt hg5 hO5 hkp
          rw [← HEQ.out] at hcx ⊢
          have hlv := slV_len hg hc (fun i => (L i).length + 1) 0 q
          have hba : Below w5.heap.size w5 (w5.alloc (.cells #[.slice (some ⟨gx, 0, none⟩) (lq + 1) cx] 22)) := alloc_below _
          have AL6 := AL5.later hba
          have hHO5 : wO.heap.size ≤ (w5.alloc (.cells #[.slice (some ⟨gx, 0, none⟩) (lq + 1) cx] 22)).heap.size := Nat.le_trans (Nat.le_trans hsq hs5) hba.size
          clear hO5 hg5 hkp hOq e2 e2a AA AL LG G hbe AL5
          go_wp2_with (at_builtin; refine wpList_appA rfl _ _ rfl rfl AL6 rfl (news := [.slice (some ⟨gx, 0, none⟩) (lq + 1) cx]) rfl one_new (fun u hu => by rw [List.mem_singleton.1 hu]; rfl) (by rw [hlv]; omega) hHO5 ?_)
          intro v6 w6 AL7 hg6 hk6
          have G7 := (G5.later hba).grownA AL6 hg6
          have LG7 := (LG5.later hba).grownA AL6 hg6
          have AA7 := (AA5.later hba).keep hg6 (fun x hx e => by
            have e1 : ab = x := Option.some.inj hx
            have e2 := (AL6.blk e).1
            omega)
          have hB7 : Below H w2 w6 := (AL6.wider hHk).below (hB5.trans (hba.mono (by omega))) (by rw [HH.out]; exact Nat.le_refl _) hg6
          have hs7 : wO.heap.size ≤ w6.heap.size := Nat.le_trans hHO5 hg6.size
          have AL8 : Ar8 w6 wO.heap.size v6 (slV (ext1 hg q gx) (ext1 hc q cx) (fun i => (L i).length + 1) 0 (q + 1)) := by
            have e1 : slV (ext1 hg q gx) (ext1 hc q cx) (fun i => (L i).length + 1) 0 (q + 1) = slV hg hc (fun i => (L i).length + 1) 0 q ++ [.slice (some ⟨gx, 0, none⟩) (lq + 1) cx] := by
              rw [slV_more, slV_congr (g' := hg) (c' := hc) (len' := fun i => (L i).length + 1) (fun i _ hi => ⟨ext1_lt _ _ (by omega), ext1_lt _ _ (by omega), rfl⟩)]
              congr 1
              show [Value.slice (some ⟨ext1 hg q gx (0 + q + 0), 0, none⟩) ((L (0 + q + 0)).length + 1) (ext1 hc q cx (0 + q + 0))] = _
              rw [show 0 + q + 0 = q by omega, ext1_at, ext1_at, HEQ.out]
            rw [e1]
            exact AL7
          clear AL7 AL6 G5 LG5 AA5 hB5 hg6 hk6 hba hHO5
          go_wp2
          go_roundw
          case rel => exact ⟨q + 1, _, _, by omega, by go_num, LG7, G7, AA7, AL8, hB7, hs7⟩
          case measure => simp [intOf]; omega
        · have hq9 : q = 9 := by omega
          subst hq9
          obtain ⟨wL, hwL⟩ : ∃ wL, wL = wr := ⟨_, rfl⟩
          subst hwL
          obtain ⟨la, lcc, rfl, hl1, hl2, hlC⟩ := AL.row
          rw [slV_len] at hl1 AL
          obtain ⟨lb, rfl, hlb, _⟩ := hlC 0 _ (slV_at _ _ _ _ (by decide))
          have HLC : Hid (∀ (wk : World) (q : Nat), Below wL.heap.size wL wk → q < 9 → wk.cell? ⟨lb, q, none⟩ = some (.slice (some ⟨hg q, 0, none⟩) ((L q).length + 1) (hc q))) := fun wk q hb hq => by
            obtain ⟨b', e1, _, e2⟩ := hlC q _ (slV_at _ _ _ _ hq)
            simp only [Option.some.injEq, Addr.mk.injEq] at e1
            rw [hb.cell (p := ⟨lb, q, none⟩) hlb, e1.1, e2, Nat.zero_add]
          have HAC : Hid (∀ (wk : World) (q : Nat), Below wL.heap.size wL wk → q < 9 → wk.cell? ⟨ab, q, none⟩ = some (.slice (some ⟨g q, 0, none⟩) (L q).length (c0 q))) := fun wk q hb hq => by
            obtain ⟨_, _, e0, _, _, hC⟩ := AA.row
            obtain ⟨b', e1, _, e2⟩ := hC q _ (slV_at _ _ _ _ hq)
            simp only [Value.slice.injEq] at e0
            rw [e1] at e0
            have e3 : ab = b' := by have := e0.1; simpa using this
            rw [hb.cell (p := ⟨ab, q, none⟩) (Nat.lt_of_lt_of_le hab hsq), e3, e2, Nat.zero_add]
          have HRL : Hid (∀ (wk : World) (q z : Nat), Below wL.heap.size wL wk → q < 9 → z < (L q).length + 1 → wk.cell? ⟨hg q, z, none⟩ = some (.int .u8 (100 + (q : Int)))) := fun wk q z hb hq hz => by
            obtain ⟨_, _, e1, _, cx⟩ := (((LG q hq).1).later hb).rb.cells (by omega)
            simp only [Option.some.injEq, Addr.mk.injEq] at e1
            obtain ⟨rfl, rfl, _⟩ := e1
            have cx := cx z hz
            rw [Nat.zero_add, rep_at _ hz, mk8_nat (by omega)] at cx
            exact cx
          have HRA : Hid (∀ (wk : World) (q z : Nat), Below wL.heap.size wL wk → q < 9 → z < (L q).length → wk.cell? ⟨g q, z, none⟩ = some (.int .u8 (100 + (q : Int)))) := fun wk q z hb hq hz => by
            have hr := ((G.ob q hq).later hb).rb
            rw [mrk9 L hq, List.length_replicate] at hr
            obtain ⟨_, _, e1, _, cx⟩ := hr.cells (by omega)
            simp only [Option.some.injEq, Addr.mk.injEq] at e1
            obtain ⟨rfl, rfl, _⟩ := e1
            have cx := cx z hz
            rw [Nat.zero_add, rep_at _ hz, mk8_nat (by omega)] at cx
            exact cx
          rw [slV_len]
          have hl1 : 9 ≤ lcc := hl1
          clear hlC AA AL G LG
          go_wp2
          go_loopw [21] (fun i wk => ∃ q : Nat, q ≤ 9 ∧ i = .int .i64 (q : Int) ∧ Below wL.heap.size wL wk) (fun i _ => 9 - (intOf i).toNat)
          case atStart => exact ⟨0, by omega, rfl, Below.refl _ _⟩
          case round =>
            obtain ⟨q, hq, rfl, hbr⟩ := hrel
            by_cases hlt : q < 9
            · have cl := HLC.out wr q hbr hlt
              have hll := HLB.out q
              have HRL2 : Hid (∀ (wk : World) (z : Nat), Below wL.heap.size wL wk → z < (L q).length + 1 → wk.cell? ⟨hg q, z, none⟩ = some (.int .u8 (100 + (q : Int)))) := fun wk z hb hz => HRL.out wk q z hb hlt hz
              have HRA2 : Hid (∀ (wk : World) (z : Nat), Below wL.heap.size wL wk → z < (L q).length → wk.cell? ⟨g q, z, none⟩ = some (.int .u8 (100 + (q : Int)))) := fun wk z hb hz => HRA.out wk q z hb hlt hz
              have HLC2 : Hid (∀ (wk : World), Below wL.heap.size wL wk → wk.cell? ⟨lb, q, none⟩ = some (.slice (some ⟨hg q, 0, none⟩) ((L q).length + 1) (hc q)) ∧ wk.cell? ⟨ab, q, none⟩ = some (.slice (some ⟨g q, 0, none⟩) (L q).length (c0 q))) := fun wk hb => ⟨HLC.out wk q hb hlt, HAC.out wk q hb hlt⟩
              generalize (L q).length = lq at *
              generalize hg q = hgq at *
              generalize hc q = hcq at *
              generalize g q = gq at *
              generalize c0 q = cq at *
              obtain ⟨wS, hwS⟩ : ∃ wS, wS = wr := ⟨_, rfl⟩
              subst hwS
              go_wp2
              go_loopw [22] (fun i wk => ∃ z : Nat, z ≤ lq + 1 ∧ i = .int .i64 (z : Int) ∧ Below wL.heap.size wL wk) (fun i _ => lq + 1 - (intOf i).toNat)
              case atStart => exact ⟨0, by omega, rfl, hbr⟩
              case round =>
                obtain ⟨z, hz, rfl, hbz⟩ := hrel
                clear cl hbr
                obtain ⟨c1, c2⟩ := HLC2.out wr hbz
                by_cases hz1 : z < lq + 1
                · have c3 := HRL2.out wr z hbz hz1
                  by_cases hz2 : z < lq
                  · have c4 := HRA2.out wr z hbz hz2
                    go_wp2
                    go_roundw
                    case rel => exact ⟨z + 1, by omega, by go_num, hbz⟩
                    case measure => simp [intOf]; omega
                  · go_wp2
                    go_roundw
                    case rel => exact ⟨z + 1, by omega, by go_num, hbz⟩
                    case measure => simp [intOf]; omega
                · go_wp2
                  go_roundw
                  case rel => exact ⟨q + 1, by omega, by go_num, hbz⟩
                  case measure => simp [intOf]; omega
            · have hq9 : q = 9 := by omega
              subst hq9
              have hBw : Below H w2 wr := hBq.trans (hbr.mono (Nat.le_trans hHk hsq))
              have hOl := hO2.later (by rw [← HH.out]; exact hBw)
              have hBa : Below w.heap.size w wr := hB2.trans (hBw.mono (by rw [HH.out]; exact hB2.size))
              have hk := kept16_any hOl.rb (h.later hBa) (by omega)
              clear HLC HAC HRL HRA HLB hBq hsq hbr hBk hHk hO2 hB2 hBw HP HQ HU HLR HLN HN0 HLL hlb
              go_wp2_with fail
              refine hk.mono ?_
              rintro e w8 ⟨rfl, k8, hw8⟩
              have hb8 : Below wr.heap.size wr w8 := by rw [hw8]; exact below_drewN (Below.refl _ _) k8
              have hO8 := hOl.later hb8
              have hB8 : Below w.heap.size w w8 := hBa.trans (hb8.mono hBa.size)
              have hO80 : Ob w8 w.heap.size (.slice (some ⟨lg, 0, none⟩) (n + 2) lc) (invL (lentL l) 0) := hO8
              clear hw8 hk hOl hBa hb8 hO8
              have hln2 : (lentL l).length = n + 2 := by rw [lentL_len, HL.out]
              have HL2 : Hid ((lentL l).length = n + 2) := hln2
              clear hln2
              go_wp2
              go_loopw [23] (fun i wk => ∃ z : Nat, z ≤ n ∧ i = .int .i64 (z : Int) ∧ Ob wk w.heap.size (.slice (some ⟨lg, 0, none⟩) (n + 2) lc) (invL (lentL l) z) ∧ Below w.heap.size w wk) (fun i _ => n - (intOf i).toNat)
              case atStart => exact ⟨0, by omega, rfl, hO80, hB8⟩
              case round =>
                obtain ⟨z, hz, rfl, hOz, hBz⟩ := hrel
                clear hO80 hB8
                by_cases hzt : z < n
                · have hlz : (invL (lentL l) z).length = n + 2 := by rw [invL_len (by rw [HL2.out]; omega), HL2.out]
                  obtain ⟨_, _, e1, _, cx⟩ := hOz.rb.cells (by omega)
                  simp only [Option.some.injEq, Addr.mk.injEq] at e1
                  obtain ⟨rfl, rfl, _⟩ := e1
                  have cx := cx z (by omega)
                  rw [Nat.zero_add, invL_at (by rw [HL2.out]; omega)] at cx
                  have fx := hOz.free hlz.symm z
                  have hO9 := hOz.set hlz.symm z (inv8 ((lentL l).getD z 0)) (inv8_nat _).symm
                  rw [invL_set (by rw [HL2.out]; omega)] at hO9
                  have hB9 : Below w.heap.size w (wr.setCell ⟨lg, z, none⟩ (.int .u8 (255 - (((lentL l).getD z 0).toNat : Int)))) := hBz.setCell hlg _
                  have hx9 := ((lentL l).getD z 0).toNat_lt
                  generalize ((lentL l).getD z 0).toNat = y at *
                  clear hlz hOz hBz
                  go_wp2
                  go_roundw
                  case rel => exact ⟨z + 1, by omega, by go_num, by rw [xor_not hx9]; exact hO9, by rw [xor_not hx9]; exact hB9⟩
                  case measure => simp [intOf]; omega
                · have hzn : n = z := by omega
                  subst hzn
                  have hl9 : Rb wr (some ⟨lg, 0, none⟩) n lc (l.map inv8) := by
                    have := hOz.rb.take (k := n) (c' := lc) (by omega) (by omega) (by omega)
                    rwa [invL_take (by rw [HL2.out]; omega), lentL_take l HL.out] at this
                  have hln : (l.map inv8).length = n := by rw [List.length_map, HL.out]
                  have hYX : 0 < n → hexL (l.map inv8) ≠ hexL l := fun h0 => hex_inv (by rw [HL.out]; exact h0)
                  obtain ⟨l', hl'⟩ : ∃ l', l' = l.map inv8 := ⟨_, rfl⟩
                  rw [← hl'] at hl9 hln hYX
                  have hOe : Ob (wr.alloc (.cells #[] 5)) wr.heap.size (.slice (some ⟨wr.heap.size, 0, none⟩) 0 0) [] := World.ownsRow_made wr #[] 0 (Nat.le_refl _) (Nat.zero_le _) rfl
                  have hbe : Below wr.heap.size wr (wr.alloc (.cells #[] 5)) := alloc_below _
                  have HLN : Hid (l'.length = n) := hln
                  obtain ⟨Y, hY⟩ : ∃ Y : ByteArray, Y = ⟨(hexL l').toArray⟩ := ⟨_, rfl⟩
                  have HYX : Hid (0 < n → (Y.toList == X.toList) = false) := fun h0 => by
                    rw [ByteArray.toList_eq, ByteArray.toList_eq, HX.out, hY]
                    exact beq_eq_false_iff_ne.mpr (hYX h0)
                  have HY : Hid (Y = ⟨(hexL l').toArray⟩) := hY
                  clear hl' hln hYX hY hOz h
                  go_wp2_with (at_builtin; refine wpList_app8 rfl _ _ rfl rfl hOe rfl (hl9.later hbe) (by simp; omega) hbe.size ?_)
                  intro v10 w10 hO10 hg10 hkp
                  have hb10 : Below wr.heap.size wr w10 := hOe.below hbe (Nat.le_refl _) hg10
                  have hO10' : Ob w10 wr.heap.size v10 l' := hO10
                  obtain ⟨ma, mc, rfl, hm⟩ := hO10'.row
                  rw [HLN.out] at hm ⊢
                  have hl10 := hl9.later hb10
                  have hB10 := hBz.trans (hb10.mono hBz.size)
                  have hmc := hm.2
                  obtain ⟨lp, hlp⟩ : ∃ lp, lp = l' ++ ord 8 V true := ⟨_, rfl⟩
                  have HLP : Hid (lp = l' ++ ord 8 V true ∧ (l' ++ ord 8 V true).length = n + 8) := ⟨hlp, by rw [List.length_append, HLN.out, ord_len]⟩
                  clear hlp
                  have K1 : Hid (∀ wk, Below w10.heap.size w10 wk → Calls Try.prog 11 #[.slice (some ⟨lg, 0, none⟩) n lc] wk fun e w' => e = .returned (.string Y) ∧ Below wk.heap.size wk w') := fun wk hb => by rw [HY.out]; exact hex16_any (hl10.later hb) (by omega)
                  have K2 : Hid (∀ wk, Below w10.heap.size w10 wk → Calls Try.prog 11 #[.slice ma n mc] wk fun e w' => e = .returned (.string Y) ∧ Below wk.heap.size wk w') := fun wk hb => by rw [HY.out]; exact hex16_any (hm.later hb) (by omega)
                  have K3 : Hid (∀ wk, Below w10.heap.size w10 wk → Calls Try.prog 7 #[.slice (some ⟨lg, 0, none⟩) n lc, .int .u64 (V : Int), .bool true] wk fun e w' => ∃ pa pc, e = .returned (.slice pa (n + 8) pc) ∧ Rb w' pa (n + 8) pc lp ∧ Below wk.heap.size wk w') := fun wk hb => (put64_any (hl10.later hb) (by omega) hV).mono (fun e w' ⟨v, e1, hO, hb⟩ => by
                    obtain ⟨pa, pc, rfl, hp⟩ := hO.row
                    rw [HLP.out.2] at hp e1
                    exact ⟨pa, pc, e1, by rw [HLP.out.1]; exact hp, hb⟩)
                  have K4 : Hid (∀ wk, Below w10.heap.size w10 wk → Calls Try.prog 7 #[.slice ma n mc, .int .u64 (V : Int), .bool true] wk fun e w' => ∃ pa pc, e = .returned (.slice pa (n + 8) pc) ∧ Rb w' pa (n + 8) pc lp ∧ Below wk.heap.size wk w') := fun wk hb => (put64_any (hm.later hb) (by omega) hV).mono (fun e w' ⟨v, e1, hO, hb⟩ => by
                    obtain ⟨pa, pc, rfl, hp⟩ := hO.row
                    rw [HLP.out.2] at hp e1
                    exact ⟨pa, pc, e1, by rw [HLP.out.1]; exact hp, hb⟩)
                  clear hO10 hO10' hkp hg10 hb10 hl9 hOe hbe hBz hm hl10 HY HX
                  go_wp2_with fail
                  refine (K1.out _ (Below.refl _ _)).mono ?_
                  rintro e w11 ⟨rfl, hb11⟩
                  go_wp2_with fail
                  refine (K2.out _ hb11).mono ?_
                  rintro e w12 ⟨rfl, hb12'⟩
                  have hb12 := hb11.trans (hb12'.mono hb11.size)
                  clear hb11 hb12'
                  go_wp2_with fail
                  refine (K3.out _ hb12).mono ?_
                  rintro e w13 ⟨pa, pc, rfl, hp13, hb13'⟩
                  have hb13 := hb12.trans (hb13'.mono hb12.size)
                  have hpc := hp13.2
                  clear hb13' hb12
                  go_wp2_with fail
                  refine (K4.out _ hb13).mono ?_
                  rintro e w14 ⟨qa, qc, rfl, hq14, hb14'⟩
                  have hb14 := hb13.trans (hb14'.mono hb13.size)
                  have hqc := hq14.2
                  have hS := same16_yes (hp13.later hb14') hq14
                  clear hb14' hb13 hq14 hp13
                  go_wp2_with fail
                  refine hS.mono ?_
                  rintro e w15 ⟨rfl, k15, hw15⟩
                  have hb15 : Below w10.heap.size w10 w15 := by rw [hw15]; exact below_drewN hb14 k15
                  clear hS hw15 hb14
                  by_cases h0 : n = 0
                  · subst h0
                    have hB15 := hB10.trans (hb15.mono hB10.size)
                    go_wp2
                    go_ret
                    exact ⟨rfl, hB15⟩
                  · have t0 : ((n : Int) == 0) = false := by simp; omega
                    have t1 := HYX.out (by omega)
                    go_wp2_with fail
                    refine (K2.out _ hb15).mono ?_
                    rintro e w16 ⟨rfl, hb16'⟩
                    have hB16 := hB10.trans ((hb15.trans (hb16'.mono hb15.size)).mono hB10.size)
                    go_wp2
                    go_ret
                    exact ⟨rfl, hB16⟩
end Go.Proofs.Ytchlflmdannhaaa

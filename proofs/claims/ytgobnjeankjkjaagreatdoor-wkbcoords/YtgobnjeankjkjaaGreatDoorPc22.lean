import Derived.Below
import Derived.BigQuiet
import Derived.ChangeOld
import Derived.Deep.CutRange
import Derived.Deep.DeepCutAuto
import Derived.Deep.QuietTactic
import Derived.Deep.RegionHeld3
import Derived.Deep.RegionLaw
import Derived.Deep.RegionWith
import Derived.LaidEql
import Derived.Laws.AppendOwn
import Derived.Laws.BitsAllLaws
import Derived.Laws.CopyRow
import Derived.Laws.IdiomCopy
import Derived.Laws.IdiomRangeMap
import Derived.Laws.Rows
import Derived.Laws.StructEq
import Derived.LoopIn
import Derived.LoopNIn
import Derived.Maps.AppendAt
import Derived.OpenShut
import Derived.Orders
import Derived.OrdersIn
import Derived.OwnWalk
import Derived.OwnWalkIn
import Derived.ProofKit
import Derived.RangeFuncBound
import Derived.RangeFuncCalls
import Derived.RangeFuncLeaves
import Derived.RangeFuncNested
import Derived.RowKitTokens
import Derived.Shelf.Abstract
import Derived.Shelf.RegionOpen
import Derived.ShutString
import Derived.StillTailTactics
import Derived.Stop.Asserts
import Derived.TacticsIn
import Derived.TacticsInMore
import Derived.WalkKit
import Derived.WalkLawsBesides
import Derived.WalkSpells
import Derived.Test.YtgobnjeankjkjaaGreatDoorPc10
import Derived.Test.YtgobnjeankjkjaaGreatDoorPc15
import Derived.Test.YtgobnjeankjkjaaGreatDoorPc21
/- Layer 17: Flat answers nodes as the pen wants them. -/
namespace Go.Proofs.YtgobnjeankjkjaaGreatDoor
open Go.ChangeShapes Go.WideShapes Go.ChangeAt Go.RowKit
open Ep Oc Tr Wk Mk
set_option linter.unusedVariables false
namespace Wk
/-- the node of a geometry -/
def ndOf (it : It) : Nd := ⟨it.g.kind.toNat, szs it.g it.ch, ptG it.g⟩
/-- the nodes of a tree -/
def ndsT (T : Tree) : List Nd := ((fo1 T).pre 1 0).map ndOf
theorem own_cap {w : World} {base : Nat} {e : TypeId} {size n : Nat} {v : Value} {xs : List Value} (h : w.ownsRow base e size v n xs) : ∃ a c, v = .slice a n c ∧ n ≤ c ∧ c ≤ 9223372036854775807 ∧ ((a = none ∧ c = 0) ∨ ∃ b o, a = some ⟨b, o, none⟩) := by
  rcases h.2 with ⟨rfl, rfl⟩ | ⟨g, cap, cur, rfl, hb, hc, h1, h2, h3, h4⟩
  · exact ⟨none, 0, rfl, Nat.le_refl _, by omega, .inl ⟨rfl, rfl⟩⟩
  · exact ⟨_, cap, rfl, h1, by unfold maxLen at h2; omega, .inr ⟨g, 0, rfl⟩⟩
theorem szs_sum {g : Gm} {ch : Nat} (h3 : g.kind = 3) (hl : g.line = []) : (szs g ch).sum = (ptG g).length := by
  unfold szs ptG
  rw [if_neg (by omega), if_pos h3, hl]
  simp [List.length_flatten]
theorem ptG_len (g : Gm) : ((ptG g).length : Int) = tot g := by
  unfold ptG tot
  rw [List.length_flatten]
/-- what a right geometry is -/
structure ItOk (it : It) : Prop where
  kind : 1 ≤ it.g.kind ∧ it.g.kind ≤ 7
  line : it.g.kind = 3 → it.g.line = []
  rings : it.g.rings.length ≤ 1048576
  ch : it.ch ≤ 1048576
  tot : tot it.g ≤ 1048576
  u : ∀ p ∈ ptG it.g, U6 p.1 ∧ U6 p.2
theorem nd_ok {it : It} (h : ItOk it) : (ndOf it).Ok := by
  obtain ⟨⟨k1, k7⟩, h3, hr, hc, ht, hu⟩ := h
  have hpl := ptG_len it.g
  refine ⟨⟨by show 1 ≤ it.g.kind.toNat; omega, by show it.g.kind.toNat ≤ 7; omega⟩, by show (ptG it.g).length ≤ 1048576; omega, ?_, ?_, ?_⟩
  · show (szs it.g it.ch).length ≤ 1048576
    unfold szs
    split
    · simp
    · split
      · simpa using hr
      · simp
  · intro e
    have e3 : it.g.kind = 3 := by have : it.g.kind.toNat = 3 := e; omega
    exact szs_sum e3 (h3 e3)
  · intro e
    have e4 : 4 ≤ it.g.kind := by have : 4 ≤ it.g.kind.toNat := e; omega
    refine ⟨it.ch, ?_, hc⟩
    show szs it.g it.ch = [it.ch]
    unfold szs
    rw [if_neg (by omega), if_neg (by omega)]
theorem zcs_at {l : List Nat} {i z : Nat} (h : l[i]? = some z) : (zcs l)[i]? = some (.int .i64 (z : Int)) := by
  unfold zcs
  rw [List.getElem?_map, h]
  rfl
theorem nrow_vs {S : Nat → Prop} {W : World} : ∀ {its : List It} {xs : List Value}, Nrow S W xs its → (∀ it ∈ its, ItOk it) →
    ∃ vs : List NdV, vs.length = its.length ∧ xs = vs.flatMap (fun v => [.int .i64 v.k, v.sv, v.lv]) ∧ ∀ (i : Nat) v it, vs[i]? = some v → its[i]? = some it → NdIs S W v (ndOf it)
  | [], xs, h, _ => ⟨[], rfl, by rw [show xs = [] from h]; rfl, fun i v it h => by cases h⟩
  | it :: its, xs, ⟨x1, x2, ys, e, hn, hr⟩, hok => by
    obtain ⟨vs, h1, h2, h3⟩ := nrow_vs hr (fun j hj => hok j (List.mem_cons_of_mem _ hj))
    have ho := hok it (List.mem_cons_self ..)
    obtain ⟨⟨B1, r1⟩, ⟨B2, r2⟩, s1, s2⟩ := hn
    obtain ⟨sa, sc, es, _⟩ := own_cap r1
    obtain ⟨la, lc, el, q1, q2, q3⟩ := own_cap r2
    subst es el
    refine ⟨⟨it.g.kind, sa, (szs it.g it.ch).length, sc, la, (ptG it.g).length, lc⟩ :: vs, by simp [h1], by rw [e, h2]; rfl, ?_⟩
    intro i v jt hv hj
    cases i with
    | zero =>
      simp at hv hj
      subst hv hj
      have hpl := ptG_len it.g
      refine ⟨by show it.g.kind = ((it.g.kind.toNat : Nat) : Int); have := ho.kind.1; omega, rfl, rfl, ⟨(pts_of r2 ho.u (by have := ho.tot; omega)).mono (fun k hk => s2 k hk), la, _, lc, rfl, q1, q2, q3⟩, ?_⟩
      intro i z hz
      obtain ⟨g, e1, c1, c', e2⟩ := own_cell r1 (zcs_at hz)
      injection e2 with e2 _ _
      exact ⟨g, 0, e2, s1 g e1, by rw [Nat.zero_add]; exact c1⟩
    | succ i => exact h3 i v jt (by simpa using hv) (by simpa using hj)
theorem flat_at {vs : List NdV} {i : Nat} {v : NdV} (h : vs[i]? = some v) : ∀ {xs : List Value}, xs = vs.flatMap (fun v => [.int .i64 v.k, v.sv, v.lv]) → xs[i * 3]? = some (.int .i64 v.k) ∧ xs[i * 3 + 1]? = some v.sv ∧ xs[i * 3 + 2]? = some v.lv := by
  intro xs e
  subst e
  induction vs generalizing i with
  | nil => cases h
  | cons a r ih =>
    cases i with
    | zero => simp at h; subst h; exact ⟨rfl, rfl, rfl⟩
    | succ i =>
      have := ih (i := i) (by simpa using h)
      rw [show (i + 1) * 3 = i * 3 + 1 + 1 + 1 by omega, show i * 3 + 1 + 1 + 1 + 1 = i * 3 + 1 + 1 + 1 + 1 from rfl, show i * 3 + 1 + 1 + 1 + 2 = i * 3 + 2 + 1 + 1 + 1 by omega]
      exact this
theorem pfl_of {w : World} {its : List It} {e : Ending} {w' : World} (hok : ∀ it ∈ its, ItOk it) (h : Pfn w its e w') : Pfl w (its.map ndOf) e w' := by
  obtain ⟨ov, rfl, ⟨xs, h1, h2⟩, h3⟩ := h
  obtain ⟨a, c, rfl, _⟩ := own_slice h1
  obtain ⟨vs, e1, e2, e3⟩ := nrow_vs h2 hok
  refine ⟨a, c, vs, by rw [List.length_map], h3, by rw [e1, List.length_map], ?_, ?_⟩
  · intro i v hv
    obtain ⟨it, hit⟩ : ∃ it, its[i]? = some it := ⟨_, List.getElem?_eq_getElem (by rw [← e1]; exact (List.getElem?_eq_some_iff.1 hv).1)⟩
    have hi := e3 i v it hv hit
    have ho := hok it (List.mem_of_getElem? hit)
    have hn := nd_ok ho
    obtain ⟨q0, q1, q2⟩ := flat_at hv e2
    obtain ⟨g, w1, c0, c', w2⟩ := own_cell h1 q0
    obtain ⟨g', w3, c1, _⟩ := own_cell h1 q1
    obtain ⟨g'', w4, c2, _⟩ := own_cell h1 q2
    rw [w1] at w3 w4
    cases w3
    cases w4
    injection w2 with w2 _ _
    refine ⟨⟨by rw [hi.m]; exact hn.zs, by rw [hi.n]; exact hn.ps, by rw [hi.k]; omega, by rw [hi.k]; have := hn.k.2; omega⟩, g, 0, w2, cell_lt c0, by rw [Nat.zero_add]; exact c0, by rw [Nat.zero_add]; exact c1, by rw [Nat.zero_add]; exact c2⟩
  · intro i v d hv hd
    rw [List.getElem?_map] at hd
    cases hit : its[i]? with
    | none => rw [hit] at hd; cases hd
    | some it =>
      rw [hit] at hd
      cases hd
      have hi := e3 i v it hv hit
      refine ⟨?_, nd_ok (hok it (List.mem_of_getElem? hit))⟩
      exact ⟨hi.k, hi.m, hi.n, ⟨hi.line.1.mono (fun k hk => hk.2.1), hi.line.2⟩, fun j z hz => by
        obtain ⟨b, o, q1, q2, q3⟩ := hi.sizes j z hz
        exact ⟨b, o, q1, q2.2.1, q3⟩⟩
end Wk
end Go.Proofs.YtgobnjeankjkjaaGreatDoor

/- Layer 17: Print and Mixed of a right tree. -/
namespace Go.Proofs.YtgobnjeankjkjaaGreatDoor
open Go.ChangeShapes Go.WideShapes Go.ChangeAt Go.RowKit
open Ep Oc Tr Wk Mk
set_option linter.unusedVariables false
namespace Wk
/-- what memory says of a geometry's bulk -/
def Bnd (it : It) : Prop := it.g.rings.length ≤ 1048576 ∧ it.ch ≤ 1048576 ∧ ∀ p ∈ ptG it.g, U6 p.1 ∧ U6 p.2
theorem pts_u {S : Nat → Prop} {w : World} {v : Value} {l : List Pt} (h : Pts S w v l) : ∀ p ∈ l, U6 p.1 ∧ U6 p.2 := by
  intro p hp
  obtain ⟨_, a, c, _, hc⟩ := h
  obtain ⟨i, hi, rfl⟩ := List.getElem_of_mem hp
  obtain ⟨b, o, _, _, u1, u2, _⟩ := hc i _ (List.getElem?_eq_getElem hi)
  exact ⟨u1, u2⟩
theorem gm_bnd {S : Nat → Prop} {w : World} {v1 v2 : Value} {g : Gm} {n lev : Nat} {home : Int} (h1 : Pts S w v1 g.line) (h2 : Rgs S w v2 g.rings) (hn : n ≤ 1048576) : Bnd ⟨g, n, lev, home⟩ := by
  refine ⟨h2.1, hn, fun p hp => ?_⟩
  simp only [ptG, List.flatten_cons, List.mem_append, List.mem_flatten] at hp
  rcases hp with hp | ⟨r, hr, hp⟩
  · exact pts_u h1 p hp
  · obtain ⟨_, a, c, _, hc⟩ := h2
    obtain ⟨i, hi, rfl⟩ := List.getElem_of_mem hr
    obtain ⟨b, o, u, _, _, _, hu⟩ := hc i _ (List.getElem?_eq_getElem hi)
    exact pts_u hu p hp
theorem fo_bnd {S : Nat → Prop} {w : World} : ∀ (f : Fo) (lev : Nat) (home : Int) (a : Option Addr), FoAt S w f a → ∀ it ∈ f.pre lev home, Bnd it
  | .nil, _, _, _, _, it, h => by cases h
  | .cons g c r, lev, home, a, ⟨b, o, pa, pc, e, hl, hg, h1, h2⟩, it, h => by
    rcases List.mem_cons.1 h with rfl | h
    · obtain ⟨_, _, _, ⟨v1, _, p1⟩, ⟨v2, _, p2⟩, _⟩ := hg
      exact gm_bnd p1 p2 hl.1
    · rcases List.mem_append.1 h with h | h
      · exact fo_bnd c _ _ _ h1 it h
      · exact fo_bnd r _ _ _ h2 it h
theorem tv_bnd {S : Nat → Prop} {w : World} {v : Value} {T : Tree} (h : TV S w v T) : ∀ it ∈ (fo1 T).pre 1 0, Bnd it := by
  obtain ⟨v1, v2, pa, pc, _, _, p1, p2, hl, hf⟩ := h.parts
  intro it hi
  rcases List.mem_cons.1 hi with rfl | hi
  · exact gm_bnd p1 p2 hl.1
  · rcases List.mem_append.1 hi with hi | hi
    · exact fo_bnd _ _ _ _ hf it hi
    · cases hi
theorem shaped_kind {g : Gm} {n : Nat} (h : shapedB g n = true) : 1 ≤ g.kind ∧ g.kind ≤ 7 ∧ (g.kind = 3 → g.line = [] ∧ emptyB g.rings = false) ∧ (g.kind ≠ 3 → g.rings = []) ∧ (g.kind = 1 → g.line.length ≤ 1) ∧ (4 ≤ g.kind → g.line = []) ∧ (g.kind ≤ 3 → n = 0) := by
  unfold shapedB at h
  split at h
  · next e =>
    simp at h
    exact ⟨by omega, by omega, fun q => by omega, fun _ => h.2.1, fun _ => h.1, fun q => by omega, fun _ => h.2.2⟩
  · split at h
    · next e =>
      simp at h
      exact ⟨by omega, by omega, fun q => by omega, fun _ => h.1, fun q => by omega, fun q => by omega, fun _ => h.2⟩
    · split at h
      · next e =>
        simp at h
        exact ⟨by omega, by omega, fun q => ⟨h.1, h.2.2⟩, fun q => absurd e q, fun q => by omega, fun q => by omega, fun _ => h.2.1⟩
      · split at h
        · next e =>
          simp at h
          exact ⟨by omega, by omega, fun q => by omega, fun _ => h.2, fun q => by omega, fun _ => h.1, fun q => by omega⟩
        · cases h
theorem it_ok {S : Nat → Prop} {w : World} {v : Value} {T : Tree} (h : TV S w v T) (ho : OkT T) : ∀ it ∈ (fo1 T).pre 1 0, ItOk it := by
  intro it hi
  obtain ⟨b1, b2, b3⟩ := tv_bnd h it hi
  obtain ⟨_, g2, _⟩ := good_pre (fo1 T) 1 0 ho.good it hi
  simp only [Bool.and_eq_true] at g2
  obtain ⟨s1, s2, s3, _⟩ := shaped_kind g2.2
  have := tot_fsum (fo1 T) 1 0 it hi
  have := ho.sum
  exact ⟨⟨s1, s2⟩, fun e => (s3 e).1, b1, b2, by omega, b3⟩
theorem rings_le : ∀ (l : List (List Pt)), emptyB l = false → l.length ≤ (l.map List.length).sum
  | [], _ => by simp
  | r :: t, h => by
    simp only [emptyB, List.any_cons, Bool.or_eq_false_iff, decide_eq_false_iff_not] at h
    have := rings_le t h.2
    simp only [List.length_cons, List.map_cons, List.sum_cons]
    omega
theorem szs_le {it : It} (h : shapedB it.g it.ch = true) : ((szs it.g it.ch).length : Int) ≤ 1 + tot it.g := by
  obtain ⟨_, _, s3, s4, _⟩ := shaped_kind h
  have ht := tot_pos it.g
  unfold szs
  split
  · simp; omega
  · split
    · next e =>
      have := rings_le it.g.rings (s3 e).2
      have h2 : tot it.g = (((it.g.line.length :: it.g.rings.map List.length).sum : Nat) : Int) := rfl
      rw [List.length_map, h2, List.sum_cons]
      omega
    · simp; omega
theorem nd_len {it : It} (h : shapedB it.g it.ch = true) (little : Bool) : (((ndOf it).bytes little).length : Int) ≤ 29 + 20 * tot it.g := by
  have h1 := szs_le h
  have h2 := ptG_len it.g
  have ht := tot_pos it.g
  unfold Nd.bytes Nd.body
  simp only [List.length_append, List.length_cons, List.length_nil, ord_len]
  have hs : ∀ ps : List Pt, (spB little ps).length = 16 := by
    intro ps
    cases ps with
    | nil => exact ptB_len _ _
    | cons p r => exact ptB_len _ _
  split
  · rw [hs]; omega
  · split
    · rw [lnB_len]
      show ((0 + 1 + (4 + (4 + 16 * (ptG it.g).length)) : Nat) : Int) ≤ _
      omega
    · split
      · have := rgB_len little (ndOf it).zs (ndOf it).ps
        have e1 : (ndOf it).zs = szs it.g it.ch := rfl
        have e2 : (ndOf it).ps = ptG it.g := rfl
        rw [List.length_append, ord_len]
        rw [e1, e2] at this ⊢
        omega
      · rw [ord_len]; omega
theorem mix_le (os : List Bool) : ∀ (l : List It) (i : Nat), (∀ it ∈ l, shapedB it.g it.ch = true) → ((mixB os i (l.map ndOf)).length : Int) ≤ 29 * lsum l
  | [], i, _ => by simp [mixB, lsum]
  | it :: r, i, h => by
    have h1 := mix_le os r (i + 1) (fun j hj => h j (List.mem_cons_of_mem _ hj))
    have h2 := nd_len (h it (List.mem_cons_self ..)) (orO os i)
    have ht := tot_pos it.g
    simp only [List.map_cons, mixB, List.length_append, lsum]
    omega
theorem mix_take {T : Tree} (ho : OkT T) (os : List Bool) (j : Nat) : (mixB os 0 ((ndsT T).take j)).length ≤ 49999000 := by
  have hg := good_pre (fo1 T) 1 0 ho.good
  have hs : ∀ it ∈ ((fo1 T).pre 1 0).take j, shapedB it.g it.ch = true := fun it hi => by
    have := (hg it (List.mem_of_mem_take hi)).2.1
    simp only [Bool.and_eq_true] at this
    exact this.2
  have h1 := mix_le os (((fo1 T).pre 1 0).take j) 0 hs
  have h2 := lsum_le ((fo1 T).pre 1 0) j
  rw [fsum_pre] at h2
  have := ho.sum
  unfold ndsT
  rw [← List.map_take]
  omega
theorem nds_len {T : Tree} (ho : OkT T) : (ndsT T).length ≤ 1048576 := by
  unfold ndsT
  rw [List.length_map, Fo.pre_length]
  have := cnt_fsum (fo1 T)
  have := ho.sum
  omega
end Wk
theorem flat_tree {S : Nat → Prop} {w W : World} {v : Value} {T : Tree} (hS : ∀ k, S k → k < w.heap.size) (hT : TV S w v T) (ho : OkT T) (hb : Below w.heap.size w W) : Calls Tryz.prog 35 #[v] W (Pfl W (ndsT T)) := by
  have hW : TV (fun k => k < W.heap.size) W v T := (hT.below (Kp.of_below hb hS)).mono (fun k hk => by have := hS k hk; have := hb.size; omega)
  exact (callsIn_wide.1 (flatIn_ok (n := 0) hW ho)).mono (fun e w' h => pfl_of (it_ok hW ho) h)
theorem print_tree {S : Nat → Prop} {w : World} {v : Value} {T : Tree} (hS : ∀ k, S k → k < w.heap.size) (hT : TV S w v T) (ho : OkT T) (little : Bool) :
    Calls Tryz.prog 17 #[v, .bool little] w (fun e w' => ∃ v, e = .returned (.tuple #[v, .nilIface]) ∧ Ob w' w.heap.size v (mixB [little] 0 (ndsT T)) ∧ Below w.heap.size w w') := by
  obtain ⟨v1, v2, pa, pc, rfl, _⟩ := hT.parts
  exact print_good (fun W hb => flat_tree hS hT ho hb) (nds_len ho) (fun j => mix_take ho _ j)
end Go.Proofs.YtgobnjeankjkjaaGreatDoor

/- Layer 17: bytes that were written are read again: plain facts. -/
namespace Go.Proofs.YtgobnjeankjkjaaGreatDoor
open Ep Oc Tr Wk Mk
set_option linter.unusedVariables false
namespace Wk
/-- l holds x at k -/
def Hl (l : List UInt8) (k : Nat) (x : List UInt8) : Prop := k + x.length ≤ l.length ∧ (l.drop k).take x.length = x
theorem Hl.left {l x y : List UInt8} {k : Nat} (h : Hl l k (x ++ y)) : Hl l k x := by
  obtain ⟨h1, h2⟩ := h
  rw [List.length_append] at h1 h2
  refine ⟨by omega, ?_⟩
  have := congrArg (List.take x.length) h2
  rw [List.take_take, Nat.min_eq_left (by omega), List.take_left] at this
  exact this
theorem Hl.right {l x y : List UInt8} {k : Nat} (h : Hl l k (x ++ y)) : Hl l (k + x.length) y := by
  obtain ⟨h1, h2⟩ := h
  rw [List.length_append] at h1 h2
  refine ⟨by omega, ?_⟩
  have := congrArg (List.drop x.length) h2
  rw [List.drop_left, List.drop_take, List.drop_drop, show x.length + y.length - x.length = y.length by omega] at this
  exact this
theorem Hl.right' {l x y : List UInt8} {k j : Nat} (h : Hl l k (x ++ y)) (hj : j = k + x.length) : Hl l j y := by rw [hj]; exact h.right
theorem word_at {l : List UInt8} {k m v : Nat} {little : Bool} (h : Hl l k (ord m v little)) (hv : v < 256 ^ m) : word l k m little = .ok v (k + m) := by
  obtain ⟨h1, h2⟩ := h
  rw [ord_len] at h1 h2
  unfold word
  rw [if_neg (by omega), h2, numO_ord, Nat.mod_eq_of_lt hv]
theorem ordS_at {l : List UInt8} {k : Nat} {little : Bool} (h : Hl l k [if little then 1 else 0]) : ordS l k = .ok little (k + 1) := by
  unfold ordS
  obtain ⟨h1, h2⟩ := h
  simp only [List.length_cons, List.length_nil] at h1 h2
  unfold word
  rw [if_neg (by omega), h2, numO_one, bind_ok]
  cases little <;> rfl
theorem kindS_at {l : List UInt8} {k home v : Nat} {little : Bool} (h : Hl l k (ord 4 v little)) (h1 : 1 ≤ v) (h7 : v ≤ 7) (hf : fitsB home v = true) : kindS l home k little = .ok v (k + 4) := by
  unfold kindS
  rw [word_at h (Nat.lt_of_le_of_lt h7 (by decide)), bind_ok, if_neg (by omega), if_neg (by rw [hf]; decide)]
theorem headS_at {l : List UInt8} {k home v : Nat} {little : Bool} (h : Hl l k ([if little then 1 else 0] ++ ord 4 v little)) (h1 : 1 ≤ v) (h7 : v ≤ 7) (hf : fitsB home v = true) : headS l home k = .ok (little, v) (k + 5) := by
  unfold headS
  rw [ordS_at h.left, bind_ok, kindS_at (k := k + 1) (h.right' rfl) h1 h7 hf, bind_ok]
theorem countS_at {l : List UInt8} {k n least : Nat} {little : Bool} (h : Hl l k (ord 4 n little)) (hn : n < 4294967296) (hr : n * least ≤ l.length - (k + 4)) : countS l least k little = .ok n (k + 4) := by
  unfold countS
  rw [word_at h (by rw [show (256 : Nat) ^ 4 = 4294967296 from rfl]; exact hn), bind_ok, if_neg (by omega)]
theorem patsS_at {l : List UInt8} {k x y : Nat} {little : Bool} (h : Hl l k (ord 8 x little ++ ord 8 y little)) (hx : x < 18446744073709551616) (hy : y < 18446744073709551616) : patsS l k little = .ok (x, y) (k + 16) := by
  have e8 : (256 : Nat) ^ 8 = 18446744073709551616 := by decide
  unfold patsS
  rw [word_at h.left (by rw [e8]; exact hx), bind_ok, word_at (h.right' (by rw [ord_len])) (by rw [e8]; exact hy), bind_ok]
/-- a point of numbers -/
def PtOk (p : Pt) : Prop := U6 p.1 ∧ U6 p.2 ∧ okP p = true
theorem fin_not_nan {x : Nat} (h : finB x = true) : nanB x = false := by
  unfold finB at h
  unfold nanB
  simp only [bne_iff_ne, ne_eq] at h
  simp [h]
end Wk
end Go.Proofs.YtgobnjeankjkjaaGreatDoor

/- Layer 17: a tree's bytes are read again: plain facts. -/
namespace Go.Proofs.YtgobnjeankjkjaaGreatDoor
open Ep Oc Tr Wk Mk
set_option linter.unusedVariables false
namespace Wk
def ndG (g : Gm) (n : Nat) : Nd := ⟨g.kind.toNat, szs g n, ptG g⟩
/-- the bytes of a forest, the first geometry's number being i -/
def fB (os : List Bool) : Nat → Fo → List UInt8
  | _, .nil => []
  | i, .cons g c r => (ndG g c.len).bytes (orO os i) ++ (fB os (i + 1) c ++ fB os (i + 1 + c.cnt) r)
/-- what is read as it was written -/
structure GmOk (home : Int) (g : Gm) (n : Nat) : Prop where
  fit : Tr.fitsB home g.kind = true
  sh : shapedB g n = true
  pts : ∀ p ∈ ptG g, PtOk p
  l32 : g.line.length < 4294967296
  r32 : g.rings.length < 4294967296
  rr : ∀ r ∈ g.rings, r.length < 4294967296
  n32 : n < 4294967296
end Wk
end Go.Proofs.YtgobnjeankjkjaaGreatDoor

/- Layer 17: a point and a line string of one point, whatever their patterns: plain facts. -/
namespace Go.Proofs.YtgobnjeankjkjaaGreatDoor
open Go.ChangeShapes Go.WideShapes Go.ChangeAt Go.RowKit
open Ep Oc Tr Wk Mk
set_option linter.unusedVariables false
namespace Wk
def pB (little : Bool) (X Y : Nat) : List UInt8 := (([if little then 1 else 0] ++ ord 4 1 little) ++ ord 8 X little) ++ ord 8 Y little
def lB (little : Bool) (X Y : Nat) : List UInt8 := ((([if little then 1 else 0] ++ ord 4 2 little) ++ ord 4 1 little) ++ ord 8 X little) ++ ord 8 Y little
theorem pB_len (little : Bool) (X Y : Nat) : (pB little X Y).length = 21 := by unfold pB; simp [ord_len]
theorem lB_len (little : Bool) (X Y : Nat) : (lB little X Y).length = 25 := by unfold lB; simp [ord_len]
theorem hl_self (l : List UInt8) : Hl l 0 l := ⟨by simp, by simp⟩
section
variable {little : Bool} {X Y : Nat} (hX : X < 18446744073709551616) (hY : Y < 18446744073709551616)
include hX hY
theorem pB_pats : headS (pB little X Y) 0 0 = .ok (little, 1) 5 ∧ patsS (pB little X Y) 5 little = .ok (X, Y) 21 := by
  have h : Hl (pB little X Y) 0 ((([if little then 1 else 0] ++ ord 4 1 little) ++ ord 8 X little) ++ ord 8 Y little) := hl_self (pB little X Y)
  have h2 := h
  rw [List.append_assoc _ (ord 8 X little)] at h2
  refine ⟨headS_at (h.left.left) (by omega) (by omega) rfl, patsS_at (k := 5) (h2.right' (by simp [ord_len])) hX hY⟩
theorem lB_pats : headS (lB little X Y) 0 0 = .ok (little, 2) 5 ∧ countS (lB little X Y) 16 5 little = .ok 1 9 ∧ patsS (lB little X Y) 9 little = .ok (X, Y) 25 := by
  have h : Hl (lB little X Y) 0 (((([if little then 1 else 0] ++ ord 4 2 little) ++ ord 4 1 little) ++ ord 8 X little) ++ ord 8 Y little) := hl_self (lB little X Y)
  have h2 := h
  rw [List.append_assoc _ (ord 8 X little)] at h2
  have hc : Hl (lB little X Y) 5 (ord 4 1 little) := h.left.left.right' (by simp [ord_len])
  refine ⟨headS_at (h.left.left.left) (by omega) (by omega) rfl, countS_at hc (by omega) (by rw [lB_len]; omega), patsS_at (k := 9) (h2.right' (by simp [ord_len])) hX hY⟩
theorem pB_read : parseS (pB little X Y) 1 21 = if nanB X = true ∧ nanB Y = true then .ok ((⟨1, [], []⟩, .nil), [little]) 21 else (mustS 5 (X, Y)).bind fun _ _ => .ok ((⟨1, [((X : Int), (Y : Int))], []⟩, .nil), [little]) 21 := by
  obtain ⟨h1, h2⟩ := pB_pats (little := little) hX hY
  unfold parseS
  rw [if_neg (by rw [pB_len]; omega)]
  show (((headS (pB little X Y) 0 0).bind _).bind _) = _
  rw [h1, bind_ok]
  simp only
  unfold bodyS
  rw [if_pos rfl]
  unfold spotS
  rw [h2, bind_ok]
  by_cases hn : nanB X = true ∧ nanB Y = true
  · rw [if_pos hn, if_pos hn]
    simp only [bind_ok]
    rw [if_neg (by rw [pB_len]; omega)]
  · rw [if_neg hn, if_neg hn]
    cases hm : mustS 5 (X, Y) with
    | bad p c => rfl
    | ok u k =>
      simp only [bind_ok]
      rw [if_neg (by rw [pB_len]; omega)]
      rfl
theorem lB_read : parseS (lB little X Y) 1 25 = (mustS 9 (X, Y)).bind fun _ _ => .ok ((⟨2, [((X : Int), (Y : Int))], []⟩, .nil), [little]) 25 := by
  obtain ⟨h1, h2, h3⟩ := lB_pats (little := little) hX hY
  unfold parseS
  rw [if_neg (by rw [lB_len]; omega)]
  show (((headS (lB little X Y) 0 0).bind _).bind _) = _
  rw [h1, bind_ok]
  simp only
  unfold bodyS
  rw [if_neg (by decide), if_pos rfl]
  unfold lineS
  rw [h2, bind_ok]
  show (((((placeS (lB little X Y) 9 little).bind _).bind _).bind _).bind _) = _
  unfold placeS
  rw [h3, bind_ok]
  cases hm : mustS 9 (X, Y) with
  | bad p c => rfl
  | ok u k =>
    simp only [bind_ok, many]
    rw [if_neg (by rw [lB_len]; omega)]
    rfl
end
theorem must_ok {k X Y : Nat} (h1 : finB X = true) (h2 : finB Y = true) : mustS k (X, Y) = .ok () k := by
  unfold mustS
  rw [if_neg (by rw [h1]; decide), if_neg (by rw [h2]; decide)]
theorem must_x {k X Y : Nat} (h1 : finB X = false) : mustS k (X, Y) = .bad k 175 := by
  unfold mustS
  rw [if_pos h1]
theorem must_y {k X Y : Nat} (h1 : finB X = true) (h2 : finB Y = false) : mustS k (X, Y) = .bad (k + 8) 175 := by
  unfold mustS
  rw [if_neg (by rw [h1]; decide), if_pos h2]
theorem ef_fin {X : Nat} (h : X < 18446744073709551616) : (Ar.ef (X : Int) == 2047) = !finB X := by
  unfold Ar.ef finB
  rw [Bool.eq_iff_iff]
  simp
  omega
theorem mg_nan {X : Nat} (h : X < 18446744073709551616) : decide ((9218868437227405312 : Int) < Ar.mg (X : Int)) = nanB X := by
  unfold Ar.mg nanB
  rw [Bool.eq_iff_iff]
  simp
  omega
theorem rb_lone (w : World) (b : UInt8) : Rb (w.alloc (.cells #[.int .u8 (b.toNat : Int)] 5)) (some ⟨w.heap.size, 0, none⟩) 1 1 [b] := by
  refine ⟨⟨rfl, Or.inr ⟨w.heap.size, 0, rfl, by simp, fun i hi => ?_⟩⟩, Nat.le_refl _, by omega⟩
  have hi0 : i = 0 := by omega
  subst hi0
  have := cell_of (World.alloc_heap_new w (.cells #[.int .u8 (b.toNat : Int)] 5 (0, 0))) 0
  exact this
end Wk
end Go.Proofs.YtgobnjeankjkjaaGreatDoor


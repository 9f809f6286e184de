/- Layer 17: what bytes are read as: plain facts. -/
import Derived.Test.YtinagjljebbceaaDoorOctMath
import Derived.Test.YtinagjljebbceaaDoorTrMem
namespace Go.Proofs.YtinagjljebbceaaDoor
open Tr Oc
set_option linter.unusedVariables false
namespace Wk
/-- what is read, and the place behind it; or a place and an error -/
inductive Rs (α : Type) where
  | ok (v : α) (k : Nat)
  | bad (p c : Nat)
def Rs.bind {α β : Type} (r : Rs α) (f : α → Nat → Rs β) : Rs β :=
  match r with
  | .ok v k => f v k
  | .bad p c => .bad p c
theorem bind_ok {α β : Type} (v : α) (k : Nat) (f : α → Nat → Rs β) : (Rs.ok v k).bind f = f v k := rfl
theorem bind_bad {α β : Type} (p c : Nat) (f : α → Nat → Rs β) : (Rs.bad p c : Rs α).bind f = .bad p c := rfl
def word (l : List UInt8) (k m : Nat) (little : Bool) : Rs Nat := if l.length - k < m then .bad k 160 else .ok (numO ((l.drop k).take m) little) (k + m)
theorem word_ok {l : List UInt8} {k m v k' : Nat} {little : Bool} (h : word l k m little = .ok v k') : k' = k + m ∧ m ≤ l.length - k ∧ v < 256 ^ m := by
  unfold word at h
  split at h
  · cases h
  · injection h with h1 h2
    refine ⟨h2.symm, by omega, ?_⟩
    rw [← h1]
    exact Nat.lt_of_lt_of_le (numO_lt _ _) (Nat.pow_le_pow_right (by decide) (by rw [List.length_take]; omega))
theorem word_bad {l : List UInt8} {k m p c : Nat} {little : Bool} (h : word l k m little = .bad p c) : p = k ∧ c = 160 ∧ l.length - k < m := by
  unfold word at h
  split at h
  · injection h with h1 h2; exact ⟨h1.symm, h2.symm, by assumption⟩
  · cases h
def ordS (l : List UInt8) (k : Nat) : Rs Bool := (word l k 1 false).bind fun v k' => if 1 < v then .bad k 170 else .ok (v == 1) k'
def fitsB (home kind : Nat) : Bool := if home = 4 then kind == 1 else if home = 5 then kind == 2 else if home = 6 then kind == 3 else true
def kindS (l : List UInt8) (home k : Nat) (little : Bool) : Rs Nat := (word l k 4 little).bind fun v k' => if v < 1 ∨ 7 < v then .bad k 171 else if fitsB home v = false then .bad k 172 else .ok v k'
def countS (l : List UInt8) (least k : Nat) (little : Bool) : Rs Nat := (word l k 4 little).bind fun n k' => if l.length - k' < n * least then .bad k 173 else .ok n k'
def finB (x : Nat) : Bool := x / 4503599627370496 % 2048 != 2047
def nanB (x : Nat) : Bool := x / 4503599627370496 % 2048 == 2047 && x % 4503599627370496 != 0
def patsS (l : List UInt8) (k : Nat) (little : Bool) : Rs (Nat × Nat) := (word l k 8 little).bind fun x k1 => (word l k1 8 little).bind fun y k2 => .ok (x, y) k2
def pt (p : Nat × Nat) : Pt := ((p.1 : Int), (p.2 : Int))
def mustS (k : Nat) (p : Nat × Nat) : Rs Unit := if finB p.1 = false then .bad k 175 else if finB p.2 = false then .bad (k + 8) 175 else .ok () k
def placeS (l : List UInt8) (k : Nat) (little : Bool) : Rs Pt := (patsS l k little).bind fun p k' => (mustS k p).bind fun _ _ => .ok (pt p) k'
def spotS (l : List UInt8) (k : Nat) (little : Bool) : Rs (List Pt) := (patsS l k little).bind fun p k' => if nanB p.1 = true ∧ nanB p.2 = true then .ok [] k' else (mustS k p).bind fun _ _ => .ok [pt p] k'
def many {α : Type} (f : Nat → Rs α) : Nat → Nat → Rs (List α)
  | 0, k => .ok [] k
  | n + 1, k => (f k).bind fun v k1 => (many f n k1).bind fun vs k2 => .ok (v :: vs) k2
def Rs.pre {α : Type} (a : List α) : Rs (List α) → Rs (List α)
  | .ok v k => .ok (a ++ v) k
  | .bad p c => .bad p c
theorem pre_nil {α : Type} (r : Rs (List α)) : Rs.pre [] r = r := by cases r <;> rfl
theorem many_ok {α : Type} {f : Nat → Rs α} {n k k1 : Nat} {v : α} (a : List α) (h : f k = .ok v k1) : Rs.pre a (many f (n + 1) k) = Rs.pre (a ++ [v]) (many f n k1) := by
  show Rs.pre a ((f k).bind _) = _
  rw [h, bind_ok]
  cases many f n k1 with
  | ok vs k2 => show Rs.ok (a ++ (v :: vs)) k2 = Rs.ok (a ++ [v] ++ vs) k2; rw [List.append_assoc]; rfl
  | bad p c => rfl
theorem many_bad {α : Type} {f : Nat → Rs α} {n k p c : Nat} (a : List α) (h : f k = .bad p c) : Rs.pre a (many f (n + 1) k) = .bad p c := by
  show Rs.pre a ((f k).bind _) = _
  rw [h, bind_bad]
  rfl
theorem many_len {α : Type} {f : Nat → Rs α} : ∀ {n k k' : Nat} {vs : List α}, many f n k = .ok vs k' → vs.length = n
  | 0, k, k', vs, h => by injection h with h1 h2; subst h1; rfl
  | n + 1, k, k', vs, h => by
    have h' : (f k).bind (fun v k1 => (many f n k1).bind fun vs k2 => .ok (v :: vs) k2) = .ok vs k' := h
    cases e : f k with
    | bad p c => rw [e] at h'; cases h'
    | ok v k1 =>
      rw [e, bind_ok] at h'
      cases e2 : many f n k1 with
      | bad p c => rw [e2] at h'; cases h'
      | ok ws k2 =>
        rw [e2, bind_ok] at h'
        injection h' with h1 h2
        subst h1
        rw [List.length_cons, many_len e2]
def lineS (l : List UInt8) (k : Nat) (little : Bool) : Rs (List Pt) := (countS l 16 k little).bind fun n k' => many (fun j => placeS l j little) n k'
def ringS (l : List UInt8) (k : Nat) (little : Bool) : Rs (List Pt) := (lineS l k little).bind fun ps k' => if ps.length = 0 then .bad k 176 else .ok ps k'
abbrev Tree := Gm × Fo
def foOf : List Tree → Fo
  | [] => .nil
  | t :: r => .cons t.1 t.2 (foOf r)
theorem foOf_len : ∀ (l : List Tree), (foOf l).len = l.length
  | [] => rfl
  | t :: r => by show (foOf r).len + 1 = r.length + 1; rw [foOf_len r]
def least (kind : Nat) : Nat := if kind = 4 then 21 else 9
def headS (l : List UInt8) (home k : Nat) : Rs (Bool × Nat) := (ordS l k).bind fun little k1 => (kindS l home k1 little).bind fun kind k2 => .ok (little, kind) k2
def bodyS (l : List UInt8) (sub : Nat → Nat → Rs (Tree × List Bool)) (little : Bool) (kind k : Nat) : Rs (Tree × List Bool) :=
  if kind = 1 then (spotS l k little).bind fun ps k' => .ok ((⟨1, ps, []⟩, .nil), []) k'
  else if kind = 2 then (lineS l k little).bind fun ps k' => .ok ((⟨2, ps, []⟩, .nil), []) k'
  else if kind = 3 then (countS l 20 k little).bind fun n k1 => (many (fun j => ringS l j little) n k1).bind fun rs k' => .ok ((⟨3, [], rs⟩, .nil), []) k'
  else (countS l (least kind) k little).bind fun n k1 => (many (sub kind) n k1).bind fun ts k' => .ok ((⟨(kind : Int), [], []⟩, foOf (ts.map (·.1))), (ts.map (·.2)).flatten) k'
def geomS (l : List UInt8) : Nat → Nat → Nat → Rs (Tree × List Bool)
  | 0, home, k => (headS l home k).bind fun _ _ => .bad k 191
  | n + 1, home, k => (headS l home k).bind fun h k1 => (bodyS l (geomS l n) h.1 h.2 k1).bind fun r k' => .ok (r.1, h.1 :: r.2) k'
def parseS (l : List UInt8) (depth : Nat) (limit : Nat) : Rs (Tree × List Bool) :=
  if limit < l.length then .bad limit 192 else (geomS l depth 0 0).bind fun r k => if k < l.length then .bad k 174 else .ok r k
/-- places never go back, and stay within -/
def Fwd {α : Type} (l : List UInt8) (f : Nat → Rs α) : Prop := ∀ k v k', k ≤ l.length → f k = .ok v k' → k ≤ k' ∧ k' ≤ l.length
theorem bind_inv {α β : Type} {r : Rs α} {f : α → Nat → Rs β} {v : β} {k : Nat} (h : r.bind f = .ok v k) : ∃ u j, r = .ok u j ∧ f u j = .ok v k := by
  cases r with
  | ok u j => exact ⟨u, j, rfl, h⟩
  | bad p c => cases h
theorem fwd_bind {α β : Type} {l : List UInt8} {f : Nat → Rs α} {g : Nat → α → Nat → Rs β} (hf : Fwd l f) (hg : ∀ k0 u j v k', j ≤ l.length → g k0 u j = .ok v k' → j ≤ k' ∧ k' ≤ l.length) : Fwd l (fun k => (f k).bind (g k)) := by
  intro k v k' hk h
  obtain ⟨u, j, h1, h2⟩ := bind_inv h
  have a := hf k u j hk h1
  have b := hg k u j v k' a.2 h2
  omega
theorem fwd_word (l : List UInt8) (m : Nat) (little : Bool) : Fwd l (fun k => word l k m little) := by
  intro k v k' hk h
  have := word_ok h
  omega
theorem fwd_ord (l : List UInt8) : Fwd l (ordS l) := fwd_bind (fwd_word l 1 false) (fun k0 u j v k' hj h => by
  split at h
  · cases h
  · injection h with h1 h2; omega)
theorem fwd_kind (l : List UInt8) (home : Nat) (little : Bool) : Fwd l (fun k => kindS l home k little) := fwd_bind (fwd_word l 4 little) (fun k0 u j v k' hj h => by
  split at h
  · cases h
  · split at h
    · cases h
    · injection h with h1 h2; omega)
theorem fwd_count (l : List UInt8) (least : Nat) (little : Bool) : Fwd l (fun k => countS l least k little) := fwd_bind (fwd_word l 4 little) (fun k0 u j v k' hj h => by
  split at h
  · cases h
  · injection h with h1 h2; omega)
theorem count_ok {l : List UInt8} {least k n k' : Nat} {little : Bool} (h : countS l least k little = .ok n k') : k' = k + 4 ∧ n * least ≤ l.length - k' ∧ n < 4294967296 := by
  obtain ⟨u, j, h1, h2⟩ := bind_inv h
  have := word_ok h1
  split at h2
  · cases h2
  · injection h2 with h3 h4
    subst h3 h4
    exact ⟨this.1, by omega, by have := this.2.2; rwa [show (256 : Nat) ^ 4 = 4294967296 from rfl] at this⟩
theorem fwd_pats (l : List UInt8) (little : Bool) : Fwd l (fun k => patsS l k little) := fwd_bind (fwd_word l 8 little) (fun k0 u j v k' hj h => by
  obtain ⟨y, j2, h1, h2⟩ := bind_inv h
  have := fwd_word l 8 little j y j2 hj h1
  injection h2 with h3 h4
  omega)
theorem fwd_place (l : List UInt8) (little : Bool) : Fwd l (fun k => placeS l k little) := fwd_bind (fwd_pats l little) (fun k0 u j v k' hj h => by
  obtain ⟨y, j2, h1, h2⟩ := bind_inv h
  injection h2 with h3 h4
  omega)
theorem fwd_spot (l : List UInt8) (little : Bool) : Fwd l (fun k => spotS l k little) := fwd_bind (fwd_pats l little) (fun k0 u j v k' hj h => by
  split at h
  · injection h with h3 h4; omega
  · obtain ⟨y, j2, h1, h2⟩ := bind_inv h
    injection h2 with h3 h4
    omega)
theorem fwd_many {α : Type} {l : List UInt8} {f : Nat → Rs α} (hf : Fwd l f) : ∀ n, Fwd l (many f n)
  | 0 => fun k v k' hk h => by injection h with h1 h2; omega
  | n + 1 => fwd_bind hf (fun k0 u j v k' hj h => by
    obtain ⟨y, j2, h1, h2⟩ := bind_inv h
    have := fwd_many hf n j y j2 hj h1
    injection h2 with h3 h4
    omega)
theorem fwd_line (l : List UInt8) (little : Bool) : Fwd l (fun k => lineS l k little) := fwd_bind (fwd_count l 16 little) (fun k0 u j v k' hj h => fwd_many (fwd_place l little) u j v k' hj h)
theorem fwd_ring (l : List UInt8) (little : Bool) : Fwd l (fun k => ringS l k little) := fwd_bind (fwd_line l little) (fun k0 u j v k' hj h => by
  split at h
  · cases h
  · injection h with h1 h2; omega)
theorem fwd_head (l : List UInt8) (home : Nat) : Fwd l (headS l home) := fwd_bind (fwd_ord l) (fun k0 u j v k' hj h => by
  obtain ⟨y, j2, h1, h2⟩ := bind_inv h
  have := fwd_kind l home u j y j2 hj h1
  injection h2 with h3 h4
  omega)
theorem fwd_body (l : List UInt8) {sub : Nat → Nat → Rs (Tree × List Bool)} (hs : ∀ kind, Fwd l (sub kind)) (little : Bool) (kind : Nat) : Fwd l (fun k => bodyS l sub little kind k) := by
  intro k v k' hk h
  show k ≤ k' ∧ k' ≤ l.length
  simp only [bodyS] at h
  split at h
  · obtain ⟨u, j, h1, h2⟩ := bind_inv h
    have := fwd_spot l little k u j hk h1
    injection h2 with h3 h4; omega
  · split at h
    · obtain ⟨u, j, h1, h2⟩ := bind_inv h
      have := fwd_line l little k u j hk h1
      injection h2 with h3 h4; omega
    · split at h
      · obtain ⟨u, j, h1, h2⟩ := bind_inv h
        have := fwd_count l 20 little k u j hk h1
        obtain ⟨u2, j2, h3, h4⟩ := bind_inv h2
        have := fwd_many (fwd_ring l little) u j u2 j2 (by omega) h3
        injection h4 with h5 h6; omega
      · obtain ⟨u, j, h1, h2⟩ := bind_inv h
        have := fwd_count l (least kind) little k u j hk h1
        obtain ⟨u2, j2, h3, h4⟩ := bind_inv h2
        have := fwd_many (hs kind) u j u2 j2 (by omega) h3
        injection h4 with h5 h6; omega
theorem fwd_geom (l : List UInt8) : ∀ n home, Fwd l (geomS l n home)
  | 0, home => fun k v k' hk h => by
    obtain ⟨u, j, h1, h2⟩ := bind_inv (r := headS l home k) h
    cases h2
  | n + 1, home => fun k v k' hk h => by
    obtain ⟨u, j, h1, h2⟩ := bind_inv (r := headS l home k) h
    have a := fwd_head l home k u j hk h1
    obtain ⟨u2, j2, h3, h4⟩ := bind_inv h2
    have b := fwd_body l (fun kind => fwd_geom l n kind) u.1 u.2 j u2 j2 a.2 h3
    injection h4 with h5 h6
    omega
end Wk
end Go.Proofs.YtinagjljebbceaaDoor

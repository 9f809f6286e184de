import Derived.Test.YtgobnjeankjkjaaGreatDoorRows
/- Layer 16: numbers as bytes, hex digits: plain facts. -/
namespace Go.Proofs.YtgobnjeankjkjaaGreatDoor
namespace Oc
/-- the bytes of a number, the lowest first -/
def le : Nat → Nat → List UInt8
  | 0, _ => []
  | n + 1, v => UInt8.ofNat (v % 256) :: le n (v / 256)
theorem le_len : ∀ (n v : Nat), (le n v).length = n
  | 0, _ => rfl
  | n + 1, v => by show (le n (v / 256)).length + 1 = n + 1; rw [le_len n]
theorem le_next : ∀ (n v : Nat), le (n + 1) v = le n v ++ [UInt8.ofNat (v / 256 ^ n % 256)]
  | 0, v => by show [UInt8.ofNat (v % 256)] = _; simp [le]
  | n + 1, v => by
    show UInt8.ofNat (v % 256) :: le (n + 1) (v / 256) = (UInt8.ofNat (v % 256) :: le n (v / 256)) ++ _
    rw [le_next n (v / 256), Nat.div_div_eq_div_mul, ← Nat.pow_succ']
    rfl
/-- laid in an order -/
def ord (n v : Nat) (little : Bool) : List UInt8 := if little then le n v else (le n v).reverse
theorem ord_len (n v : Nat) (little : Bool) : (ord n v little).length = n := by unfold ord; split <;> simp [le_len]
/-- the number of bytes, the highest first -/
def num (l : List UInt8) : Nat := l.foldl (fun v b => v * 256 + b.toNat) 0
theorem num_snoc (l : List UInt8) (b : UInt8) : num (l ++ [b]) = num l * 256 + b.toNat := by unfold num; rw [List.foldl_append]; rfl
theorem num_lt (l : List UInt8) : num l < 256 ^ l.length := by
  have h : ∀ (l : List UInt8) (v k : Nat), v < 256 ^ k → l.foldl (fun v b => v * 256 + b.toNat) v < 256 ^ (k + l.length) := by
    intro l
    induction l with
    | nil => intro v k h; exact h
    | cons b r ih =>
      intro v k h
      have hb := b.toNat_lt
      have := ih (v * 256 + b.toNat) (k + 1) (by rw [Nat.pow_succ]; omega)
      rw [List.foldl_cons, List.length_cons, show k + (r.length + 1) = k + 1 + r.length by omega]
      exact this
  have := h l 0 0 (by decide)
  rwa [Nat.zero_add] at this
theorem num_rev_le : ∀ (n v : Nat), num (le n v).reverse = v % 256 ^ n
  | 0, v => by show 0 = _; rw [Nat.pow_zero, Nat.mod_one]
  | n + 1, v => by
    show num (UInt8.ofNat (v % 256) :: le n (v / 256)).reverse = _
    rw [List.reverse_cons, num_snoc, num_rev_le n (v / 256), UInt8.toNat_ofNat', show (256 : Nat) ^ (n + 1) = 256 * 256 ^ n from Nat.pow_succ', Nat.mod_mul]
    have : v % 256 % 2 ^ 8 = v % 256 := by rw [show (2 : Nat) ^ 8 = 256 from rfl]; omega
    rw [this]
    omega
/-- the number of bytes in an order -/
def numO (l : List UInt8) (little : Bool) : Nat := num (if little then l.reverse else l)
theorem numO_lt (l : List UInt8) (little : Bool) : numO l little < 256 ^ l.length := by
  unfold numO
  split
  · have := num_lt l.reverse
    rwa [List.length_reverse] at this
  · exact num_lt l
theorem numO_ord (n v : Nat) (little : Bool) : numO (ord n v little) little = v % 256 ^ n := by
  unfold numO ord
  cases little
  · exact num_rev_le n v
  · exact num_rev_le n v
theorem numO_one (b : UInt8) (little : Bool) : numO [b] little = b.toNat := by
  cases little <;> (show 0 * 256 + b.toNat = _; omega)
theorem or_byte {v x : Nat} (hx : x < 256) : v * 256 ||| x = v * 256 + x := by
  have := Nat.two_pow_add_eq_or_of_lt (i := 8) (b := x) (by simpa using hx) v
  rw [show (2 : Nat) ^ 8 = 256 from rfl] at this
  rw [Nat.mul_comm, ← this]
/-- hex digits -/
def hexD (k : Nat) : UInt8 := if k < 10 then UInt8.ofNat (48 + k) else UInt8.ofNat (87 + k)
def hexB (b : UInt8) : List UInt8 := [hexD (b.toNat / 16), hexD (b.toNat % 16)]
def hexL : List UInt8 → List UInt8
  | [] => []
  | b :: r => hexB b ++ hexL r
theorem hexL_len : ∀ (l : List UInt8), (hexL l).length = 2 * l.length
  | [] => rfl
  | b :: r => by show (hexL r).length + 1 + 1 = 2 * (r.length + 1); rw [hexL_len r]; omega
theorem hexL_app : ∀ (l m : List UInt8), hexL (l ++ m) = hexL l ++ hexL m
  | [], m => rfl
  | b :: r, m => by show hexB b ++ hexL (r ++ m) = (hexB b ++ hexL r) ++ hexL m; rw [hexL_app r m, List.append_assoc]
theorem hexL_snoc (l : List UInt8) (b : UInt8) : hexL (l ++ [b]) = hexL l ++ hexB b := by rw [hexL_app]; show hexL l ++ (hexB b ++ []) = _; rw [List.append_nil]
/-- what a hex digit is worth; none: it is none -/
def valD (c : UInt8) : Option Nat :=
  if 48 ≤ c.toNat ∧ c.toNat ≤ 57 then some (c.toNat - 48) else if 97 ≤ c.toNat ∧ c.toNat ≤ 102 then some (c.toNat - 87) else if 65 ≤ c.toNat ∧ c.toNat ≤ 70 then some (c.toNat - 55) else none
end Oc
end Go.Proofs.YtgobnjeankjkjaaGreatDoor

/- Layer 16: hex digits read: plain facts. -/
namespace Go.Proofs.YtgobnjeankjkjaaGreatDoor
namespace Oc
theorem takeU {xs : List UInt8} {k : Nat} (h : k < xs.length) : xs.take (k + 1) = xs.take k ++ [xs.getD k 0] := by
  rw [List.take_succ_eq_append_getElem h]
  simp [List.getD_eq_getElem?_getD, List.getElem?_eq_getElem h]
/-- how many digits stand at the beginning -/
def fb (l : List UInt8) : Nat := (l.takeWhile fun c => (valD c).isSome).length
end Oc
end Go.Proofs.YtgobnjeankjkjaaGreatDoor


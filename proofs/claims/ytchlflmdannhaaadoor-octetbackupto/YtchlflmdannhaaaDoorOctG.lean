/- Layer 16: the law's sameErr; OctetHex. -/
import Derived.Test.YtchlflmdannhaaaDoorOctF
import Derived.Test.YtchlflmdannhaaaDoorByArg
namespace Go.Proofs.YtchlflmdannhaaaDoor
open Go.ChangeShapes Go.WideShapes Go.ChangeAt Go.RowKit
open Ep Oc
set_option linter.unusedVariables false
set_option maxHeartbeats 1600000 in
theorem sameErr_nil (p : Int) (w : World) :
    Calls Tryd.prog 11 #[.nilIface, .int .i64 0, .int .i64 p] w fun e w' => e = .returned (.bool true) ∧ w' = w := by
  go_enter Tryd.func11, Tryd.ntmps11
  go_wp2
  go_ret
  exact ⟨rfl, rfl⟩
set_option maxHeartbeats 1600000 in
set_option maxRecDepth 100000 in
theorem sameErr_yes {w : World} {g : Nat} {p c : Int} (hF : FaultAt w g p c) (hE : ErrVar w) (hc : c ≠ 0) :
    Calls Tryd.prog 11 #[.iface 61 (.pointer (some ⟨g, 0, none⟩)), .int .i64 c, .int .i64 p] w fun e w' => e = .returned (.bool true) ∧ Below w.heap.size w w' := by
  have t0 : (c == 0) = false := by simpa using hc
  have t1 : (c == c) = true := by simp
  have t2 : (p == p) = true := by simp
  have hC := codeFault_any hF hE
  have hP := fun (w' : World) (hb : Below w.heap.size w w') => placeFault_any (hF.later hb) (hE.later hb)
  clear hF hE hc
  go_enter Tryd.func11, Tryd.ntmps11
  go_wp2_with fail
  refine hC.mono ?_
  rintro e w1 ⟨rfl, hb1⟩
  have hP1 := hP w1 hb1
  clear hC hP
  go_wp2_with fail
  refine hP1.mono ?_
  rintro e w2 ⟨rfl, hb2⟩
  have hb := hb1.trans (hb2.mono hb1.size)
  clear hP1 hb2 hb1
  go_wp2
  go_ret
  exact ⟨rfl, hb⟩
set_option maxHeartbeats 3200000 in
set_option maxRecDepth 100000 in
theorem hex_walk {w : World} {a : Option Addr} {n c : Nat} {l : List UInt8} {s : ByteArray} (h : Rb w a n c l) (hn : n ≤ 1048576) (hs : s.size ≤ 1048576) (hE : ErrVar w) :
    Calls Tryd.prog 4 #[.slice a n c, .string s] w fun e w' => e = .returned (.bool true) ∧ Below w.heap.size w w' := by
  have HL : Hid (l.length = n) := h.len
  have hcc := h.2
  go_enter Tryd.func4, Tryd.ntmps4
  go_wp2_with fail
  refine (lent16_any h (by omega)).mono ?_
  rintro e w1 ⟨v1, rfl, hO1, hb1⟩
  obtain ⟨la, lc, rfl, hl1⟩ := hO1.row
  have hlen : (lentL l).length = n + 2 := by rw [lentL_len, HL.out]
  rw [hlen] at hl1 hO1 ⊢
  have hcut := hl1.take (k := n) (c' := lc) (by omega) (by have := hl1.2; omega) hl1.2.2
  rw [lentL_take l HL.out] at hcut
  have hlc := hl1.2
  have hE1 := hE.later hb1
  have h1 := h.later hb1
  clear hlen h hO1 hE
  go_wp2_with fail
  refine (hex16_any hcut (by omega)).mono ?_
  rintro e w2 ⟨rfl, hb2⟩
  have hB2 := hb1.trans (hb2.mono hb1.size)
  have hl2 := hl1.later hb2
  have h2 := h1.later hb2
  have hE2 := hE1.later hb2
  clear hl1 hcut h1 hE1 hb2 hb1
  obtain ⟨X, hX⟩ : ∃ X : ByteArray, X = ⟨(hexL l).toArray⟩ := ⟨_, rfl⟩
  have hR := rhex16_any h2 (by omega)
  rw [← hX] at hR ⊢
  have tX : (X.toList != X.toList) = false := by simp
  have tX2 : (X.data.toList != X.data.toList) = false := by simp
  clear hX
  go_wp2_with fail
  refine hR.mono ?_
  rintro e w3 ⟨rfl, hb3⟩
  have hB3 := hB2.trans (hb3.mono hB2.size)
  have hl3 := hl2.later hb3
  have h3 := h2.later hb3
  have hE3 := hE2.later hb3
  clear hl2 h2 hE2 hb3 hB2 hR
  go_wp2_with fail
  refine (kept16_any hl3 h3 (by omega)).mono ?_
  rintro e w4 ⟨rfl, k4, rfl⟩
  have hB4 := below_drewN hB3 k4
  have hE4 := hE3.later (below_drewN (Below.refl _ _) k4)
  clear hl3 h3 hE3 hB3
  generalize w3.drewN k4 = w4 at *
  have hU := unhex16_any s w4 (by omega)
  go_wp2_with fail
  refine hU.mono ?_
  rintro e w5 ⟨hres, hb5⟩
  have hB5 := hB4.trans (hb5.mono hB4.size)
  have hE5 := hE4.later hb5
  have hRU := runhex16_any s w5 (by omega)
  clear hU hB4 hE4
  rcases hres with ⟨hbad, g, rfl, hF⟩ | ⟨hbad, v, rfl, hO⟩
  · go_wp2_with fail
    refine hRU.mono ?_
    rintro e w6 ⟨hres6, hb6⟩
    have hB6 := hB5.trans (hb6.mono hB5.size)
    rcases hres6 with ⟨_, rfl⟩ | ⟨hno, _⟩
    · have hS := same16_yes (Rb.nil w6 none 0 (by omega)) (Rb.nil w6 none 0 (by omega))
      have hF6 := hF.later hb6
      have hE6 := hE5.later hb6
      clear hRU hF hb6 hb5 hB5 hE5 hbad
      go_wp2_with fail
      refine hS.mono ?_
      rintro e w7 ⟨rfl, k7, rfl⟩
      have hq := below_drewN (Below.refl w6.heap.size w6) k7
      have hSE := sameErr_yes (hF6.later hq) (hE6.later hq) (by decide)
      have hB7 := below_drewN hB6 k7
      clear hS hF6 hE6 hB6 hq
      go_wp2_with fail
      refine hSE.mono ?_
      rintro e w8 ⟨rfl, hb8⟩
      have hB8 := hB7.trans (hb8.mono hB7.size)
      clear hSE hB7 hb8
      go_wp2
      go_ret
      exact ⟨rfl, hB8⟩
    · rw [hbad] at hno; cases hno
  · obtain ⟨xa, xc, rfl, hx⟩ := hO.row
    go_wp2_with fail
    refine hRU.mono ?_
    rintro e w6 ⟨hres6, hb6⟩
    have hB6 := hB5.trans (hb6.mono hB5.size)
    rcases hres6 with ⟨hyes, _⟩ | ⟨_, v6, rfl, hO6⟩
    · rw [hbad] at hyes; cases hyes
    · obtain ⟨ya, yc, rfl, hy⟩ := hO6.row
      have hS := same16_yes (hx.later hb6) hy
      generalize (unhexL s.data.toList).length = m at *
      clear hRU hb6 hb5 hB5 hE5 hbad hO hx hO6 hy
      go_wp2_with fail
      refine hS.mono ?_
      rintro e w7 ⟨rfl, k7, rfl⟩
      have hB7 := below_drewN hB6 k7
      clear hS hB6
      go_wp2_with fail
      refine (sameErr_nil _ _).mono ?_
      rintro e w8 ⟨rfl, rfl⟩
      go_wp2
      go_ret
      exact ⟨rfl, hB7⟩
end Go.Proofs.YtchlflmdannhaaaDoor

/- Layer 9: the document's parts and expo. -/
import Derived.Test.YthibemoincgemabGreatDoorLexRa
namespace Go.Proofs.YthibemoincgemabGreatDoor
open Go.ChangeShapes Go.WideShapes Go.ChangeAt Go.RowKit
open Lx
set_option linter.unusedVariables false
namespace Lx
theorem results_t4 {fn : Func} {a b c d : Tmp} (h : fn.results = #[.tmp a, .tmp b, .tmp c, .tmp d]) (tmps : Array Value) (P : Program) (w : World) :
    (results fn tmps).run P w = .ok (.tuple #[tmps.getD a undef, tmps.getD b undef, tmps.getD c undef, tmps.getD d undef]) w := by
  simp [results, h]
theorem results_t3 {fn : Func} {a b c : Tmp} (h : fn.results = #[.tmp a, .tmp b, .tmp c]) (tmps : Array Value) (P : Program) (w : World) :
    (results fn tmps).run P w = .ok (.tuple #[tmps.getD a undef, tmps.getD b undef, tmps.getD c undef]) w := by
  simp [results, h]
theorem run_le9 {s : ByteArray} {k : Nat} (t : UInt8 → Bool) (hk : k ≤ s.size) : k + ((s.data.toList.drop k).takeWhile t).length ≤ s.size := run_le t hk
theorem fst_at {cs : B} {s : ByteArray} {k : Nat} (h : k < s.size) : fst cs (s.data.toList.drop k) = cs.contains (s[k]'h) := by rw [drop_cons_of h]; rfl
theorem fst_end {cs : B} {s : ByteArray} {k : Nat} (h : ¬ k < s.size) : fst cs (s.data.toList.drop k) = false := by rw [drop_nil_of (by omega)]; rfl
theorem has1 (x : UInt8) (c : UInt8) : ([c] : B).contains x = ((x.toNat : Int) == (c.toNat : Int)) := by
  rw [beq_u8, List.contains_cons, List.contains_nil, Bool.or_false]
theorem has2 (x : UInt8) (c d : UInt8) : ([c, d] : B).contains x = (((x.toNat : Int) == (c.toNat : Int)) || ((x.toNat : Int) == (d.toNat : Int))) := by
  rw [beq_u8, beq_u8, List.contains_cons, List.contains_cons, List.contains_nil, Bool.or_false]
end Lx
set_option maxHeartbeats 1600000 in
set_option maxRecDepth 100000 in
theorem parts9_any (s : ByteArray) (k b : Nat) (hex : Bool) (p0 : Pc) (hs : s.size ≤ 100000) (hk : k ≤ s.size) (hb : k = b + p0.stop) (w : World) :
    Calls Tryz.prog 61 #[.string s, .int .i64 (k : Int), .bool hex] w fun e w' => w' = w ∧
      ((refParts (isX hex) p0 (s.data.toList.drop k) = none ∧ ∃ x y z, e = .returned (.tuple #[.int .i64 x, .string y, .string z, .bool false])) ∨
       (∃ p, refParts (isX hex) p0 (s.data.toList.drop k) = some (p, s.data.toList.drop (b + p.stop)) ∧ b + p.stop ≤ s.size ∧ e = .returned (.tuple #[.int .i64 ((b + p.stop : Nat) : Int), .string (str p.ahead), .string (str p.behind), .bool true]))) := by
  have c1 := fun w => run9_any s k hex hs hk w
  have hle := run_le9 (isX hex) hk
  have hdr := drop_run s k (isX hex)
  have hx1 := run_ext (t := s) (k := k) (isX hex)
  have pp := fun h hn => parts_point (t := isX hex) p0 (l := s.data.toList.drop k) h hn
  have ppn := fun h hn => parts_point_none (t := isX hex) p0 (l := s.data.toList.drop k) h hn
  have pl := fun h hn => parts_plain (t := isX hex) p0 (l := s.data.toList.drop k) h hn
  have pln := fun h hn => parts_plain_none (t := isX hex) p0 (l := s.data.toList.drop k) h hn
  generalize hH : (s.data.toList.drop k).takeWhile (isX hex) = Hh at *
  rw [← hdr] at pp ppn pl pln
  clear hdr hH
  generalize hM : k + Hh.length = M at *
  have hMi : (M : Int) ≤ (s.size : Int) := by omega
  have hkM : (k : Int) ≤ (M : Int) := by omega
  have HB9 : Hid (b + (p0.stop + Hh.length) = M) := by unfold Hid; omega
  have hs2 : M ≤ 100000 := by omega
  clear hb hM
  have HP : Hid _ := pp
  have HPN : Hid _ := ppn
  have HL : Hid _ := pl
  have HLN : Hid _ := pln
  clear pp ppn pl pln
  have eh := str_empty Hh
  by_cases hlt : M < s.size
  · have hlti : (M : Int) < (s.size : Int) := by omega
    have hf := (fst_at (cs := [46]) hlt).symm
    rw [has1] at hf
    change ((((s[M]'hlt).toNat : Nat) : Int) == 46) = _ at hf
    cases hq : fst [46] (s.data.toList.drop M)
    · rw [hq] at hf
      have HQ : Hid (¬ fst [46] (s.data.toList.drop M) = true) := by unfold Hid; rw [hq]; simp
      clear hq
      by_cases hn : Hh = []
      · have HN : Hid (Hh = []) := hn
        rw [show Hh.isEmpty = true from by rw [hn]; rfl] at eh
        clear hn
        go_enter Tryz.func61, Tryz.ntmps61
        go_wp2_with (go_at_call 65; refine (c1 _).mono ?_; rintro e w' ⟨rfl, rfl⟩)
        refine bodyPost_ret (results_t4 rfl _ _ _) rfl ?_
        exact ⟨rfl, Or.inl ⟨HLN.out HQ.out HN.out, _, _, _, rfl⟩⟩
      · have HN : Hid (¬ Hh = []) := hn
        rw [isEmpty_ne hn] at eh
        clear hn
        go_enter Tryz.func61, Tryz.ntmps61
        go_wp2_with (go_at_call 65; refine (c1 _).mono ?_; rintro e w' ⟨rfl, rfl⟩)
        refine bodyPost_ret (results_t4 rfl _ _ _) rfl ?_
        have hst := HB9.out
        refine ⟨rfl, Or.inr ⟨{ p0 with ahead := Hh, behind := [], stop := p0.stop + Hh.length }, ?_, ?_, ?_⟩⟩
        · have := HL.out HQ.out HN.out
          rw [this]
          show some (_, _) = some (_, s.data.toList.drop (b + (p0.stop + Hh.length)))
          rw [hst]
        · show b + (p0.stop + Hh.length) ≤ s.size
          rw [hst]; exact hle
        · show Ending.returned (.tuple #[.int .i64 (M : Int), .string (str Hh), _, .bool true]) = .returned (.tuple #[.int .i64 ((b + (p0.stop + Hh.length) : Nat) : Int), _, _, _])
          rw [hst]; rfl
    · rw [hq] at hf
      have HQ : Hid (fst [46] (s.data.toList.drop M) = true) := hq
      have htl : (s.data.toList.drop M).tail = s.data.toList.drop (M + 1) := (fst_drop_lt hq).2.2
      rw [htl] at HP HPN
      clear hq htl
      have hM1 : M + 1 ≤ s.size := by omega
      have c2 := fun w => run9_any s (M + 1) hex hs hM1 w
      have hle2 := run_le9 (isX hex) hM1
      have hdr2 := drop_run s (M + 1) (isX hex)
      have hx2 := run_ext (t := s) (k := M + 1) (isX hex)
      generalize hH : (s.data.toList.drop (M + 1)).takeWhile (isX hex) = Qq at *
      rw [← hdr2] at HP
      clear hdr2 hH
      have eq := str_empty Qq
      generalize hM2 : M + 1 + Qq.length = M2 at *
      have hM2i : (M2 : Int) ≤ (s.size : Int) := by omega
      have hkM2 : (M : Int) + 1 ≤ (M2 : Int) := by omega
      by_cases hn : Hh = [] ∧ Qq = []
      · clear hM2
        have HN : Hid (Hh = [] ∧ Qq = []) := hn
        rw [show Hh.isEmpty = true from by rw [hn.1]; rfl] at eh
        rw [show Qq.isEmpty = true from by rw [hn.2]; rfl] at eq
        clear hn
        go_enter Tryz.func61, Tryz.ntmps61
        go_wp2_with fail
        refine (c1 _).mono ?_
        rintro e w1 ⟨rfl, hw1⟩
        rw [hw1]
        go_wp2_with fail
        refine (c2 _).mono ?_
        rintro e w2 ⟨rfl, hw2⟩
        rw [hw2]
        go_wp2
        refine bodyPost_ret (results_t4 rfl _ _ _) rfl ?_
        exact ⟨rfl, Or.inl ⟨HPN.out HQ.out HN.out, _, _, _, rfl⟩⟩
      · have HN : Hid (¬ (Hh = [] ∧ Qq = [])) := hn
        have HS : Hid (b + (p0.stop + Hh.length + 1 + Qq.length) = M2) := by
          have := HB9.out
          unfold Hid; omega
        clear hM2
        by_cases hn1 : Hh = []
        · rw [show Hh.isEmpty = true from by rw [hn1]; rfl] at eh
          rw [isEmpty_ne (fun h => hn ⟨hn1, h⟩)] at eq
          clear hn hn1
          go_enter Tryz.func61, Tryz.ntmps61
          go_wp2_with fail
          refine (c1 _).mono ?_
          rintro e w1 ⟨rfl, hw1⟩
          rw [hw1]
          go_wp2_with fail
          refine (c2 _).mono ?_
          rintro e w2 ⟨rfl, hw2⟩
          rw [hw2]
          go_wp2
          refine bodyPost_ret (results_t4 rfl _ _ _) rfl ?_
          refine ⟨rfl, Or.inr ⟨{ p0 with ahead := Hh, behind := Qq, stop := p0.stop + Hh.length + 1 + Qq.length }, ?_, ?_, ?_⟩⟩
          · have := HP.out HQ.out HN.out
            rw [this]
            show some (_, _) = some (_, s.data.toList.drop (b + (p0.stop + Hh.length + 1 + Qq.length)))
            rw [HS.out]
          · show b + (p0.stop + Hh.length + 1 + Qq.length) ≤ s.size
            rw [HS.out]; omega
          · show Ending.returned (.tuple #[.int .i64 (M2 : Int), .string (str Hh), .string (str Qq), .bool true]) = .returned (.tuple #[.int .i64 ((b + (p0.stop + Hh.length + 1 + Qq.length) : Nat) : Int), _, _, _])
            rw [HS.out]
        · rw [isEmpty_ne hn1] at eh
          clear hn hn1
          cases eqb : Qq.isEmpty <;> rw [eqb] at eq <;> clear eqb
          all_goals
            go_enter Tryz.func61, Tryz.ntmps61
            go_wp2_with fail
            refine (c1 _).mono ?_
            rintro e w1 ⟨rfl, hw1⟩
            rw [hw1]
            go_wp2_with fail
            refine (c2 _).mono ?_
            rintro e w2 ⟨rfl, hw2⟩
            rw [hw2]
            go_wp2
            refine bodyPost_ret (results_t4 rfl _ _ _) rfl ?_
            refine ⟨rfl, Or.inr ⟨{ p0 with ahead := Hh, behind := Qq, stop := p0.stop + Hh.length + 1 + Qq.length }, ?_, ?_, ?_⟩⟩
            · have := HP.out HQ.out HN.out
              rw [this]
              show some (_, _) = some (_, s.data.toList.drop (b + (p0.stop + Hh.length + 1 + Qq.length)))
              rw [HS.out]
            · show b + (p0.stop + Hh.length + 1 + Qq.length) ≤ s.size
              rw [HS.out]; omega
            · show Ending.returned (.tuple #[.int .i64 (M2 : Int), .string (str Hh), .string (str Qq), .bool true]) = .returned (.tuple #[.int .i64 ((b + (p0.stop + Hh.length + 1 + Qq.length) : Nat) : Int), _, _, _])
              rw [HS.out]
  · have hlti : ¬ (M : Int) < (s.size : Int) := by omega
    have HQ : Hid (¬ fst [46] (s.data.toList.drop M) = true) := by unfold Hid; rw [fst_end hlt]; simp
    by_cases hn : Hh = []
    · have HN : Hid (Hh = []) := hn
      rw [show Hh.isEmpty = true from by rw [hn]; rfl] at eh
      clear hn
      go_enter Tryz.func61, Tryz.ntmps61
      go_wp2_with (go_at_call 65; refine (c1 _).mono ?_; rintro e w' ⟨rfl, rfl⟩)
      refine bodyPost_ret (results_t4 rfl _ _ _) rfl ?_
      exact ⟨rfl, Or.inl ⟨HLN.out HQ.out HN.out, _, _, _, rfl⟩⟩
    · have HN : Hid (¬ Hh = []) := hn
      rw [isEmpty_ne hn] at eh
      clear hn
      go_enter Tryz.func61, Tryz.ntmps61
      go_wp2_with (go_at_call 65; refine (c1 _).mono ?_; rintro e w' ⟨rfl, rfl⟩)
      refine bodyPost_ret (results_t4 rfl _ _ _) rfl ?_
      have hst := HB9.out
      refine ⟨rfl, Or.inr ⟨{ p0 with ahead := Hh, behind := [], stop := p0.stop + Hh.length }, ?_, ?_, ?_⟩⟩
      · have := HL.out HQ.out HN.out
        rw [this]
        show some (_, _) = some (_, s.data.toList.drop (b + (p0.stop + Hh.length)))
        rw [hst]
      · show b + (p0.stop + Hh.length) ≤ s.size
        rw [hst]; exact hle
      · show Ending.returned (.tuple #[.int .i64 (M : Int), .string (str Hh), _, .bool true]) = .returned (.tuple #[.int .i64 ((b + (p0.stop + Hh.length) : Nat) : Int), _, _, _])
        rw [hst]; rfl
end Go.Proofs.YthibemoincgemabGreatDoor

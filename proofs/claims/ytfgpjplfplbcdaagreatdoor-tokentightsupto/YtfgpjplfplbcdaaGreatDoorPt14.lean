import Derived.Lib.ItoaLen
import Derived.Deep.RegionHeld3
import Derived.Below
import Derived.BigQuiet
import Derived.Deep.CutRange
import Derived.Deep.LoopGhost
import Derived.Deep.QuietTactic
import Derived.Deep.RegionWith
import Derived.Deep.WholeRow
import Derived.KernelRfl
import Derived.Laws.EntriesVeiled
import Derived.Laws.Externs
import Derived.Laws.RangeString
import Derived.Laws.ResultCell
import Derived.Laws.Runes
import Derived.Laws.Strings3
import Derived.Lib.AppendIntMem
import Derived.Lib.AsciiSet
import Derived.Lib.Builder
import Derived.Lib.Bytealg
import Derived.Lib.IndexBytes
import Derived.Lib.ItoaNum
import Derived.Lib.Strings
import Derived.Lib.TrimByte
import Derived.Lib.Walk
import Derived.OpenShut
import Derived.ProofKit
import Derived.Shelf.Strconv.Clone
import Derived.Shelf.Strconv.Itoa3
import Derived.Shelf.Strings.OnBuilder
import Derived.ShutString
import Derived.WalkKit
import Derived.WalkLawsBesides
import Derived.WalkSpells
import Derived.Test.YtfgpjplfplbcdaaGreatDoorPt1
import Derived.Test.YtfgpjplfplbcdaaGreatDoorPt11
import Derived.Test.YtfgpjplfplbcdaaGreatDoorPt12
/- Layer 9: the document's number. -/
namespace Go.Proofs.YtfgpjplfplbcdaaGreatDoor
open Go.ChangeShapes Go.WideShapes Go.ChangeAt Go.RowKit
open Lx
set_option linter.unusedVariables false
theorem dig18 {d : Nat} (h : d < 10) : (UInt8.ofNat (48 + d)).toNat = 48 + d := by
  rw [UInt8.toNat_ofNat']
  omega
theorem conv_at18 {w : World} {g : Nat} (x : UInt8) (h : Bk w g 5 #[.int .u8 (x.toNat : Int)]) :
    (convert 63 9 (.slice (some ⟨g, 0, none⟩) 1 1)).run Tryz.prog w = .ok (.string (str [x])) w := by
  refine run_convert_bytes_back (P := Tryz.prog) _ 63 9 5 ⟨g, 0, none⟩ 1 [x] Tryz.underlying63 Tryz.underlying5 Tryz.underlying9 (fun j hj => ?_)
  have hj0 : j = 0 := by simp at hj; omega
  subst hj0
  have ea : (⟨g, 0, none⟩ : Addr).add 0 = ⟨g, 0, none⟩ := by simp [Addr.add]
  rw [ea]
  exact h.cell 0 rfl
set_option maxHeartbeats 1600000 in
set_option maxRecDepth 100000 in
theorem r9number_small {n : Nat} (hn : n < 10) (w : World) :
    Calls Tryz.prog 57 #[.int .i64 (n : Int)] w fun e w' => e = .returned (.string (str (Lib.decDigits n))) ∧ Below w.heap.size w w' := by
  have d : decide ((n : Int) < 10) = true := by simp; omega
  have hx := dig18 hn
  have hc := conv_at18 (UInt8.ofNat (48 + n)) (Bk.new w 5 #[.int .u8 ((UInt8.ofNat (48 + n)).toNat : Int)])
  rw [hx] at hc
  have e : ((48 + n : Nat) : Int) = 48 + (n : Int) := by omega
  rw [e] at hc
  rw [Lib.decDigits_one hn]
  have b1 : Below w.heap.size w (w.alloc (.cells #[.int .u8 (48 + (n : Int))] 5)) := (Below.refl _ w).alloc (Nat.le_refl _) _
  have w4 : IntKind.u8.wrap (48 + (n : Int)) = 48 + (n : Int) := by rw [IntKind.wrap_u8]; omega
  have w5 : IntKind.i64.wrap (48 + (n : Int)) = 48 + (n : Int) := by rw [IntKind.wrap_i64]; omega
  have hm : (n : Int) < 10 := by omega
  generalize str [UInt8.ofNat (48 + n)] = X at *
  clear hx e hn
  go_enter Tryz.func57, Tryz.ntmps57
  go_wp2
  go_ret
  exact ⟨rfl, b1⟩
set_option maxHeartbeats 1600000 in
set_option maxRecDepth 100000 in
theorem r9number_step {n : Nat} (hn : 10 ≤ n) (hb : n < 10000000000) {l : B} (hl : l.length ≤ 100) (w : World) (hN : ∀ w, Calls Tryz.prog 57 #[.int .i64 ((n / 10 : Nat) : Int)] w fun e w' => e = .returned (.string (str l)) ∧ Below w.heap.size w w') :
    Calls Tryz.prog 57 #[.int .i64 (n : Int)] w fun e w' => e = .returned (.string (str (l ++ [UInt8.ofNat (48 + n % 10)]))) ∧ Below w.heap.size w w' := by
  have d : decide ((n : Int) < 10) = false := by simp; omega
  have hx := dig18 (Nat.mod_lt n (show 0 < 10 by omega))
  have hc := fun (w : World) => conv_at18 (UInt8.ofNat (48 + n % 10)) (Bk.new w 5 #[.int .u8 ((UInt8.ofNat (48 + n % 10)).toNat : Int)])
  have hcL := fun (w0 w' : World) (hb : Below (w0.alloc (.cells #[.int .u8 ((UInt8.ofNat (48 + n % 10)).toNat : Int)] 5)).heap.size (w0.alloc (.cells #[.int .u8 ((UInt8.ofNat (48 + n % 10)).toNat : Int)] 5)) w') => conv_at18 (UInt8.ofNat (48 + n % 10)) ((Bk.new w0 5 #[.int .u8 ((UInt8.ofNat (48 + n % 10)).toNat : Int)]).later hb)
  have hcD : (convert 63 9 (.slice (some ⟨w.heap.size, 0, none⟩) 1 1)).run Tryz.prog (w.alloc (.cells #[.int .u8 ((UInt8.ofNat (48 + n % 10)).toNat : Int)] 5)).drew = .ok (.string (str [UInt8.ofNat (48 + n % 10)])) (w.alloc (.cells #[.int .u8 ((UInt8.ofNat (48 + n % 10)).toNat : Int)] 5)).drew := conv_at18 (UInt8.ofNat (48 + n % 10)) (Bk.new w 5 #[.int .u8 ((UInt8.ofNat (48 + n % 10)).toNat : Int)])
  rw [hx] at hc hcL hcD
  have e1 : ((n : Int)).tdiv 10 = ((n / 10 : Nat) : Int) := by rw [Int.tdiv_eq_ediv_of_nonneg (by omega)]; omega
  have e2 : ((n : Int)).tmod 10 = ((n % 10 : Nat) : Int) := by rw [Int.tmod_eq_emod_of_nonneg (by omega)]; omega
  have hm : ((n % 10 : Nat) : Int) < 10 := by omega
  have hm0 : 0 ≤ ((n % 10 : Nat) : Int) := by omega
  have hnn : ¬ (n : Int) < 0 := by omega
  have e : ((48 + n % 10 : Nat) : Int) = 48 + ((n % 10 : Nat) : Int) := by omega
  rw [e] at hc hcL hcD
  have HCL : Hid _ := hcL
  clear hcL
  have ht := (Nat.mod_lt n (show 0 < 10 by omega))
  have w1 : IntKind.i64.wrap ((n / 10 : Nat) : Int) = ((n / 10 : Nat) : Int) := by rw [IntKind.wrap_i64]; omega
  have w2 : IntKind.i64.wrap ((n % 10 : Nat) : Int) = ((n % 10 : Nat) : Int) := by rw [IntKind.wrap_i64]; omega
  have w3 : IntKind.i64.wrap (48 + ((n % 10 : Nat) : Int)) = 48 + ((n % 10 : Nat) : Int) := by rw [IntKind.wrap_i64]; omega
  have w4 : IntKind.u8.wrap (48 + ((n % 10 : Nat) : Int)) = 48 + ((n % 10 : Nat) : Int) := by rw [IntKind.wrap_u8]; omega
  have hcat : str l ++ str [UInt8.ofNat (48 + n % 10)] = str (l ++ [UInt8.ofNat (48 + n % 10)]) := cat_str9b _ _
  generalize ((n % 10 : Nat) : Int) = m at *
  generalize ((n / 10 : Nat) : Int) = q at *
  have b0 : Below w.heap.size w w.drew := ⟨rfl, rfl, rfl, Nat.le_refl _, fun _ _ => rfl⟩
  have b1 : Below w.heap.size w (w.alloc (.cells #[.int .u8 (48 + m)] 5)).drew := by
    have h : Below w.heap.size w (w.alloc (.cells #[.int .u8 (48 + m)] 5)) := (Below.refl _ w).alloc (Nat.le_refl _) _
    exact h.trans ⟨rfl, rfl, rfl, Nat.le_refl _, fun _ _ => rfl⟩
  have hs1 : (str l).size = l.length := str_size l
  have hs2 : (str [UInt8.ofNat (48 + n % 10)]).size = 1 := str_size _
  generalize str [UInt8.ofNat (48 + n % 10)] = X at *
  generalize str (l ++ [UInt8.ofNat (48 + n % 10)]) = Y at *
  generalize str l = L at *
  clear e hx
  go_enter Tryz.func57, Tryz.ntmps57
  go_wp2
  go_region_with (go_at_call 57; refine (hN _).mono ?_; rintro e wX ⟨rfl, hbX⟩; (try (have hcX : (convert 63 9 (.slice (some ⟨w.heap.size, 0, none⟩) 1 1)).run Tryz.prog wX = .ok (.string X) wX := HCL.out w.drew wX hbX)))
  all_goals
    go_wp2
    go_ret
    first
      | exact ⟨rfl, ((b0.trans (hbX.mono b0.size))).alloc (Nat.le_trans b0.size hbX.size) _⟩
      | exact ⟨rfl, b1.trans (hbX.mono b1.size)⟩
theorem r9number_pos (n : Nat) : n < 10000000000 → ∀ w, Calls Tryz.prog 57 #[.int .i64 (n : Int)] w fun e w' => e = .returned (.string (str (Lib.decDigits n))) ∧ Below w.heap.size w w' := by
  induction n using Nat.strongRecOn with
  | _ n ih =>
    intro hn w
    by_cases h : n < 10
    · exact r9number_small h w
    · have e : Lib.decDigits n = Lib.decDigits (n / 10) ++ [UInt8.ofNat (48 + n % 10)] := by rw [Lib.decDigits, dif_neg h]
      rw [e]
      refine r9number_step (by omega) hn ?_ w (ih (n / 10) (by omega) (by omega))
      have h2 := Lib.itoa_length_le ((n / 10 : Nat) : Int) (by omega) (by omega)
      unfold Lib.itoa at h2
      rw [if_neg (by omega)] at h2
      simp only [Int.toNat_natCast] at h2
      omega
set_option maxHeartbeats 1600000 in
set_option maxRecDepth 100000 in
theorem r9number_any (e : Int) (h0 : -1073741824 ≤ e) (h1 : e ≤ 1073741824) (w : World) :
    Calls Tryz.prog 57 #[.int .i64 e] w fun r w' => r = .returned (.string (str (Lib.itoa e))) ∧ Below w.heap.size w w' := by
  by_cases h : e < 0
  · have hN := r9number_pos e.natAbs (by omega)
    have ea : ((e.natAbs : Nat) : Int) = -e := by omega
    rw [ea] at hN
    have hit : Lib.itoa e = 45 :: Lib.decDigits e.natAbs := by unfold Lib.itoa; rw [if_pos h]
    have hcat : ByteArray.mk #[45] ++ str (Lib.decDigits e.natAbs) = str (Lib.itoa e) := by
      rw [hit]
      apply ByteArray.ext
      simp [str]
    have hsz : (str (Lib.decDigits e.natAbs)).size ≤ 21 := by
      have h2 := Lib.itoa_length_le e (by omega) (by omega)
      rw [hit] at h2
      rw [str_size]
      simp at h2
      omega
    have wn : IntKind.i64.wrap (-e) = -e := by rw [IntKind.wrap_i64]; omega
    generalize str (Lib.itoa e) = Y at *
    generalize str (Lib.decDigits e.natAbs) = X at *
    clear hit ea
    go_enter Tryz.func57, Tryz.ntmps57
    go_wp2_with fail
    refine (hN _).mono ?_
    rintro r w1 ⟨rfl, hb⟩
    go_wp2
    go_ret
    exact ⟨by first | rfl | (rw [← hcat]; rfl), hb⟩
  · have hN := r9number_pos e.toNat (by omega) w
    have ea : ((e.toNat : Nat) : Int) = e := by omega
    rw [ea] at hN
    have hit : Lib.itoa e = Lib.decDigits e.toNat := by unfold Lib.itoa; rw [if_neg h]
    rw [hit]
    exact hN
end Go.Proofs.YtfgpjplfplbcdaaGreatDoor

/- Layer 9: the document's Text. -/
namespace Go.Proofs.YtfgpjplfplbcdaaGreatDoor
open Go.ChangeShapes Go.WideShapes Go.ChangeAt Go.RowKit
open Lx
set_option linter.unusedVariables false
theorem r9or0_any (s : ByteArray) (w : World) :
    Calls Tryz.prog 56 #[.string s] w fun r w' => r = .returned (.string (str (ozL s.data.toList))) ∧ w' = w := by
  unfold ozL
  by_cases h : s.data.toList = []
  · have hs : s = ByteArray.mk #[] := by rw [← str_of s, h]; rfl
    subst hs
    go_enter Tryz.func56, Tryz.ntmps56
    go_wp2
    go_ret
    exact ⟨rfl, rfl⟩
  · rw [if_neg h, str_of]
    have hE : s.toList.isEmpty = false := by rw [Lib.toList_data]; exact isEmpty_ne h
    clear h
    go_enter Tryz.func56, Tryz.ntmps56
    go_wp2
    go_ret
    exact ⟨rfl, rfl⟩
set_option maxHeartbeats 1600000 in
set_option maxRecDepth 100000 in
theorem r9text_bad (k : Int) (ng : Bool) (num : ByteArray) (e : Int) (den : ByteArray) (hn : num.size ≤ 1000000000) (hd : den.size ≤ 1000000000) (hrt : rightB k num.data.toList e den.data.toList = false) (w : World) :
    Calls Tryz.prog 43 #[.agg (numC k ng num e den)] w fun r w' => r = .returned (.tuple #[.string (ByteArray.mk #[]), .int .i64 90]) ∧ Below w.heap.size w w' := by
  have hCk : ∀ w, Calls Tryz.prog 55 #[.agg (numC k ng num e den)] w fun r w' => r = .returned (.int .i64 90) ∧ Below w.heap.size w w' := fun w => by
    have := r9check_any k ng num e den hn hd w
    rw [if_neg (by rw [hrt]; decide)] at this
    exact this
  have hb0 : Below w.heap.size w (w.alloc (.cells (numC k ng num e den) 30)) := (Below.refl _ w).alloc (Nat.le_refl _) _
  unfold numC at hb0 hCk ⊢
  clear hrt
  go_enter Tryz.func43, Tryz.ntmps43
  go_wp2_with fail
  refine (hCk _).mono ?_
  rintro r w1 ⟨rfl, b1⟩
  have B1 := hb0.trans (b1.mono hb0.size)
  clear hCk
  go_wp2
  refine bodyPost_ret (v := .tuple #[.string (ByteArray.mk #[]), .int .i64 90]) (by simp [results, Tryz.results43, go_sem]) rfl ?_
  exact ⟨rfl, B1⟩
theorem tx_sum {k e : Int} {ng : Bool} {num den : B} : str (txL k ng num e den) = (if ng = true then ByteArray.mk #[45] else ByteArray.mk #[]) ++ (if k = 2 then ByteArray.mk #[48, 120] else ByteArray.mk #[]) ++ str (ozL num) ++ (if k = 3 then ByteArray.mk #[47] ++ str (ozL den) else if k = 2 then ByteArray.mk #[112] ++ str (Lib.itoa e) else if e ≠ 0 then ByteArray.mk #[101] ++ str (Lib.itoa e) else ByteArray.mk #[]) := by
  unfold txL
  apply ByteArray.ext
  by_cases h1 : ng = true
  · by_cases h2 : k = 2
    · by_cases h3 : k = 3
      · omega
      · simp [str, h1, h2]
    · by_cases h3 : k = 3
      · simp [str, h1, h3]
      · by_cases h4 : e = 0
        · simp [str, h1, h2, h3, h4]
        · simp [str, h1, h2, h3, h4]
  · by_cases h2 : k = 2
    · by_cases h3 : k = 3
      · omega
      · simp [str, h1, h2]
    · by_cases h3 : k = 3
      · simp [str, h1, h3]
      · by_cases h4 : e = 0
        · simp [str, h1, h2, h3, h4]
        · simp [str, h1, h2, h3, h4]
set_option maxHeartbeats 6400000 in
set_option maxRecDepth 100000 in
theorem r9text_good (k : Int) (ng : Bool) (num : ByteArray) (e : Int) (den : ByteArray) (hn : num.size ≤ 65536) (hd : den.size ≤ 65536) (hk : k = 1 ∨ k = 2 ∨ k = 3) (e0 : -1073741824 ≤ e) (e1 : e ≤ 1073741824) (hrt : rightB k num.data.toList e den.data.toList = true) (w : World) :
    Calls Tryz.prog 43 #[.agg (numC k ng num e den)] w fun r w' => r = .returned (.tuple #[.string (str (txL k ng num.data.toList e den.data.toList)), .int .i64 0]) ∧ Below w.heap.size w w' := by
  have hCk : ∀ w, Calls Tryz.prog 55 #[.agg (numC k ng num e den)] w fun r w' => r = .returned (.int .i64 0) ∧ Below w.heap.size w w' := fun w => by
    have := r9check_any k ng num e den (by omega) (by omega) w
    rw [hrt, if_pos rfl] at this
    exact this
  have hO1 := fun w => r9or0_any num w
  have hO2 := fun w => r9or0_any den w
  have hN := fun w => r9number_any e e0 e1 w
  have oN : (str (ozL num.data.toList)).size ≤ 65537 := by rw [str_size]; unfold ozL; split; simp; rw [← Lib.size_eq]; omega
  have oD : (str (ozL den.data.toList)).size ≤ 65537 := by rw [str_size]; unfold ozL; split; simp; rw [← Lib.size_eq]; omega
  have iT : (str (Lib.itoa e)).size ≤ 21 := by rw [str_size]; exact Lib.itoa_length_le e (by omega) (by omega)
  have hb0 : Below w.heap.size w (w.alloc (.cells (numC k ng num e den) 30)) := (Below.refl _ w).alloc (Nat.le_refl _) _
  have hbk := Bk.new w 30 (numC k ng num e den)
  unfold numC at hb0 hCk hbk ⊢
  have hcl : Hid (∀ wX, Below (w.alloc (.cells #[.int .i64 k, .bool ng, .string num, .int .i64 e, .string den] 30)).heap.size (w.alloc (.cells #[.int .i64 k, .bool ng, .string num, .int .i64 e, .string den] 30)) wX → Bk wX w.heap.size 30 #[.int .i64 k, .bool ng, .string num, .int .i64 e, .string den]) := fun wX hb => hbk.later hb
  clear hrt hbk
  have HX : Hid (str (txL k ng num.data.toList e den.data.toList) = (if ng = true then ByteArray.mk #[45] else ByteArray.mk #[]) ++ (if k = 2 then ByteArray.mk #[48, 120] else ByteArray.mk #[]) ++ str (ozL num.data.toList) ++ (if k = 3 then ByteArray.mk #[47] ++ str (ozL den.data.toList) else if k = 2 then ByteArray.mk #[112] ++ str (Lib.itoa e) else if e ≠ 0 then ByteArray.mk #[101] ++ str (Lib.itoa e) else ByteArray.mk #[])) := tx_sum
  generalize str (txL k ng num.data.toList e den.data.toList) = TX at *
  generalize str (ozL num.data.toList) = SN at *
  generalize str (ozL den.data.toList) = SD at *
  generalize str (Lib.itoa e) = SI at *
  have sNil : str [] = ByteArray.mk #[] := rfl
  have cells : ∀ wX, Below (w.alloc (.cells #[.int .i64 k, .bool ng, .string num, .int .i64 e, .string den] 30)).heap.size (w.alloc (.cells #[.int .i64 k, .bool ng, .string num, .int .i64 e, .string den] 30)) wX → wX.cell? ⟨w.heap.size, 0, none⟩ = some (.int .i64 k) ∧ wX.cell? ⟨w.heap.size, 1, none⟩ = some (.bool ng) ∧ wX.cell? ⟨w.heap.size, 2, none⟩ = some (.string num) ∧ wX.cell? ⟨w.heap.size, 3, none⟩ = some (.int .i64 e) ∧ wX.cell? ⟨w.heap.size, 4, none⟩ = some (.string den) := fun wX hb => by
    have h := hcl.out wX hb
    exact ⟨h.cell 0 rfl, h.cell 1 rfl, h.cell 2 rfl, h.cell 3 rfl, h.cell 4 rfl⟩
  have HCS : Hid _ := cells
  clear cells sNil hcl
  rcases hk with rfl | rfl | rfl
  · clear hO2
    by_cases he : e = 0
    · subst he
      clear hN
      cases ng
      · have HT : Hid (TX = ByteArray.mk #[] ++ SN) := by show _ = _; rw [HX.out]; apply ByteArray.ext; simp
        clear HX
        go_enter Tryz.func43, Tryz.ntmps43
        go_wp2_with fail
        refine (hCk _).mono ?_
        rintro r w1 ⟨rfl, b1⟩
        have B1 : Below w.heap.size w w1 := hb0.trans (b1.mono hb0.size)
        obtain ⟨c0, c1, c2, c3, c4⟩ := HCS.out w1 b1
        have HC1 : Hid (∀ wX, Below w1.heap.size w1 wX → wX.cell? ⟨w.heap.size, 2, none⟩ = some (.string num) ∧ wX.cell? ⟨w.heap.size, 3, none⟩ = some (.int .i64 0) ∧ wX.cell? ⟨w.heap.size, 4, none⟩ = some (.string den)) := fun wX hb => by
          obtain ⟨_, _, d2, d3, d4⟩ := HCS.out wX (b1.trans (hb.mono b1.size))
          exact ⟨d2, d3, d4⟩
        clear hCk b1
        go_wp2_with (go_at_call 56; refine (hO1 _).mono ?_; rintro r w2 ⟨rfl, rfl⟩)
        refine bodyPost_ret (v := .tuple #[.string (ByteArray.mk #[] ++ SN), .int .i64 0]) (by simp [results, Tryz.results43, go_sem]) rfl ?_
        exact ⟨by rw [HT.out], B1⟩
      · have HT : Hid (TX = ByteArray.mk #[45] ++ SN) := by show _ = _; rw [HX.out]; apply ByteArray.ext; simp
        clear HX
        go_enter Tryz.func43, Tryz.ntmps43
        go_wp2_with fail
        refine (hCk _).mono ?_
        rintro r w1 ⟨rfl, b1⟩
        have B1 : Below w.heap.size w w1 := hb0.trans (b1.mono hb0.size)
        obtain ⟨c0, c1, c2, c3, c4⟩ := HCS.out w1 b1
        have HC1 : Hid (∀ wX, Below w1.heap.size w1 wX → wX.cell? ⟨w.heap.size, 2, none⟩ = some (.string num) ∧ wX.cell? ⟨w.heap.size, 3, none⟩ = some (.int .i64 0) ∧ wX.cell? ⟨w.heap.size, 4, none⟩ = some (.string den)) := fun wX hb => by
          obtain ⟨_, _, d2, d3, d4⟩ := HCS.out wX (b1.trans (hb.mono b1.size))
          exact ⟨d2, d3, d4⟩
        clear hCk b1
        go_wp2_with (go_at_call 56; refine (hO1 _).mono ?_; rintro r w2 ⟨rfl, rfl⟩)
        refine bodyPost_ret (v := .tuple #[.string (ByteArray.mk #[45] ++ SN), .int .i64 0]) (by simp [results, Tryz.results43, go_sem]) rfl ?_
        exact ⟨by rw [HT.out], B1⟩
    · have dz : (e == 0) = false := by simpa using he
      have hx0 : (if e ≠ 0 then ByteArray.mk #[101] ++ SI else ByteArray.mk #[]) = ByteArray.mk #[101] ++ SI := if_pos he
      simp only [hx0] at HX
      clear hx0
      cases ng
      · have HT : Hid (TX = ByteArray.mk #[] ++ SN ++ ByteArray.mk #[101] ++ SI) := by show _ = _; rw [HX.out]; apply ByteArray.ext; simp
        clear HX
        go_enter Tryz.func43, Tryz.ntmps43
        go_wp2_with fail
        refine (hCk _).mono ?_
        rintro r w1 ⟨rfl, b1⟩
        have B1 : Below w.heap.size w w1 := hb0.trans (b1.mono hb0.size)
        obtain ⟨c0, c1, c2, c3, c4⟩ := HCS.out w1 b1
        have HC1 : Hid (∀ wX, Below w1.heap.size w1 wX → wX.cell? ⟨w.heap.size, 2, none⟩ = some (.string num) ∧ wX.cell? ⟨w.heap.size, 3, none⟩ = some (.int .i64 e) ∧ wX.cell? ⟨w.heap.size, 4, none⟩ = some (.string den)) := fun wX hb => by
          obtain ⟨_, _, d2, d3, d4⟩ := HCS.out wX (b1.trans (hb.mono b1.size))
          exact ⟨d2, d3, d4⟩
        clear hCk b1
        clear he
        go_wp2_with (go_at_call 56; refine (hO1 _).mono ?_; rintro r w2 ⟨rfl, rfl⟩)
        refine (hN _).mono ?_
        rintro r w3 ⟨rfl, b3⟩
        clear hN hO1
        go_wp2
        refine bodyPost_ret (v := .tuple #[.string (ByteArray.mk #[] ++ SN ++ ByteArray.mk #[101] ++ SI), .int .i64 0]) (by simp [results, Tryz.results43, go_sem]) rfl ?_
        exact ⟨by rw [HT.out], B1.trans (b3.mono B1.size)⟩
      · have HT : Hid (TX = ByteArray.mk #[45] ++ SN ++ ByteArray.mk #[101] ++ SI) := by show _ = _; rw [HX.out]; apply ByteArray.ext; simp
        clear HX
        go_enter Tryz.func43, Tryz.ntmps43
        go_wp2_with fail
        refine (hCk _).mono ?_
        rintro r w1 ⟨rfl, b1⟩
        have B1 : Below w.heap.size w w1 := hb0.trans (b1.mono hb0.size)
        obtain ⟨c0, c1, c2, c3, c4⟩ := HCS.out w1 b1
        have HC1 : Hid (∀ wX, Below w1.heap.size w1 wX → wX.cell? ⟨w.heap.size, 2, none⟩ = some (.string num) ∧ wX.cell? ⟨w.heap.size, 3, none⟩ = some (.int .i64 e) ∧ wX.cell? ⟨w.heap.size, 4, none⟩ = some (.string den)) := fun wX hb => by
          obtain ⟨_, _, d2, d3, d4⟩ := HCS.out wX (b1.trans (hb.mono b1.size))
          exact ⟨d2, d3, d4⟩
        clear hCk b1
        clear he
        go_wp2_with (go_at_call 56; refine (hO1 _).mono ?_; rintro r w2 ⟨rfl, rfl⟩)
        refine (hN _).mono ?_
        rintro r w3 ⟨rfl, b3⟩
        clear hN hO1
        go_wp2
        refine bodyPost_ret (v := .tuple #[.string (ByteArray.mk #[45] ++ SN ++ ByteArray.mk #[101] ++ SI), .int .i64 0]) (by simp [results, Tryz.results43, go_sem]) rfl ?_
        exact ⟨by rw [HT.out], B1.trans (b3.mono B1.size)⟩
  · clear hO2
    cases ng
    · have HT : Hid (TX = ByteArray.mk #[] ++ ByteArray.mk #[48, 120] ++ SN ++ ByteArray.mk #[112] ++ SI) := by show _ = _; rw [HX.out]; apply ByteArray.ext; simp
      clear HX
      go_enter Tryz.func43, Tryz.ntmps43
      go_wp2_with fail
      refine (hCk _).mono ?_
      rintro r w1 ⟨rfl, b1⟩
      have B1 : Below w.heap.size w w1 := hb0.trans (b1.mono hb0.size)
      obtain ⟨c0, c1, c2, c3, c4⟩ := HCS.out w1 b1
      have HC1 : Hid (∀ wX, Below w1.heap.size w1 wX → wX.cell? ⟨w.heap.size, 2, none⟩ = some (.string num) ∧ wX.cell? ⟨w.heap.size, 3, none⟩ = some (.int .i64 e) ∧ wX.cell? ⟨w.heap.size, 4, none⟩ = some (.string den)) := fun wX hb => by
        obtain ⟨_, _, d2, d3, d4⟩ := HCS.out wX (b1.trans (hb.mono b1.size))
        exact ⟨d2, d3, d4⟩
      clear hCk b1
      go_wp2
      have q5 : (9223372036854775807 < 2 + SN.size) = False := by simp; omega
      have q6 : (9223372036854775807 < 2 + SN.size + 1) = False := by simp; omega
      have q7 : (9223372036854775807 < 2 + SN.size + 1 + SI.size) = False := by simp; omega
      go_region_held3 (fun w' => w'.cell? ⟨w.heap.size, 2, none⟩ = some (.string num) ∧ w'.cell? ⟨w.heap.size, 3, none⟩ = some (.int .i64 e)) (go_keep) (first | (go_at_call 56; refine (hO1 _).mono ?_; rintro r w2 ⟨rfl, rfl⟩) | (go_at_call 57; refine (hN _).mono ?_; rintro r wX ⟨rfl, hbX⟩; have hBX : Below w1.heap.size w1 wX := (by first | exact hbX | exact (below_drewN (Below.refl _ w1) _).trans (hbX.mono (Nat.le_refl _))); obtain ⟨d2, d3, d4⟩ := HC1.out wX hBX))
      all_goals
        go_wp2
        refine bodyPost_ret (v := .tuple #[.string (ByteArray.mk #[] ++ ByteArray.mk #[48, 120] ++ SN ++ ByteArray.mk #[112] ++ SI), .int .i64 0]) (by simp [results, Tryz.results43, go_sem]) rfl ?_
        first
          | exact ⟨by rw [HT.out], B1.trans (hBX.mono B1.size)⟩
          | exact ⟨by rw [HT.out], below_drewN (B1.trans (hBX.mono B1.size)) _⟩
    · have HT : Hid (TX = ByteArray.mk #[45] ++ ByteArray.mk #[48, 120] ++ SN ++ ByteArray.mk #[112] ++ SI) := by show _ = _; rw [HX.out]; apply ByteArray.ext; simp
      clear HX
      go_enter Tryz.func43, Tryz.ntmps43
      go_wp2_with fail
      refine (hCk _).mono ?_
      rintro r w1 ⟨rfl, b1⟩
      have B1 : Below w.heap.size w w1 := hb0.trans (b1.mono hb0.size)
      obtain ⟨c0, c1, c2, c3, c4⟩ := HCS.out w1 b1
      have HC1 : Hid (∀ wX, Below w1.heap.size w1 wX → wX.cell? ⟨w.heap.size, 2, none⟩ = some (.string num) ∧ wX.cell? ⟨w.heap.size, 3, none⟩ = some (.int .i64 e) ∧ wX.cell? ⟨w.heap.size, 4, none⟩ = some (.string den)) := fun wX hb => by
        obtain ⟨_, _, d2, d3, d4⟩ := HCS.out wX (b1.trans (hb.mono b1.size))
        exact ⟨d2, d3, d4⟩
      clear hCk b1
      go_wp2
      have q5 : (9223372036854775807 < 3 + SN.size) = False := by simp; omega
      have q6 : (9223372036854775807 < 3 + SN.size + 1) = False := by simp; omega
      have q7 : (9223372036854775807 < 3 + SN.size + 1 + SI.size) = False := by simp; omega
      go_region_held3 (fun w' => w'.cell? ⟨w.heap.size, 2, none⟩ = some (.string num) ∧ w'.cell? ⟨w.heap.size, 3, none⟩ = some (.int .i64 e)) (go_keep) (first | (go_at_call 56; refine (hO1 _).mono ?_; rintro r w2 ⟨rfl, rfl⟩) | (go_at_call 57; refine (hN _).mono ?_; rintro r wX ⟨rfl, hbX⟩; have hBX : Below w1.heap.size w1 wX := (by first | exact hbX | exact (below_drewN (Below.refl _ w1) _).trans (hbX.mono (Nat.le_refl _))); obtain ⟨d2, d3, d4⟩ := HC1.out wX hBX))
      all_goals
        go_wp2
        refine bodyPost_ret (v := .tuple #[.string (ByteArray.mk #[45] ++ ByteArray.mk #[48, 120] ++ SN ++ ByteArray.mk #[112] ++ SI), .int .i64 0]) (by simp [results, Tryz.results43, go_sem]) rfl ?_
        first
          | exact ⟨by rw [HT.out], B1.trans (hBX.mono B1.size)⟩
          | exact ⟨by rw [HT.out], below_drewN (B1.trans (hBX.mono B1.size)) _⟩
  · clear hN
    cases ng
    · have HT : Hid (TX = ByteArray.mk #[] ++ SN ++ ByteArray.mk #[47] ++ SD) := by show _ = _; rw [HX.out]; apply ByteArray.ext; simp
      clear HX
      go_enter Tryz.func43, Tryz.ntmps43
      go_wp2_with fail
      refine (hCk _).mono ?_
      rintro r w1 ⟨rfl, b1⟩
      have B1 : Below w.heap.size w w1 := hb0.trans (b1.mono hb0.size)
      obtain ⟨c0, c1, c2, c3, c4⟩ := HCS.out w1 b1
      have HC1 : Hid (∀ wX, Below w1.heap.size w1 wX → wX.cell? ⟨w.heap.size, 2, none⟩ = some (.string num) ∧ wX.cell? ⟨w.heap.size, 3, none⟩ = some (.int .i64 e) ∧ wX.cell? ⟨w.heap.size, 4, none⟩ = some (.string den)) := fun wX hb => by
        obtain ⟨_, _, d2, d3, d4⟩ := HCS.out wX (b1.trans (hb.mono b1.size))
        exact ⟨d2, d3, d4⟩
      clear hCk b1
      go_wp2
      go_quiet ((go_at_call 56; first | exact Calls.quiet_of_same (hO1 _) | exact Calls.quiet_of_same (hO2 _)))
      go_wp2
      refine bodyPost_ret (v := .tuple #[.string (ByteArray.mk #[] ++ SN ++ ByteArray.mk #[47] ++ SD), .int .i64 0]) (by simp [results, Tryz.results43, go_sem]) rfl ?_
      exact ⟨by rw [HT.out], below_drewN B1 _⟩
    · have HT : Hid (TX = ByteArray.mk #[45] ++ SN ++ ByteArray.mk #[47] ++ SD) := by show _ = _; rw [HX.out]; apply ByteArray.ext; simp
      clear HX
      go_enter Tryz.func43, Tryz.ntmps43
      go_wp2_with fail
      refine (hCk _).mono ?_
      rintro r w1 ⟨rfl, b1⟩
      have B1 : Below w.heap.size w w1 := hb0.trans (b1.mono hb0.size)
      obtain ⟨c0, c1, c2, c3, c4⟩ := HCS.out w1 b1
      have HC1 : Hid (∀ wX, Below w1.heap.size w1 wX → wX.cell? ⟨w.heap.size, 2, none⟩ = some (.string num) ∧ wX.cell? ⟨w.heap.size, 3, none⟩ = some (.int .i64 e) ∧ wX.cell? ⟨w.heap.size, 4, none⟩ = some (.string den)) := fun wX hb => by
        obtain ⟨_, _, d2, d3, d4⟩ := HCS.out wX (b1.trans (hb.mono b1.size))
        exact ⟨d2, d3, d4⟩
      clear hCk b1
      go_wp2
      go_quiet ((go_at_call 56; first | exact Calls.quiet_of_same (hO1 _) | exact Calls.quiet_of_same (hO2 _)))
      go_wp2
      refine bodyPost_ret (v := .tuple #[.string (ByteArray.mk #[45] ++ SN ++ ByteArray.mk #[47] ++ SD), .int .i64 0]) (by simp [results, Tryz.results43, go_sem]) rfl ?_
      exact ⟨by rw [HT.out], below_drewN B1 _⟩
end Go.Proofs.YtfgpjplfplbcdaaGreatDoor


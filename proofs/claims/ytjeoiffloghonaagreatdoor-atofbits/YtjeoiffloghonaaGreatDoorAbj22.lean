import Derived.Below
import Derived.BigQuiet
import Derived.ChangeOld
import Derived.Deep.CutRange
import Derived.Deep.DeepCutAuto
import Derived.Deep.LoopGhost
import Derived.Deep.QuietTactic
import Derived.Deep.RegionHeld3
import Derived.Deep.RegionWith
import Derived.Deep.WholeRow
import Derived.KernelRfl
import Derived.LaidEql
import Derived.Laws.BitsAllLaws
import Derived.Laws.CopyRow
import Derived.Laws.EntriesVeiled
import Derived.Laws.Externs
import Derived.Laws.IdiomCopy
import Derived.Laws.IdiomRangeMap
import Derived.Laws.IdiomStrings
import Derived.Laws.RangeAny
import Derived.Laws.RangeString
import Derived.Laws.ResultCell
import Derived.Laws.Runes
import Derived.Laws.Strings3
import Derived.Lib.AsciiSet
import Derived.Lib.AtoiErrMem
import Derived.Lib.Bytealg
import Derived.Lib.ConvBytes
import Derived.Lib.IndexBytes
import Derived.Lib.OthersKept
import Derived.Lib.Strings
import Derived.Lib.TrimByte
import Derived.Lib.Walk
import Derived.OpenShut
import Derived.OwnWalk
import Derived.ProofKit
import Derived.RowKitTokens
import Derived.Scope
import Derived.Shelf.Strconv.Clone
import Derived.Shelf.Strings.OnBuilder
import Derived.ShutString
import Derived.Stop.Asserts
import Derived.WalkKit
import Derived.WalkLawsBesides
import Derived.WalkMore
import Derived.WalkSpells
import Derived.Test.YtjeoiffloghonaaGreatDoorAbj19
import Derived.Test.YtjeoiffloghonaaGreatDoorAbj21
/- The document's Check of a numeral; its Ten. -/
namespace Go.Proofs.YtjeoiffloghonaaGreatDoor
open Go.ChangeShapes Go.WideShapes Go.ChangeAt Go.RowKit
open Na Ar Lx
set_option linter.unusedVariables false
namespace Lx
/-- the digits that are asked for -/
def setX (hex : Bool) : B := if hex = true then smal9 else digs9
/-- is it one of them, as the document asks? -/
def lowX (hex : Bool) (c : UInt8) : Bool := isD c || (hex && (decide ((97 : Int) ≤ (c.toNat : Int)) && decide ((c.toNat : Int) ≤ 102)))
set_option maxRecDepth 100000 in
theorem lowX_fin : ∀ (b : Fin 256), (setX false).contains (UInt8.ofNat b.val) = lowX false (UInt8.ofNat b.val) ∧ (setX true).contains (UInt8.ofNat b.val) = lowX true (UInt8.ofNat b.val) := by decide
theorem lowX_eq (hex : Bool) (c : UInt8) : (setX hex).contains c = lowX hex c := by
  have := lowX_fin ⟨c.toNat, c.toNat_lt⟩
  simp only [UInt8.ofNat_toNat] at this
  cases hex
  · exact this.1
  · exact this.2
theorem kept_first {cs l : B} (h : fst [48] l = true) : keptB cs l = false := by
  unfold keptB
  rw [h]
  simp
theorem kept_yes {hex : Bool} {l : B} (hl : l.length ≤ 65536) (h : fst [48] l = false) (ha : ∀ (j : Nat) b, j < l.length → l[j]? = some b → lowX hex b = true) : keptB (setX hex) l = true := by
  unfold keptB
  rw [decide_eq_true hl, h, Bool.not_false, Bool.true_and, Bool.true_and, List.all_eq_true]
  intro b hb
  obtain ⟨j, hj, e⟩ := List.getElem_of_mem hb
  rw [lowX_eq]
  exact ha j b hj (by rw [List.getElem?_eq_getElem hj, e])
theorem kept_no {hex : Bool} {l : B} {j : Nat} {b : UInt8} (hb : l[j]? = some b) (h : lowX hex b = false) : keptB (setX hex) l = false := by
  cases hk : keptB (setX hex) l with
  | false => rfl
  | true =>
    unfold keptB at hk
    simp only [Bool.and_eq_true, List.all_eq_true] at hk
    have := hk.2.2 b (List.mem_of_getElem? hb)
    rw [lowX_eq, h] at this
    cases this
theorem fst_get {s : ByteArray} (hp : 0 < s.size) : fst [48] s.data.toList = (s[0] == 48) := by
  have h := Lib.data_getElem? s 0 hp
  cases hl : s.data.toList with
  | nil => rw [hl] at h; cases h
  | cons c r =>
    rw [hl] at h
    have := Option.some.inj h
    rw [fst_cons, ← this]
    simp only [List.contains_cons, List.contains_nil, Bool.or_false]
theorem beq_u8x (x : UInt8) (k : UInt8) : ((x.toNat : Int) == (k.toNat : Int)) = (x == k) := by
  by_cases h : x = k
  · subst h; simp
  · have h2 : (x == k) = false := by simpa using h
    rw [h2]
    exact beq_eq_false_iff_ne.2 fun e => h (UInt8.toNat_inj.1 (by exact_mod_cast e))
theorem pow_le_w {b : Int} (h0 : 0 ≤ b) (hb : b ≤ 18446744073709551616) (n : Nat) : b ^ n ≤ (18446744073709551616 : Int) ^ n := by
  induction n with
  | zero => simp
  | succ n ih =>
    rw [Int.pow_succ, Int.pow_succ]
    exact Int.mul_le_mul ih hb h0 (Int.pow_nonneg (by omega))
theorem lt_pow_w {b : Int} (h0 : 0 ≤ b) (hb : b ≤ 18446744073709551616) (n : Nat) : Lt (b ^ n) (n + 1) := by
  refine ⟨Int.pow_nonneg h0, Int.lt_of_le_of_lt (pow_le_w h0 hb n) ?_⟩
  rw [Int.pow_succ]
  have : (0 : Int) < 18446744073709551616 ^ n := Int.pow_pos (by omega)
  omega
theorem nv_Lt {b : Int} {l : B} (h2 : 2 ≤ b) (hb : b ≤ 36) (h : okB b l) : Lt (nv b l) l.length :=
  ⟨nv_nonneg (by omega) l, Int.lt_of_lt_of_le (nv_lt h2 h) (pow_le_w (by omega) (by omega) _)⟩
end Lx
set_option maxRecDepth 100000 in
theorem digit11_any (x : UInt8) (w : World) :
    Calls Tryz.prog 119 #[.int .u8 x.toNat] w fun e w' => e = .returned (.bool (isD x)) ∧ w' = w := by
  have e : isD x = (decide ((48 : Int) ≤ (x.toNat : Int)) && decide ((x.toNat : Int) ≤ 57)) := by
    unfold isD
    congr 1 <;> (rw [decide_eq_decide]; omega)
  rw [e]
  clear e
  by_cases h1 : (48 : Int) ≤ (x.toNat : Int) <;> by_cases h2 : (x.toNat : Int) ≤ 57
  all_goals
    go_enter Tryz.func119, Tryz.ntmps119
    go_wp2
    go_ret
    refine ⟨?_, rfl⟩
    show Ending.returned (Value.bool _) = Ending.returned (Value.bool _)
    congr 2
    simp
    try omega
set_option maxHeartbeats 1600000 in
set_option maxRecDepth 100000 in
theorem rplain_any (s : ByteArray) (hex : Bool) (hs : s.size ≤ 800) (w : World) :
    Calls Tryz.prog 65 #[.string s, .bool hex] w fun e w' => e = .returned (.bool (keptB (setX hex) s.data.toList)) ∧ w' = w := by
  have sz : s.data.toList.length = s.size := (Lib.size_eq s).symm
  have d0 : decide ((s.size : Int) > 65536) = false := by simp; omega
  have d0' : decide ((65536 : Int) < (s.size : Int)) = false := by simp; omega
  have hem : s.toList.isEmpty = s.data.toList.isEmpty := by rw [Lib.toList_data]
  by_cases hp : 0 < s.size
  · have hne : s.data.toList.isEmpty = false := by
      cases hl : s.data.toList with
      | nil => rw [hl] at sz; simp at sz; omega
      | cons c r => rfl
    rw [hne] at hem
    have hf := fst_get hp
    have hq : (((s[0]'hp).toNat : Int) == 48) = ((s[0]'hp) == 48) := beq_u8x (s[0]'hp) 48
    cases hz : ((s[0]'hp) == 48)
    · rw [hz] at hf hq
      have HF : Hid (fst [48] s.data.toList = false) := hf
      clear hf hz hne
      go_enter Tryz.func65, Tryz.ntmps65
      go_wp2
      go_loop [5] (fun v => ∃ i : Nat, v = .int .i64 (i : Int) ∧ i ≤ s.size ∧ Hid (∀ (j : Nat) b, j < i → s.data.toList[j]? = some b → lowX hex b = true)) (fun v => s.size - (match v with | .int _ x => x.toNat | _ => 0))
      case atStart => exact ⟨0, rfl, by omega, fun j b hj => by omega⟩
      case round =>
        obtain ⟨i, rfl, hi, hc⟩ := hrel
        by_cases hlt : i < s.size
        · have hpi : (i : Int) < (s.size : Int) := by omega
          have HX : Hid (s.data.toList[i]? = some (s[i]'hlt)) := Lib.data_getElem? s i hlt
          have c1 := digit11_any (s[i]'hlt)
          have HN : Hid (lowX hex (s[i]'hlt) = true → ∀ (j : Nat) b, j < i + 1 → s.data.toList[j]? = some b → lowX hex b = true) := by
            intro hb j b hj hb'
            by_cases q : j = i
            · subst q; rw [HX.out] at hb'; rw [← Option.some.inj hb']; exact hb
            · exact hc.out j b (by omega) hb'
          have HM : Hid (lowX hex (s[i]'hlt) = false → keptB (setX hex) s.data.toList = false) := fun h => kept_no HX.out h
          have hlo : lowX hex (s[i]'hlt) = (isD (s[i]'hlt) || (hex && (decide ((97 : Int) ≤ ((s[i]'hlt).toNat : Int)) && decide (((s[i]'hlt).toNat : Int) ≤ 102)))) := rfl
          cases hd : isD (s[i]'hlt)
          · rw [hd, Bool.false_or] at hlo
            rw [hd] at c1
            cases hex
            · have HK : Hid (keptB (setX false) s.data.toList = false) := HM.out (by rw [hlo]; rfl)
              clear hlo hd HN HM hc HX
              go_wp2_with (go_at_call 119; refine (c1 _).mono ?_; rintro e w' ⟨rfl, rfl⟩)
              go_ret
              exact ⟨by rw [HK.out]; rfl, rfl⟩
            · by_cases k1 : (97 : Int) ≤ ((s[i]'hlt).toNat : Int)
              · by_cases k2 : ((s[i]'hlt).toNat : Int) ≤ 102
                · have HK := HN.out (by rw [hlo]; simp [k1, k2])
                  have HK' : Hid (∀ (j : Nat) b, j < i + 1 → s.data.toList[j]? = some b → lowX true b = true) := HK
                  clear hlo hd HN HM hc HX HK
                  go_wp2_with (go_at_call 119; refine (c1 _).mono ?_; rintro e w' ⟨rfl, rfl⟩)
                  go_round
                  · refine ⟨i + 1, ?_, by omega, HK'.out⟩
                    simp
                  · simp; omega
                · have HK : Hid (keptB (setX true) s.data.toList = false) := HM.out (by rw [hlo]; simp [k2])
                  have t1 : decide (((s[i]'hlt).toNat : Int) ≥ 97) = true := by simp; omega
                  have t1' : decide ((97 : Int) ≤ ((s[i]'hlt).toNat : Int)) = true := by simp; omega
                  have t2 : decide (((s[i]'hlt).toNat : Int) ≤ 102) = false := by simp; omega
                  clear k1 k2
                  clear hlo hd HN HM hc HX
                  go_wp2_with (go_at_call 119; refine (c1 _).mono ?_; rintro e w' ⟨rfl, rfl⟩)
                  go_ret
                  exact ⟨by rw [HK.out]; rfl, rfl⟩
              · have HK : Hid (keptB (setX true) s.data.toList = false) := HM.out (by rw [hlo]; simp [k1])
                have k1' : ((s[i]'hlt).toNat : Int) < 97 := by omega
                clear hlo hd HN HM hc HX
                go_wp2_with (go_at_call 119; refine (c1 _).mono ?_; rintro e w' ⟨rfl, rfl⟩)
                go_ret
                exact ⟨by rw [HK.out]; rfl, rfl⟩
          · rw [hd] at c1
            have HK := HN.out (by rw [hlo, hd]; rfl)
            have HK' : Hid (∀ (j : Nat) b, j < i + 1 → s.data.toList[j]? = some b → lowX hex b = true) := HK
            clear hlo hd HN HM hc HX HK
            go_wp2_with (go_at_call 119; refine (c1 _).mono ?_; rintro e w' ⟨rfl, rfl⟩)
            go_round
            · refine ⟨i + 1, ?_, by omega, HK'.out⟩
              simp
            · simp; omega
        · have hi' : i = s.size := by omega
          have HK : Hid (keptB (setX hex) s.data.toList = true) := kept_yes (by omega) HF.out (fun j b hj hb => hc.out j b (by omega) hb)
          have hpi : ¬ (i : Int) < (s.size : Int) := by omega
          clear hc HF
          subst hi'
          go_wp2
          go_ret
          exact ⟨by rw [HK.out]; rfl, rfl⟩
    · rw [hz] at hf hq
      have HK : Hid (keptB (setX hex) s.data.toList = false) := kept_first hf
      clear hf hz hne
      go_enter Tryz.func65, Tryz.ntmps65
      go_wp2
      go_ret
      exact ⟨by rw [HK.out]; rfl, rfl⟩
  · have hnil : s.data.toList = [] := List.length_eq_zero_iff.mp (by omega)
    have HK : Hid (keptB (setX hex) s.data.toList = true) := by show _ = _; rw [hnil]; rfl
    have s0 : s.size = 0 := by omega
    rw [hnil] at hem
    clear hnil
    have hem' : s.toList.isEmpty = true := hem
    clear hem
    go_enter Tryz.func65, Tryz.ntmps65
    go_wp2
    go_loop [5] (fun v => v = .int .i64 0) (fun v => 0)
    case atStart => rfl
    case round =>
      subst hrel
      have hpi : ¬ (0 : Int) < (s.size : Int) := by omega
      go_wp2
      go_ret
      exact ⟨by rw [HK.out]; rfl, rfl⟩
theorem ten11_any (n : Nat) (hn : n ≤ 2000) (w : World) :
    Calls Tryz.prog 66 #[.int .i64 (n : Int)] w fun e w' => ∃ a l c ls, e = .returned (.tuple #[.slice a l c, .int .i64 0]) ∧ RowC w' a l c ls ∧ Nm ls (10 ^ n) ∧ ls.length ≤ n + 1 ∧ Below w.heap.size w w' := by
  have hP := fun w => power_any (b := 10) (by omega) n (by omega) w
  have d1 : decide ((n : Int) < 0) = false := by simp
  have d2 : decide ((n : Int) > 78913) = false := by simp; omega
  have d2' : decide ((78913 : Int) < (n : Int)) = false := by simp; omega
  have lt := lt_pow_w (b := 10) (by omega) (by omega) n
  have np := lt.nm (by omega)
  have ll := lt.len
  generalize words ((10 : Int) ^ n) = ps at *
  generalize (10 : Int) ^ n = T at *
  go_enter Tryz.func66, Tryz.ntmps66
  go_wp2_with fail
  refine (hP _).mono ?_
  rintro r w1 ⟨ap, lq, cp, rfl, rp, hb⟩
  clear hP
  go_wp2
  go_ret2
  exact ⟨_, _, _, ps, rfl, rp, np, ll, hb⟩
end Go.Proofs.YtjeoiffloghonaaGreatDoor


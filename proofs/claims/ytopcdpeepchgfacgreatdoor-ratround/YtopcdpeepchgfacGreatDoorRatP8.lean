/- rat.Parse of any text of at most 4000 bytes; plumblaw05.texts. -/
import Derived.Test.YtopcdpeepchgfacGreatDoorRatP7
import Derived.Test.YtopcdpeepchgfacGreatDoorRatP6
import Derived.Test.YtopcdpeepchgfacGreatDoorRatDoeW
namespace Go.Proofs.YtopcdpeepchgfacGreatDoor
open Go.ChangeShapes Go.WideShapes Go.ChangeAt Go.RowKit
open Na Ar
set_option linter.unusedVariables false
set_option linter.unusedSimpArgs false
namespace Na
theorem preIs_uniq {s z z' : ByteArray} {q q' : Bool} (h : PreIs s z q) (h' : PreIs s z' q') : z = z' ∧ q = q' := by
  rcases h with ⟨rfl, a0, a1, rfl⟩ | ⟨rfl, a1, rfl⟩ <;> rcases h' with ⟨rfl, b0, b1, rfl⟩ | ⟨rfl, b1, rfl⟩
  · exact ⟨rfl, rfl⟩
  · exact absurd a1 (b1 a0)
  · exact absurd b1 (a1 b0)
  · exact ⟨rfl, rfl⟩
theorem cutIs_uniq {z a b a' b' : ByteArray} {q q' : Bool} (h : CutIs z a b q) (h' : CutIs z a' b' q') : a = a' ∧ b = b' ∧ q = q' := by
  rcases h with ⟨rfl, a1, rfl, rfl⟩ | ⟨rfl, i, a1, a2, a3, rfl, rfl⟩ <;> rcases h' with ⟨rfl, b1, rfl, rfl⟩ | ⟨rfl, j, b1, b2, b3, rfl, rfl⟩
  · exact ⟨rfl, rfl, rfl⟩
  · exact absurd b2 (a1 j b1)
  · exact absurd a2 (b1 i a1)
  · have e : i = j := by
      rcases Nat.lt_trichotomy i j with l | l | l
      · exact absurd a2 (b3 i l)
      · exact l
      · exact absurd b2 (a3 j l)
    subst e
    exact ⟨rfl, rfl, rfl⟩
theorem preIs_any (s : ByteArray) : ∃ z q, PreIs s z q := by
  by_cases h : 0 < s.size ∧ s.get! 0 = 45
  · exact ⟨_, _, Or.inl ⟨rfl, h.1, h.2, rfl⟩⟩
  · exact ⟨_, _, Or.inr ⟨rfl, fun h0 e => h ⟨h0, e⟩, rfl⟩⟩
theorem cutIs_any (z : ByteArray) : ∃ a b q, CutIs z a b q := by
  rcases indexByteB z 47 with ⟨_, k⟩ | ⟨i, _, hi, k1, k2⟩
  · exact ⟨_, _, _, Or.inl ⟨rfl, k, rfl, rfl⟩⟩
  · exact ⟨_, _, _, Or.inr ⟨rfl, i, hi, k1, k2, rfl, rfl⟩⟩
theorem lt_code {s : ByteArray} {c p : Int} (hs : s.size ≤ 4000) (h : PCode s 10 c p) (hc : c = 0) : Lt (numB s 10 s.size) 4096 := by
  have hd : ∀ i, i < s.size → dgt s i < 10 := by
    rcases h with ⟨_, a2, a3⟩ | ⟨_, _, a2, a3⟩ | ⟨_, i, i1, _, _, a2, a3⟩ | ⟨_, _, _, a2, a3⟩ | ⟨_, a0, _, a2, a3⟩
    · omega
    · omega
    · omega
    · omega
    · exact a0.2
  have h1 := numB_lt (s := s) (b := 10) (by omega) hd
  have h2 := pow10 s.size
  have h3 := wpow_mono (show s.size ≤ 4096 by omega)
  exact ⟨numB_nonneg10 s, by omega⟩
end Na
theorem rParse_any {s : ByteArray} {f : Nat} {neg : Bool} (hF : FromIs s f neg) (hs : s.size ≤ 4000) : ∃ above below q, Parts s f above below q ∧ ∀ w : World, ErrVar w →
    Calls Tryz.prog 9 #[.string s] w fun e w' => ∃ c1 p1 c2 p2 code p, PCode above 10 c1 p1 ∧ PCode below 10 c2 p2 ∧ PAns c1 p1 c2 p2 (numB below 10 below.size) f ((f : Int) + (above.size : Int) + 1) code p ∧ PRes w neg (numB above 10 above.size) (numB below 10 below.size) code p e w' := by
  obtain ⟨z, ng, hz⟩ := preIs_any s
  obtain ⟨above, below0, q, hc⟩ := cutIs_any z
  obtain ⟨hp, rfl, hf⟩ := parts_of hF hz hc rfl
  refine ⟨above, _, q, hp, fun w hE => ?_⟩
  have hle := hp.le
  have hfl : f ≤ 1 := by rcases hF with ⟨rfl, _⟩ | ⟨rfl, _⟩ <;> omega
  have hbl : (if q = true then below0 else ⟨#[49]⟩ : ByteArray).size ≤ 4000 := by
    rcases hp.rest with ⟨_, _, e⟩ | ⟨_, _, _, e, _⟩
    · rw [e]; decide
    · rw [e]; omega
  have hzs : z.size ≤ 4000 := by omega
  refine rParse_go (P1 := PCode above 10) (P2 := PCode (if q = true then below0 else ⟨#[49]⟩) 10) (fun w => (sPre_any s (by omega) w).mono ?_) (fun w => (sCut_any z (by omega) w).mono ?_) (fun w h => read_any above f (by omega) (by omega) (by omega) w h) (fun w h => read_any _ _ (by omega) (by omega) (by omega) w h) (fun c p h e => pcode_len h e) (fun c p h e => pcode_len h e) (numB_nonneg10 _) (numB_nonneg10 _) hf rfl (by omega) (by omega) (by omega) (by omega) (by omega) w hE
  · rintro e w' ⟨z', q', rfl, h, rfl⟩
    obtain ⟨rfl, rfl⟩ := preIs_uniq h hz
    exact ⟨rfl, rfl⟩
  · rintro e w' ⟨a', b', q', rfl, h, hg⟩
    obtain ⟨rfl, rfl, rfl⟩ := cutIs_uniq h hc
    exact ⟨rfl, hg⟩
end Go.Proofs.YtopcdpeepchgfacGreatDoor

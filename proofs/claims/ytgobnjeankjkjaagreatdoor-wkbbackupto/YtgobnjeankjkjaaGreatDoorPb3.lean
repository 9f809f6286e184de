import Derived.RangeFuncNested
import Derived.RangeFuncBound
import Derived.RangeFuncLeaves
/- A range over a function, by states: the iterator may keep cells of its own. -/
namespace Go.Proofs.YtgobnjeankjkjaaGreatDoor
open Go Go.RowKit
set_option linter.unusedVariables false
namespace Rf
variable {P : Program} {n : Nat}
/-- how a round's body may be left -/
def rPost {σ : Type} (B : Nat) (J2 : σ → World → Prop) (Jx : Code → World → Prop) (s : σ) (W : World) : Exit → Act → World → Prop
  | .normal, _, W' => KeepsFrom B W W' ∧ J2 s W'
  | .ret, _, W' => KeepsFrom B W W' ∧ Jx .ret W'
  | .exit id, _, W' => KeepsFrom B W W' ∧ Jx (.exit id) W'
  | .goto t, _, W' => KeepsFrom B W W' ∧ Jx (.goto t) W'
  | .panic _, _, _ => False
  | .outgrown, _, _ => False
/-- the record's turn between the assignment and the body -/
structure Turn (l : Nat) (W W' : World) : Prop where
  grown : W.grownBy W' (some l)
  size : W'.heap.size = W.heap.size
  obj : ∃ o : Obj, W.heap[l]? = some o ∧ o.isCells = false
  rec' : ∃ r, W'.heap[l]? = some (.loop r)
theorem Turn.other {l k : Nat} {W W' : World} (h : Turn l W W') (hk : k ≠ l) (hs : k < W.heap.size) : W'.heap[k]? = W.heap[k]? := h.grown.block k hs (fun e => hk (by cases e; rfl))
theorem Turn.cells {l k : Nat} {W W' : World} {o : Obj} (h : Turn l W W') (ho : W.heap[k]? = some o) (hc : o.isCells = true) : W'.heap[k]? = some o := by
  have hk : k ≠ l := fun e => by
    obtain ⟨o', h1, h2⟩ := h.obj
    rw [e, h1] at ho
    cases ho
    rw [hc] at h2
    cases h2
  exact (h.other hk (Array.getElem?_eq_some_iff.1 ho).1).trans ho
theorem Turn.below {l B : Nat} {W W' : World} (h : Turn l W W') (hB : B ≤ l) : Below B W W' :=
  (Below.refl B W).grown h.grown (by obtain ⟨o, h1, _⟩ := h.obj; have := (Array.getElem?_eq_some_iff.1 h1).1; omega) (fun k e => by cases e; exact hB)
/-- **an outermost loop** -/
theorem wpIn_range {σ : Type} {g : Operand} {ps : Array Tmp} {assign body : Code} {Q : Exit → Act → World → Prop} {a : Act} {w : World}
    {gf : Nat} {lb : Array Value} (hg : a.eval g = .func (.func gf) #[] lb) (eg : ∀ args w, (callFunc gf args).run P w = .ok (.enter gf args) w)
    (encs : σ → Array Value) (hps : ∀ s, (encs s).size = ps.size)
    (J J2 : σ → World → Prop) (J0 Jd : World → Prop) (Jx : Code → World → Prop)
    (oJ : OwnFrom w.heap.size J) (oJ2 : OwnFrom w.heap.size J2) (oJ0 : OwnFrom w.heap.size (fun (_ : Unit) => J0)) (oJd : OwnFrom w.heap.size (fun (_ : Unit) => Jd)) (oJx : OwnFrom w.heap.size Jx) (h0 : J0 w)
    (hit : ∀ (l : Nat) (R : World → Prop) (Rx : Code → World → Prop), (∀ W W', KeepsOthers W W' → R W → R W') → (∀ c W W', KeepsOthers W W' → Rx c W → Rx c W') →
      (∀ s W, J s W → R W → YieldAt Fence.wide n P l (encs s) W fun e W' => (e = .returned (.bool true) ∧ J2 s W' ∧ R W') ∨ (e = .returned (.bool false) ∧ ∃ c, Jx c W' ∧ Rx c W')) →
      ∀ W, J0 W → R W → CallsIn Fence.wide n P gf (#[.func (.yield l) #[] #[]] ++ lb) W fun e W' => (∃ v, e = .returned v) ∧ ((Jd W' ∧ R W') ∨ ∃ c, Jx c W' ∧ Rx c W'))
    (hround : ∀ (l : Nat) (s : σ) (W : World), w.heap.size ≤ l → J s W →
      assign.wpIn (Fence.wide.inRound l) n P (Exit.then (fun a' W1 => KeepsFrom w.heap.size W W1 ∧ ∀ W2, Turn l W1 W2 → body.wpIn (Fence.wide.inRound l) n P (rPost w.heap.size J2 Jx s W2) a' W2) (fun _ _ _ => False))
        { tmps := (ps.zip (encs s)).foldl (fun t (p, v) => t.setIfInBounds p v) a.tmps, defers := [] } W)
    (hdone : ∀ (D : Nat) (W : World), w.heap.size ≤ D → Jd W → W.heap[D]? = some (.deferred (some [])) → Q .normal { a with defers := { target := .collected D, args := #[] } :: a.defers } W)
    (hstop : ∀ (D : Nat) (c : Code) (W : World), w.heap.size ≤ D → Jx c W → W.heap[D]? = some (.deferred (some [])) → c.wpIn Fence.wide n P Q { a with defers := { target := .collected D, args := #[] } :: a.defers } W) :
    (Code.rangeFunc g ps assign body).wpIn Fence.wide n P Q a w := by
  refine wpIn_rangeFunc ?_
  intro fn hfn
  rw [show Fence.wide.round = none from rfl]
  obtain ⟨rec, hrec⟩ : ∃ rec : LoopState → Option Code → Loop, rec = fun st pe => { state := st, pending := pe, fn, tmps := a.tmps, params := ps, assign, body, defers := w.heap.size } := ⟨_, rfl⟩
  obtain ⟨W1, hW1⟩ : ∃ W1, (w.alloc (.deferred (some []))).alloc (.loop (rec .ready none)) = W1 := ⟨_, rfl⟩
  have hL1 : W1.heap[w.heap.size + 1]? = some (.loop (rec .ready none)) := by
    rw [← hW1]; have := World.alloc_heap_new (w.alloc (.deferred (some []))) (.loop (rec .ready none)); rwa [World.size_alloc] at this
  have hK1 : W1.heap[w.heap.size]? = some (.deferred (some [])) := by
    rw [← hW1]; exact (Below.heap_alloc _ _ _ (by simp)).trans (World.alloc_heap_new w _)
  have hI1 : J0 W1 := by rw [← hW1]; exact oJ0.alloc (s := ()) _ (oJ0.alloc (s := ()) _ h0)
  refine ⟨w.heap.size + 1, [{ target := .collected w.heap.size, args := #[] }], W1, { target := .fn (.func gf) lb, args := #[.func (.yield (w.heap.size + 1)) #[] #[]] }, W1, gf,
    #[.func (.yield (w.heap.size + 1)) #[] #[]] ++ lb, W1, ?_, ?_, ?_, ?_, fun h => (by cases h), ?_⟩
  · rw [← hW1, hrec]; exact run_enterLoop_outer _ _ _ _ _
  · simp only [resolve, hg]
    simp [go_sem]
  · intro f' _; trivial
  · simp [invoke, go_sem, eg]
  · have wide_n : ∀ {m k : Nat} {f : FuncId} {args : Array Value} {w : World} {R : Ending → World → Prop}, CallsIn Fence.wide m P f args w R → CallsIn Fence.wide k P f args w R := fun h => callsIn_wide.2 (callsIn_wide.1 h)
    refine wide_n (m := n) ((hit (w.heap.size + 1)
      (fun W => W.heap[w.heap.size + 1]? = some (.loop (rec .ready none)) ∧ W.heap[w.heap.size]? = some (.deferred (some [])))
      (fun c W => W.heap[w.heap.size + 1]? = some (.loop (rec .done (some c))) ∧ W.heap[w.heap.size]? = some (.deferred (some [])))
      (fun W W' hk h => ⟨hk.same _ _ h.1 rfl, hk.same _ _ h.2 rfl⟩) (fun c W W' hk h => ⟨hk.same _ _ h.1 rfl, hk.same _ _ h.2 rfl⟩) ?_ W1 hI1 ⟨hL1, hK1⟩).mono ?_)
    · rintro s W hi ⟨hl, hk⟩
      have hy := run_yield (P := P) (args := encs s) hl (by rw [hrec]; exact hps s)
      rw [hrec] at hy
      refine ⟨fn, _, assign, body, hy, roundIn_of_wpIn trivial (wpIn_mono (hround _ s W (by omega) hi) ?_)⟩
      clear hy
      intro ex a' Wa hp
      cases ex with
      | normal =>
        obtain ⟨hkfa, hbody⟩ := hp
        replace hl := hkfa.same _ _ (by omega) hl rfl
        replace hk := hkfa.same _ _ (Nat.le_refl _) hk rfl
        have hlt : w.heap.size + 1 < Wa.heap.size := (Array.getElem?_eq_some_iff.1 hl).1
        refine ⟨_, run_beginRound hl (by rw [hrec]), ?_⟩
        have hl2 : (Wa.putObj (w.heap.size + 1) (.loop { rec .ready none with state := .busy })).heap[w.heap.size + 1]? = some (.loop { rec .ready none with state := .busy }) := World.putObj_heap_same hlt
        have hk2 : (Wa.putObj (w.heap.size + 1) (.loop { rec .ready none with state := .busy })).heap[w.heap.size]? = some (.deferred (some [])) := (World.putObj_heap_other (by omega)).trans hk
        refine wpIn_mono (hbody _ ⟨grownBy_putObj' _ _ _, by simp, ⟨_, hl, rfl⟩, ⟨_, hl2⟩⟩) ?_
        have fin : ∀ (jump : Option Code) (W3 : World), KeepsFrom w.heap.size (Wa.putObj (w.heap.size + 1) (.loop { rec .ready none with state := .busy })) W3 →
            (Instr.endRound (w.heap.size + 1) jump).run P W3 = .ok (.bool jump.isNone) (W3.putObj (w.heap.size + 1) (.loop (rec (if jump.isNone then .ready else .done) jump))) ∧
            W3.heap[w.heap.size + 1]? = some (.loop { rec .ready none with state := .busy }) ∧
            (W3.putObj (w.heap.size + 1) (.loop (rec (if jump.isNone then .ready else .done) jump))).heap[w.heap.size + 1]? = some (.loop (rec (if jump.isNone then .ready else .done) jump)) ∧
            (W3.putObj (w.heap.size + 1) (.loop (rec (if jump.isNone then .ready else .done) jump))).heap[w.heap.size]? = some (.deferred (some [])) := fun jump W3 hk3 => by
          have hl3 := hk3.same _ _ (by omega) hl2 rfl
          have := run_endRound (P := P) jump hl3
          rw [hrec] at this ⊢
          exact ⟨this, by rw [hrec] at hl3; exact hl3, World.putObj_heap_same (Array.getElem?_eq_some_iff.1 hl3).1, (World.putObj_heap_other (by omega)).trans (hk3.same _ _ (Nat.le_refl _) hk2 rfl)⟩
        rintro e a3 W3 hp
        cases e with
        | normal =>
          obtain ⟨hk3, hi3⟩ := hp
          obtain ⟨hr, hl3, hl4, hk4⟩ := fin none W3 hk3
          exact ⟨_, _, hr, .inl ⟨rfl, oJ2.putObj _ hi3 (by omega) hl3 rfl, hl4, hk4⟩⟩
        | ret =>
          obtain ⟨hk3, hi3⟩ := hp
          obtain ⟨hr, hl3, hl4, hk4⟩ := fin (some .ret) W3 hk3
          exact ⟨_, _, hr, .inr ⟨rfl, .ret, oJx.putObj _ hi3 (by omega) hl3 rfl, hl4, hk4⟩⟩
        | exit id =>
          obtain ⟨hk3, hi3⟩ := hp
          obtain ⟨hr, hl3, hl4, hk4⟩ := fin (some (.exit id)) W3 hk3
          exact ⟨_, _, hr, .inr ⟨rfl, .exit id, oJx.putObj _ hi3 (by omega) hl3 rfl, hl4, hk4⟩⟩
        | goto t =>
          obtain ⟨hk3, hi3⟩ := hp
          obtain ⟨hr, hl3, hl4, hk4⟩ := fin (some (.goto t)) W3 hk3
          exact ⟨_, _, hr, .inr ⟨rfl, .goto t, oJx.putObj _ hi3 (by omega) hl3 rfl, hl4, hk4⟩⟩
        | panic ch => exact hp.elim
        | outgrown => exact hp.elim
      | ret => exact hp.elim
      | exit id => exact hp.elim
      | goto t => exact hp.elim
      | panic ch => exact hp.elim
      | outgrown => exact hp.elim
    · rintro e W2 ⟨⟨v, rfl⟩, (⟨hi, hl, hk⟩ | ⟨c, hi, hl, hk⟩)⟩
      · exact ⟨none, _, by have := run_endLoop (P := P) hl (by rw [hrec]; simp); rw [hrec] at this; exact this, hdone _ _ (Nat.le_refl _) (oJd.putObj (s := ()) _ hi (by omega) hl rfl) ((World.putObj_heap_other (by omega)).trans hk)⟩
      · exact ⟨some c, _, by have := run_endLoop (P := P) hl (by rw [hrec]; simp); rw [hrec] at this; exact this, hstop _ c _ (Nat.le_refl _) (oJx.putObj _ hi (by omega) hl rfl) ((World.putObj_heap_other (by omega)).trans hk)⟩
/-- **a loop within a round of loop l₀** -/
theorem wpIn_rangeN {l₀ : Nat} {r₀ : Loop} {σ : Type} {g : Operand} {ps : Array Tmp} {assign body : Code} {Q : Exit → Act → World → Prop} {a : Act} {w : World}
    (hl₀ : w.heap[l₀]? = some (.loop r₀)) {gf : Nat} {lb : Array Value} (hg : a.eval g = .func (.func gf) #[] lb) (eg : ∀ args w, (callFunc gf args).run P w = .ok (.enter gf args) w)
    (encs : σ → Array Value) (hps : ∀ s, (encs s).size = ps.size)
    (J J2 : σ → World → Prop) (J0 Jd : World → Prop) (Jx : Code → World → Prop)
    (oJ : OwnFrom w.heap.size J) (oJ2 : OwnFrom w.heap.size J2) (oJ0 : OwnFrom w.heap.size (fun (_ : Unit) => J0)) (oJd : OwnFrom w.heap.size (fun (_ : Unit) => Jd)) (oJx : OwnFrom w.heap.size Jx) (h0 : J0 w)
    (hit : ∀ (l : Nat) (R : World → Prop) (Rx : Code → World → Prop), (∀ W W', KeepsOthers W W' → R W → R W') → (∀ c W W', KeepsOthers W W' → Rx c W → Rx c W') →
      (∀ s W, J s W → R W → YieldAt Fence.wide n P l (encs s) W fun e W' => (e = .returned (.bool true) ∧ J2 s W' ∧ R W') ∨ (e = .returned (.bool false) ∧ ∃ c, Jx c W' ∧ Rx c W')) →
      ∀ W, J0 W → R W → CallsIn Fence.wide n P gf (#[.func (.yield l) #[] #[]] ++ lb) W fun e W' => (∃ v, e = .returned v) ∧ ((Jd W' ∧ R W') ∨ ∃ c, Jx c W' ∧ Rx c W'))
    (hround : ∀ (l : Nat) (s : σ) (W : World), w.heap.size ≤ l → J s W →
      assign.wpIn (Fence.wide.inRound l) n P (Exit.then (fun a' W1 => KeepsFrom w.heap.size W W1 ∧ ∀ W2, Turn l W1 W2 → body.wpIn (Fence.wide.inRound l) n P (rPost w.heap.size J2 Jx s W2) a' W2) (fun _ _ _ => False))
        { tmps := (ps.zip (encs s)).foldl (fun t (p, v) => t.setIfInBounds p v) a.tmps, defers := [] } W)
    (hdone : ∀ (W : World), Jd W → Q .normal a W)
    (hstop : ∀ (c : Code) (W : World), Jx c W → c.wpIn (Fence.wide.inRound l₀) n P Q a W) :
    (Code.rangeFunc g ps assign body).wpIn (Fence.wide.inRound l₀) n P Q a w := by
  refine wpIn_rangeFunc ?_
  intro fn hfn
  rw [show (Fence.wide.inRound l₀).round = some l₀ from rfl]
  obtain ⟨rec, hrec⟩ : ∃ rec : LoopState → Option Code → Loop, rec = fun st pe => { state := st, pending := pe, fn, tmps := a.tmps, params := ps, assign, body, defers := r₀.defers } := ⟨_, rfl⟩
  obtain ⟨W1, hW1⟩ : ∃ W1, w.alloc (.loop (rec .ready none)) = W1 := ⟨_, rfl⟩
  have hL1 : W1.heap[w.heap.size]? = some (.loop (rec .ready none)) := by rw [← hW1]; exact World.alloc_heap_new w _
  have hI1 : J0 W1 := by rw [← hW1]; exact oJ0.alloc (s := ()) _ h0
  refine ⟨w.heap.size, [], W1, { target := .fn (.func gf) lb, args := #[.func (.yield (w.heap.size)) #[] #[]] }, W1, gf,
    #[.func (.yield (w.heap.size)) #[] #[]] ++ lb, W1, ?_, ?_, ?_, ?_, fun h => (by cases h), ?_⟩
  · rw [← hW1, hrec]; exact run_enterLoop_inner hl₀ _ _ _ _ _
  · simp only [resolve, hg]
    simp [go_sem]
  · intro f' _; trivial
  · simp [invoke, go_sem, eg]
  · have wide_n : ∀ {m k : Nat} {f : FuncId} {args : Array Value} {w : World} {R : Ending → World → Prop}, CallsIn Fence.wide m P f args w R → CallsIn Fence.wide k P f args w R := fun h => callsIn_wide.2 (callsIn_wide.1 h)
    refine wide_n (m := n) ((hit (w.heap.size)
      (fun W => W.heap[w.heap.size]? = some (.loop (rec .ready none)))
      (fun c W => W.heap[w.heap.size]? = some (.loop (rec .done (some c))))
      (fun W W' hk h => hk.same _ _ h rfl) (fun c W W' hk h => hk.same _ _ h rfl) ?_ W1 hI1 hL1).mono ?_)
    · rintro s W hi hl
      have hy := run_yield (P := P) (args := encs s) hl (by rw [hrec]; exact hps s)
      rw [hrec] at hy
      refine ⟨fn, _, assign, body, hy, roundIn_of_wpIn trivial (wpIn_mono (hround _ s W (by omega) hi) ?_)⟩
      clear hy
      intro ex a' Wa hp
      cases ex with
      | normal =>
        obtain ⟨hkfa, hbody⟩ := hp
        replace hl := hkfa.same _ _ (by omega) hl rfl
        have hlt : w.heap.size < Wa.heap.size := (Array.getElem?_eq_some_iff.1 hl).1
        refine ⟨_, run_beginRound hl (by rw [hrec]), ?_⟩
        have hl2 : (Wa.putObj (w.heap.size) (.loop { rec .ready none with state := .busy })).heap[w.heap.size]? = some (.loop { rec .ready none with state := .busy }) := World.putObj_heap_same hlt
        refine wpIn_mono (hbody _ ⟨grownBy_putObj' _ _ _, by simp, ⟨_, hl, rfl⟩, ⟨_, hl2⟩⟩) ?_
        have fin : ∀ (jump : Option Code) (W3 : World), KeepsFrom w.heap.size (Wa.putObj (w.heap.size) (.loop { rec .ready none with state := .busy })) W3 →
            (Instr.endRound (w.heap.size) jump).run P W3 = .ok (.bool jump.isNone) (W3.putObj (w.heap.size) (.loop (rec (if jump.isNone then .ready else .done) jump))) ∧
            W3.heap[w.heap.size]? = some (.loop { rec .ready none with state := .busy }) ∧
            (W3.putObj (w.heap.size) (.loop (rec (if jump.isNone then .ready else .done) jump))).heap[w.heap.size]? = some (.loop (rec (if jump.isNone then .ready else .done) jump)) := fun jump W3 hk3 => by
          have hl3 := hk3.same _ _ (by omega) hl2 rfl
          have := run_endRound (P := P) jump hl3
          rw [hrec] at this ⊢
          exact ⟨this, by rw [hrec] at hl3; exact hl3, World.putObj_heap_same (Array.getElem?_eq_some_iff.1 hl3).1⟩
        rintro e a3 W3 hp
        cases e with
        | normal =>
          obtain ⟨hk3, hi3⟩ := hp
          obtain ⟨hr, hl3, hl4⟩ := fin none W3 hk3
          exact ⟨_, _, hr, .inl ⟨rfl, oJ2.putObj _ hi3 (by omega) hl3 rfl, hl4⟩⟩
        | ret =>
          obtain ⟨hk3, hi3⟩ := hp
          obtain ⟨hr, hl3, hl4⟩ := fin (some .ret) W3 hk3
          exact ⟨_, _, hr, .inr ⟨rfl, .ret, oJx.putObj _ hi3 (by omega) hl3 rfl, hl4⟩⟩
        | exit id =>
          obtain ⟨hk3, hi3⟩ := hp
          obtain ⟨hr, hl3, hl4⟩ := fin (some (.exit id)) W3 hk3
          exact ⟨_, _, hr, .inr ⟨rfl, .exit id, oJx.putObj _ hi3 (by omega) hl3 rfl, hl4⟩⟩
        | goto t =>
          obtain ⟨hk3, hi3⟩ := hp
          obtain ⟨hr, hl3, hl4⟩ := fin (some (.goto t)) W3 hk3
          exact ⟨_, _, hr, .inr ⟨rfl, .goto t, oJx.putObj _ hi3 (by omega) hl3 rfl, hl4⟩⟩
        | panic ch => exact hp.elim
        | outgrown => exact hp.elim
      | ret => exact hp.elim
      | exit id => exact hp.elim
      | goto t => exact hp.elim
      | panic ch => exact hp.elim
      | outgrown => exact hp.elim
    · rintro e W2 ⟨⟨v, rfl⟩, (⟨hi, hl⟩ | ⟨c, hi, hl⟩)⟩
      · exact ⟨none, _, by have := run_endLoop (P := P) hl (by rw [hrec]; simp); rw [hrec] at this; exact this, hdone _ (oJd.putObj (s := ()) _ hi (by omega) hl rfl)⟩
      · exact ⟨some c, _, by have := run_endLoop (P := P) hl (by rw [hrec]; simp); rw [hrec] at this; exact this, hstop c _ (oJx.putObj _ hi (by omega) hl rfl)⟩
theorem round_n {n m l : Nat} {f : FuncId} {tmps : Array Value} {assign body : Code} {w : World} {R : Ending → World → Prop} (h : RoundIn Fence.wide n P l f tmps assign body w R) : RoundIn Fence.wide m P l f tmps assign body w R :=
  ⟨h.1, fun c cs _ => h.2 c cs (room_wide _)⟩
end Rf
end Go.Proofs.YtgobnjeankjkjaaGreatDoor


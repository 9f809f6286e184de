import Derived.Test.YtbbmoaipilmmdaaGreatDoorBaseA
import Derived.LaidEql
import Derived.Stop.Asserts
import Derived.RowKitTokens
import Derived.Test.YtbbmoaipilmmdaaGreatDoorBaseB
/- api.Code and api.Place of no error and of a Fault: Go's own errors.As, walked. -/
namespace Go.Proofs.YtbbmoaipilmmdaaGreatDoor
open Go.RowKit Go.Extern.Stop Go.Stop Go.Extern
set_option linter.unusedVariables false
namespace As
/-- the handle of a type -/
abbrev hnd (t : Nat) : Value := .pointer (some ⟨6, t, none⟩)
theorem valuePE (t : Addr) (w : World) : (ReflectliteValue.unpack (.iface 77 (.pointer (some t)))).run Tryz.prog w
    = .ok (.agg #[hnd 77, .pointer (some ⟨w.heap.size, 0, none⟩), .int .u64 150]) (w.alloc (.cells #[.pointer (some t)] 77)) := by kernel_rfl
theorem valueE (c : Int) (w : World) : (ReflectliteValue.unpack (.iface 23 (.int .i64 c))).run Tryz.prog w
    = .ok (.agg #[hnd 23, .pointer (some ⟨w.heap.size, 0, none⟩), .int .u64 130]) (w.alloc (.cells #[.int .i64 c] 23)) := by kernel_rfl
theorem valueF (e : Addr) (w : World) : (ReflectliteValue.unpack (.iface 122 (.pointer (some e)))).run Tryz.prog w
    = .ok (.agg #[hnd 122, .pointer (some ⟨w.heap.size, 0, none⟩), .int .u64 150]) (w.alloc (.cells #[.pointer (some e)] 122)) := by kernel_rfl
theorem typePE (a : Addr) (w : World) : (ReflectliteValue.methodAny (ReflectliteValue.valueError "reflectlite.Value.Type" 0) (fun t _ _ _ => ReflectliteType.toType t) #[.agg #[hnd 77, .pointer (some a), .int .u64 150]]).run Tryz.prog w
    = .ok (.iface 158 (.agg #[hnd 77])) w := by kernel_rfl
theorem methodKind (h : Value) (w : World) : (Go.method 311 158 (.agg #[h]) "Kind").run Tryz.prog w = .ok (148, h) w := by kernel_rfl
theorem methodElem (h : Value) (w : World) : (Go.method 311 158 (.agg #[h]) "Elem").run Tryz.prog w = .ok (160, .agg #[h]) w := by kernel_rfl
theorem methodImplements (h : Value) (w : World) : (Go.method 311 158 (.agg #[h]) "Implements").run Tryz.prog w = .ok (161, .agg #[h]) w := by kernel_rfl
theorem methodAssignableTo (h : Value) (w : World) : (Go.method 311 158 (.agg #[h]) "AssignableTo").run Tryz.prog w = .ok (158, .agg #[h]) w := by kernel_rfl
theorem methodUnwrap (a : Addr) (w : World) : (Go.method 311 122 (.pointer (some a)) "Unwrap").run Tryz.prog w = .ok (153, .pointer (some a)) w := by kernel_rfl
theorem kindPE (w : World) : ((ReflectliteType.abiMethod fun t => (fun a : Nat => Value.int IntKind.u8 (a : Int)) <$> Rtype.kind t) #[hnd 77]).run Tryz.prog w = .ok (.int .u8 22) w := by kernel_rfl
theorem kindE (w : World) : ((ReflectliteType.abiMethod fun t => (fun a : Nat => Value.int IntKind.u8 (a : Int)) <$> Rtype.kind t) #[hnd 23]).run Tryz.prog w = .ok (.int .u8 2) w := by kernel_rfl
theorem kindF (w : World) : ((ReflectliteType.abiMethod fun t => (fun a : Nat => Value.int IntKind.u8 (a : Int)) <$> Rtype.kind t) #[hnd 122]).run Tryz.prog w = .ok (.int .u8 22) w := by kernel_rfl
theorem partsPE (a : Addr) (w : World) : (ReflectliteValue.parts (.agg #[hnd 77, .pointer (some a), .int .u64 150])).run Tryz.prog w = .ok (some (77, a, 150)) w := by kernel_rfl
theorem isNilPE (a p : Addr) (W : World) (ha : W.cell? a = some (.pointer (some p))) :
    (ReflectliteValue.method (ReflectliteValue.valueError "reflectlite.Value.IsNil" 0) ReflectliteValue.isNil #[.agg #[hnd 77, .pointer (some a), .int .u64 150]]).run Tryz.prog W = .ok (.bool false) W := by
  show (Bind.bind (ReflectliteValue.parts (.agg #[hnd 77, .pointer (some a), .int .u64 150])) _ : Sem Value).run _ _ = _
  simp only [Sem.run_bind, partsPE, Result.andThen]
  simp [ReflectliteValue.isNil, loadVar, isAgg, underlying, Tryz.underlying77, ha, Result.andThen]
theorem elemPE (w : World) : (ReflectliteType.method ReflectliteType.elem #[.agg #[hnd 77]]).run Tryz.prog w = .ok (.iface 158 (.agg #[hnd 23])) w := by kernel_rfl
theorem implE (w : World) : (ReflectliteType.relation "Implements" ReflectliteType.implements_ #[.agg #[hnd 23], .iface 158 (.agg #[hnd 39])]).run Tryz.prog w = .ok (.bool true) w := by kernel_rfl
theorem implF (w : World) : (ReflectliteType.relation "Implements" ReflectliteType.implements_ #[.agg #[hnd 122], .iface 158 (.agg #[hnd 39])]).run Tryz.prog w = .ok (.bool true) w := by kernel_rfl
theorem typeOfF (v : Value) (w : World) : (ReflectliteType.typeOf #[.iface 122 v]).run Tryz.prog w = .ok (.iface 158 (.agg #[hnd 122])) w := by kernel_rfl
theorem typeOfE (v : Value) (w : World) : (ReflectliteType.typeOf #[.iface 23 v]).run Tryz.prog w = .ok (.iface 158 (.agg #[hnd 23])) w := by kernel_rfl
theorem assignFF (w : World) : (ReflectliteType.relation "AssignableTo" ReflectliteType.assignableTo #[.agg #[hnd 122], .iface 158 (.agg #[hnd 122])]).run Tryz.prog w = .ok (.bool true) w := by kernel_rfl
theorem assignFE (w : World) : (ReflectliteType.relation "AssignableTo" ReflectliteType.assignableTo #[.agg #[hnd 122], .iface 158 (.agg #[hnd 23])]).run Tryz.prog w = .ok (.bool false) w := by kernel_rfl
theorem assignEE (w : World) : (ReflectliteType.relation "AssignableTo" ReflectliteType.assignableTo #[.agg #[hnd 23], .iface 158 (.agg #[hnd 23])]).run Tryz.prog w = .ok (.bool true) w := by kernel_rfl
theorem noAs (v : Value) (xT : TypeId) (w : World) : (Instr.typeAssert (.iface 122 v) xT 163 true).run Tryz.prog w = .ok (.tuple #[.nilIface, .bool false]) w := run_typeAssert_lacksB Tryz.underlying163 (by kernel_rfl) (by kernel_rfl) v xT w
theorem hasUnwrap (v : Value) (xT : TypeId) (w : World) : (Instr.typeAssert (.iface 122 v) xT 166 true).run Tryz.prog w = .ok (.tuple #[.iface 122 v, .bool true]) w := run_typeAssert_hasB Tryz.underlying166 (by kernel_rfl) v xT w
theorem elemOfPE (w : World) : (Rtype.elem? 77).run Tryz.prog w = .ok (some 23) w := by kernel_rfl
theorem mkE (p : Addr) (w : World) : (ReflectliteValue.mk 23 p ReflectliteValue.flagAddr).run Tryz.prog w = .ok (.agg #[hnd 23, .pointer (some p), .int .u64 386]) w := by kernel_rfl
theorem mkF (p : Addr) (w : World) : (ReflectliteValue.mk 122 p ReflectliteValue.flagAddr).run Tryz.prog w = .ok (.agg #[hnd 122, .pointer (some p), .int .u64 406]) w := by kernel_rfl
theorem elemVPE (a p : Addr) (W : World) (ha : W.cell? a = some (.pointer (some p))) :
    (ReflectliteValue.method (ReflectliteValue.valueError "reflectlite.Value.Elem" 0) ReflectliteValue.elem #[.agg #[hnd 77, .pointer (some a), .int .u64 150]]).run Tryz.prog W
      = .ok (.agg #[hnd 23, .pointer (some p), .int .u64 386]) W := by
  show (Bind.bind (ReflectliteValue.parts (.agg #[hnd 77, .pointer (some a), .int .u64 150])) _ : Sem Value).run _ _ = _
  simp only [Sem.run_bind, partsPE, Result.andThen]
  simp [ReflectliteValue.elem, loadVar, isAgg, underlying, Tryz.underlying77, ha, Result.andThen, elemOfPE, mkE]
theorem partsEa (a : Addr) (w : World) : (ReflectliteValue.parts (.agg #[hnd 23, .pointer (some a), .int .u64 386])).run Tryz.prog w = .ok (some (23, a, 386)) w := by kernel_rfl
theorem partsE (a : Addr) (w : World) : (ReflectliteValue.parts (.agg #[hnd 23, .pointer (some a), .int .u64 130])).run Tryz.prog w = .ok (some (23, a, 130)) w := by kernel_rfl
theorem partsFa (a : Addr) (w : World) : (ReflectliteValue.parts (.agg #[hnd 122, .pointer (some a), .int .u64 406])).run Tryz.prog w = .ok (some (122, a, 406)) w := by kernel_rfl
theorem partsF (a : Addr) (w : World) : (ReflectliteValue.parts (.agg #[hnd 122, .pointer (some a), .int .u64 150])).run Tryz.prog w = .ok (some (122, a, 150)) w := by kernel_rfl
theorem directE (w : World) : (Rtype.directlyAssignable 23 23).run Tryz.prog w = .ok true w := by kernel_rfl
theorem directF (w : World) : (Rtype.directlyAssignable 122 122).run Tryz.prog w = .ok true w := by kernel_rfl
theorem setE (ta b : Addr) (c : Int) (old : Value) (W : World) (hb : W.cell? b = some (.int .i64 c)) (ht : W.cell? ta = some old) (hf : W.frozen? ta = false) :
    (ReflectliteValue.set #[.agg #[hnd 23, .pointer (some ta), .int .u64 386], .agg #[hnd 23, .pointer (some b), .int .u64 130]]).run Tryz.prog W
      = .ok (.tuple #[]) (W.setCell ta (.int .i64 c)) := by
  show (Bind.bind (ReflectliteValue.parts (.agg #[hnd 23, .pointer (some ta), .int .u64 386])) fun _ => Bind.bind (ReflectliteValue.parts (.agg #[hnd 23, .pointer (some b), .int .u64 130])) _ : Sem Value).run _ _ = _
  simp only [Sem.run_bind, partsEa, partsE, Result.andThen]
  simp [ReflectliteValue.flagAddr, loadVar, isAgg, underlying, Tryz.underlying23, hb, Result.andThen, directE, storeVar, Value.cells, storeCells, Addr.add]
  rw [run_store Tryz.prog W ta _ _ (by rfl)]
  simp [ht, hf]
theorem setF (ta b e : Addr) (old : Value) (W : World) (hb : W.cell? b = some (.pointer (some e))) (ht : W.cell? ta = some old) (hf : W.frozen? ta = false) :
    (ReflectliteValue.set #[.agg #[hnd 122, .pointer (some ta), .int .u64 406], .agg #[hnd 122, .pointer (some b), .int .u64 150]]).run Tryz.prog W
      = .ok (.tuple #[]) (W.setCell ta (.pointer (some e))) := by
  show (Bind.bind (ReflectliteValue.parts (.agg #[hnd 122, .pointer (some ta), .int .u64 406])) fun _ => Bind.bind (ReflectliteValue.parts (.agg #[hnd 122, .pointer (some b), .int .u64 150])) _ : Sem Value).run _ _ = _
  simp only [Sem.run_bind, partsFa, partsF, Result.andThen]
  simp [ReflectliteValue.flagAddr, loadVar, isAgg, underlying, Tryz.underlying122, hb, Result.andThen, directF, storeVar, Value.cells, storeCells, Addr.add]
  rw [run_store Tryz.prog W ta _ _ (by rfl)]
  simp [ht, hf]
end As
theorem as_nil (t : Value) (w : World) :
    Calls Tryz.prog 45 #[.nilIface, t] w fun e w' => e = .returned (.bool false) ∧ w' = w := by
  go_enter Tryz.func45, Tryz.ntmps45
  go_wp2
  go_ret
  exact ⟨rfl, rfl⟩
end Go.Proofs.YtbbmoaipilmmdaaGreatDoor

/- api.Code and api.Place of no error and of a Fault. -/
namespace Go.Proofs.YtbbmoaipilmmdaaGreatDoor
open Go.RowKit Go.Extern.Stop Go.Stop Go.Extern
set_option linter.unusedVariables false
/-- errors' own variable holds the handle of the type error -/
def ErrVar (w : World) : Prop := w.cell? ⟨2, 0, none⟩ = some (.iface 158 (.agg #[As.hnd 39]))
theorem cell_lt {w : World} {a : Addr} {v : Value} (h : w.cell? a = some v) : a.block < w.heap.size := by
  rcases Nat.lt_or_ge a.block w.heap.size with q | q
  · exact q
  · simp [World.cell?, Array.getElem?_eq_none q] at h
theorem unwrap_any (g : Nat) (v : Value) (w : World) (he : w.cell? ⟨g, 1, none⟩ = some v) :
    Calls Tryz.prog 153 #[.pointer (some ⟨g, 0, none⟩)] w fun x w' => x = .returned v ∧ w' = w := by
  go_enter Tryz.func153, Tryz.ntmps153
  go_wp2
  go_ret
  exact ⟨rfl, rfl⟩
set_option maxHeartbeats 4000000 in
set_option maxRecDepth 10000 in
theorem asErrno (g : Nat) (t : Addr) (c : Int) (old : Value) (w : World) (he : w.cell? ⟨g, 1, none⟩ = some (.iface 23 (.int .i64 c))) (hg : ErrVar w) (ht0 : w.cell? t = some old) (hf0 : w.frozen? t = false) :
    Calls Tryz.prog 45 #[.iface 122 (.pointer (some ⟨g, 0, none⟩)), .iface 77 (.pointer (some t))] w fun ev w' => ev = .returned (.bool true) ∧ w' = ((((w.alloc (.cells #[.pointer (some t)] 77)).alloc (.cells #[As.hnd 77, .pointer (some ⟨w.heap.size, 0, none⟩), .int .u64 150] 132)).alloc (.cells #[As.hnd 77, .pointer (some ⟨w.heap.size, 0, none⟩), .int .u64 150] 132)).alloc (.cells #[.int .i64 c] 23)).setCell t (.int .i64 c) := by
  have h6 := @run_callFunc_extern Tryz.prog 88 _ (fun args => ReflectliteValue.unpack (args.getD 0 (.tuple #[]))) Tryz.func88 (by kernel_rfl) (by kernel_rfl) (by kernel_rfl) (by kernel_rfl)
  have h7 := @run_callFunc_extern Tryz.prog 89 _ (ReflectliteValue.methodAny (ReflectliteValue.valueError "reflectlite.Value.Type" 0) (fun t _ _ _ => ReflectliteType.toType t)) Tryz.func89 (by kernel_rfl) (by kernel_rfl) (by kernel_rfl) (by kernel_rfl)
  have h8 := @run_callFunc_extern Tryz.prog 90 _ (ReflectliteValue.method (ReflectliteValue.valueError "reflectlite.Value.IsNil" 0) ReflectliteValue.isNil) Tryz.func90 (by kernel_rfl) (by kernel_rfl) (by kernel_rfl) (by kernel_rfl)
  have h27 := @run_callFunc_extern Tryz.prog 148 _ (ReflectliteType.abiMethod fun t => do pure (.int .u8 (← Rtype.kind t))) Tryz.func148 (by kernel_rfl) (by kernel_rfl) (by kernel_rfl) (by kernel_rfl)
  have h37 := @run_callFunc_extern Tryz.prog 160 _ (ReflectliteType.method ReflectliteType.elem) Tryz.func160 (by kernel_rfl) (by kernel_rfl) (by kernel_rfl) (by kernel_rfl)
  have h38 := @run_callFunc_extern Tryz.prog 161 _ (ReflectliteType.relation "Implements" ReflectliteType.implements_) Tryz.func161 (by kernel_rfl) (by kernel_rfl) (by kernel_rfl) (by kernel_rfl)
  have h10 := @run_callFunc_extern Tryz.prog 115 _ ReflectliteType.typeOf Tryz.func115 (by kernel_rfl) (by kernel_rfl) (by kernel_rfl) (by kernel_rfl)
  have h35 := @run_callFunc_extern Tryz.prog 158 _ (ReflectliteType.relation "AssignableTo" ReflectliteType.assignableTo) Tryz.func158 (by kernel_rfl) (by kernel_rfl) (by kernel_rfl) (by kernel_rfl)
  have h11 := @run_callFunc_extern Tryz.prog 116 _ (ReflectliteValue.method (ReflectliteValue.valueError "reflectlite.Value.Elem" 0) ReflectliteValue.elem) Tryz.func116 (by kernel_rfl) (by kernel_rfl) (by kernel_rfl) (by kernel_rfl)
  have h12 := @run_callFunc_extern Tryz.prog 117 _ ReflectliteValue.set Tryz.func117 (by kernel_rfl) (by kernel_rfl) (by kernel_rfl) (by kernel_rfl)
  have tO := As.typeOfF
  have tE := As.typeOfE
  have nA := As.noAs
  have hU := As.hasUnwrap
  have mU := As.methodUnwrap
  have mA := As.methodAssignableTo
  have a25 := As.assignFE
  have aEE := As.assignEE
  have v25 := As.valueE
  have f6 := As.valuePE
  have f7 := As.typePE
  have mK := As.methodKind
  have mE := As.methodElem
  have mI := As.methodImplements
  have k27 := As.kindPE
  have k25 := As.kindE
  have e27 := As.elemPE
  have i25 := As.implE
  have n8 := As.isNilPE ⟨w.heap.size, 0, none⟩ t ((w.alloc (.cells #[.pointer (some t)] 77)).alloc (.cells #[As.hnd 77, .pointer (some ⟨w.heap.size, 0, none⟩), .int .u64 150] 132)) (by simp)
  have hlt := cell_lt hg
  have hg2 : ((w.alloc (.cells #[.pointer (some t)] 77)).alloc (.cells #[As.hnd 77, .pointer (some ⟨w.heap.size, 0, none⟩), .int .u64 150] 132)).cell? ⟨2, 0, none⟩ = some (.iface 158 (.agg #[As.hnd 39])) := by
    rw [World.cell?_alloc_lt _ _ ⟨2, 0, none⟩ (by simp at hlt ⊢ <;> omega), World.cell?_alloc_lt _ _ ⟨2, 0, none⟩ hlt]; exact hg
  have htl := cell_lt ht0
  have el := As.elemVPE ⟨w.heap.size, 0, none⟩ t (((w.alloc (.cells #[.pointer (some t)] 77)).alloc (.cells #[As.hnd 77, .pointer (some ⟨w.heap.size, 0, none⟩), .int .u64 150] 132)).alloc (.cells #[As.hnd 77, .pointer (some ⟨w.heap.size, 0, none⟩), .int .u64 150] 132)) (by rw [World.cell?_alloc_lt _ _ ⟨w.heap.size, 0, none⟩ (by simp; omega)]; simp)
  have st := As.setE t ⟨w.heap.size + 1 + 1 + 1, 0, none⟩ c old ((((w.alloc (.cells #[.pointer (some t)] 77)).alloc (.cells #[As.hnd 77, .pointer (some ⟨w.heap.size, 0, none⟩), .int .u64 150] 132)).alloc (.cells #[As.hnd 77, .pointer (some ⟨w.heap.size, 0, none⟩), .int .u64 150] 132)).alloc (.cells #[.int .i64 c] 23))
    (by rw [World.cell?_alloc_at _ _ _ _ (by simp)]; rfl)
    (by rw [World.cell?_alloc_lt _ _ t (by simp; omega), World.cell?_alloc_lt _ _ t (by simp; omega), World.cell?_alloc_lt _ _ t (by simp; omega), World.cell?_alloc_lt _ _ t htl]; exact ht0)
    (by rw [World.frozen?_alloc_old _ _ t (by simp; omega), World.frozen?_alloc_old _ _ t (by simp; omega), World.frozen?_alloc_old _ _ t (by simp; omega), World.frozen?_alloc_old _ _ t (Nat.ne_of_lt htl)]; exact hf0)
  go_enter Tryz.func45, Tryz.ntmps45
  go_wp2
  have hgl := cell_lt he
  have uc := unwrap_any g (.iface 23 (.int .i64 c)) (((w.alloc (.cells #[.pointer (some t)] 77)).alloc (.cells #[As.hnd 77, .pointer (some ⟨w.heap.size, 0, none⟩), .int .u64 150] 132)).alloc (.cells #[As.hnd 77, .pointer (some ⟨w.heap.size, 0, none⟩), .int .u64 150] 132))
    (by rw [World.cell?_alloc_lt _ _ ⟨g, 1, none⟩ (by simp at hgl ⊢ <;> omega), World.cell?_alloc_lt _ _ ⟨g, 1, none⟩ (by simp at hgl ⊢ <;> omega), World.cell?_alloc_lt _ _ ⟨g, 1, none⟩ hgl]; exact he)
  refine wp_loop_rounds 2 ?_
  rw [rounds_succ]
  go_wp2_with fail
  refine uc.mono ?_
  rintro x w' ⟨rfl, rfl⟩
  clear uc
  go_wp2
  rw [rounds_succ]
  go_wp2
  go_ret
  exact ⟨rfl, rfl⟩
end Go.Proofs.YtbbmoaipilmmdaaGreatDoor

/- api.Wrap, api.Code, api.Place: a Fault with its place and number. -/
namespace Go.Proofs.YtbbmoaipilmmdaaGreatDoor
open Go.ChangeShapes Go.WideShapes Go.ChangeAt Go.RowKit
set_option linter.unusedVariables false
/-- block g is a Fault: a place, a number -/
def FaultAt (w : World) (g : Nat) (p c : Int) : Prop := w.cell? ⟨g, 0, none⟩ = some (.int .i64 p) ∧ w.cell? ⟨g, 1, none⟩ = some (.iface 23 (.int .i64 c))
theorem FaultAt.later {w w' : World} {g : Nat} {p c : Int} (h : FaultAt w g p c) (hb : Below w.heap.size w w') : FaultAt w' g p c :=
  ⟨(hb.cell (p := ⟨g, 0, none⟩) (cell_lt h.1)).trans h.1, (hb.cell (p := ⟨g, 1, none⟩) (cell_lt h.2)).trans h.2⟩
theorem ErrVar.later {w w' : World} (h : ErrVar w) (hb : Below w.heap.size w w') : ErrVar w' := (hb.cell (p := ⟨2, 0, none⟩) (cell_lt h)).trans h
theorem wrapF_any (p c : Int) (w : World) :
    Calls Tryz.prog 41 #[.int .i64 p, .int .i64 c] w fun e w' => ∃ g, e = .returned (.iface 122 (.pointer (some ⟨g, 0, none⟩))) ∧ FaultAt w' g p c ∧ Below w.heap.size w w' := by
  go_enter Tryz.func41, Tryz.ntmps41
  go_wp2
  go_ret
  exact ⟨_, rfl, ⟨by simp, by simp⟩, (Below.refl _ _).alloc (Nat.le_refl _) _⟩
theorem asErrnoQ (g t : Nat) (c : Int) (old : Value) (w : World) (he : w.cell? ⟨g, 1, none⟩ = some (.iface 23 (.int .i64 c))) (hg : ErrVar w) (ht0 : w.cell? ⟨t, 0, none⟩ = some old) (hf0 : w.frozen? ⟨t, 0, none⟩ = false) :
    Calls Tryz.prog 45 #[.iface 122 (.pointer (some ⟨g, 0, none⟩)), .iface 77 (.pointer (some ⟨t, 0, none⟩))] w fun ev w' => ev = .returned (.bool true) ∧ w'.cell? ⟨t, 0, none⟩ = some (.int .i64 c) ∧ In t (t + 1) w w' := by
  refine (asErrno g ⟨t, 0, none⟩ c old w he hg ht0 hf0).mono ?_
  rintro ev w' ⟨rfl, rfl⟩
  have hlt := cell_lt ht0
  have hB : Below w.heap.size w ((((w.alloc (.cells #[.pointer (some ⟨t, 0, none⟩)] 77)).alloc (.cells #[As.hnd 77, .pointer (some ⟨w.heap.size, 0, none⟩), .int .u64 150] 132)).alloc (.cells #[As.hnd 77, .pointer (some ⟨w.heap.size, 0, none⟩), .int .u64 150] 132)).alloc (.cells #[.int .i64 c] 23)) :=
    ((((Below.refl _ _).alloc (Nat.le_refl _) _).alloc (by simp) _).alloc (by simp; omega) _).alloc (by simp; omega) _
  refine ⟨rfl, World.cell?_setCell_same _ _ _ ((hB.cell (p := ⟨t, 0, none⟩) hlt).trans ht0), ?_⟩
  exact (In.of_below hB).set1 _ _
theorem codeNil_any (w : World) :
    Calls Tryz.prog 16 #[.nilIface] w fun e w' => e = .returned (.int .i64 0) ∧ Below w.heap.size w w' := by
  go_enter Tryz.func16, Tryz.ntmps16
  go_wp2
  go_ret
  exact ⟨rfl, (Below.refl _ _).alloc (Nat.le_refl _) _⟩
set_option maxHeartbeats 1000000 in
theorem codeFault_any {g : Nat} {p c : Int} {w : World} (hF : FaultAt w g p c) (hg : ErrVar w) :
    Calls Tryz.prog 16 #[.iface 122 (.pointer (some ⟨g, 0, none⟩))] w fun e w' => e = .returned (.int .i64 c) ∧ Below w.heap.size w w' := by
  have hB : Below w.heap.size w (w.alloc (.cells #[.int .i64 0] 23)) := (Below.refl _ _).alloc (Nat.le_refl _) _
  have ac := asErrnoQ g w.heap.size c (.int .i64 0) (w.alloc (.cells #[.int .i64 0] 23)) (hF.later hB).2 (hg.later hB) (by simp) (by simp)
  go_enter Tryz.func16, Tryz.ntmps16
  go_wp2_with fail
  refine ac.mono ?_
  rintro e w' ⟨rfl, hc, hi⟩
  have hB2 := below_inn hB hi (Nat.le_refl _) (Nat.le_refl _)
  clear ac hi
  go_wp2
  go_ret
  exact ⟨rfl, hB2⟩
end Go.Proofs.YtbbmoaipilmmdaaGreatDoor

import Derived.Test.YtndeimdfklhaiaaGreatDoorBaseA
import Derived.LaidEql
import Derived.Stop.Asserts
import Derived.RowKitTokens
import Derived.Test.YtndeimdfklhaiaaGreatDoorBaseB
import Derived.Test.YtndeimdfklhaiaaGreatDoorBaseE
/- api.Code and api.Place of no error and of a Fault: Go's own errors.As, walked. -/
namespace Go.Proofs.YtndeimdfklhaiaaGreatDoor
open Go.RowKit Go.Extern.Stop Go.Stop Go.Extern
set_option linter.unusedVariables false
namespace As
/-- the handle of a type -/
abbrev hnd (t : Nat) : Value := .pointer (some ⟨6, t, none⟩)
theorem valuePE (t : Addr) (w : World) : (ReflectliteValue.unpack (.iface 77 (.pointer (some t)))).run Tryz.prog w
    = .ok (.agg #[hnd 77, .pointer (some ⟨w.heap.size, 0, none⟩), .int .u64 150]) (w.alloc (.cells #[.pointer (some t)] 77)) := by kernel_rfl
theorem valueE (c : Int) (w : World) : (ReflectliteValue.unpack (.iface 23 (.int .i64 c))).run Tryz.prog w
    = .ok (.agg #[hnd 23, .pointer (some ⟨w.heap.size, 0, none⟩), .int .u64 130]) (w.alloc (.cells #[.int .i64 c] 23)) := by kernel_rfl
theorem valueF (e : Addr) (w : World) : (ReflectliteValue.unpack (.iface 122 (.pointer (some e)))).run Tryz.prog w
    = .ok (.agg #[hnd 122, .pointer (some ⟨w.heap.size, 0, none⟩), .int .u64 150]) (w.alloc (.cells #[.pointer (some e)] 122)) := by kernel_rfl
theorem typePE (a : Addr) (w : World) : (ReflectliteValue.methodAny (ReflectliteValue.valueError "reflectlite.Value.Type" 0) (fun t _ _ _ => ReflectliteType.toType t) #[.agg #[hnd 77, .pointer (some a), .int .u64 150]]).run Tryz.prog w
    = .ok (.iface 158 (.agg #[hnd 77])) w := by kernel_rfl
theorem methodKind (h : Value) (w : World) : (Go.method 311 158 (.agg #[h]) "Kind").run Tryz.prog w = .ok (148, h) w := by kernel_rfl
theorem methodElem (h : Value) (w : World) : (Go.method 311 158 (.agg #[h]) "Elem").run Tryz.prog w = .ok (160, .agg #[h]) w := by kernel_rfl
theorem methodImplements (h : Value) (w : World) : (Go.method 311 158 (.agg #[h]) "Implements").run Tryz.prog w = .ok (161, .agg #[h]) w := by kernel_rfl
theorem methodAssignableTo (h : Value) (w : World) : (Go.method 311 158 (.agg #[h]) "AssignableTo").run Tryz.prog w = .ok (158, .agg #[h]) w := by kernel_rfl
theorem methodUnwrap (a : Addr) (w : World) : (Go.method 311 122 (.pointer (some a)) "Unwrap").run Tryz.prog w = .ok (153, .pointer (some a)) w := by kernel_rfl
theorem kindPE (w : World) : ((ReflectliteType.abiMethod fun t => (fun a : Nat => Value.int IntKind.u8 (a : Int)) <$> Rtype.kind t) #[hnd 77]).run Tryz.prog w = .ok (.int .u8 22) w := by kernel_rfl
theorem kindE (w : World) : ((ReflectliteType.abiMethod fun t => (fun a : Nat => Value.int IntKind.u8 (a : Int)) <$> Rtype.kind t) #[hnd 23]).run Tryz.prog w = .ok (.int .u8 2) w := by kernel_rfl
theorem kindF (w : World) : ((ReflectliteType.abiMethod fun t => (fun a : Nat => Value.int IntKind.u8 (a : Int)) <$> Rtype.kind t) #[hnd 122]).run Tryz.prog w = .ok (.int .u8 22) w := by kernel_rfl
theorem partsPE (a : Addr) (w : World) : (ReflectliteValue.parts (.agg #[hnd 77, .pointer (some a), .int .u64 150])).run Tryz.prog w = .ok (some (77, a, 150)) w := by kernel_rfl
theorem isNilPE (a p : Addr) (W : World) (ha : W.cell? a = some (.pointer (some p))) :
    (ReflectliteValue.method (ReflectliteValue.valueError "reflectlite.Value.IsNil" 0) ReflectliteValue.isNil #[.agg #[hnd 77, .pointer (some a), .int .u64 150]]).run Tryz.prog W = .ok (.bool false) W := by
  show (Bind.bind (ReflectliteValue.parts (.agg #[hnd 77, .pointer (some a), .int .u64 150])) _ : Sem Value).run _ _ = _
  simp only [Sem.run_bind, partsPE, Result.andThen]
  simp [ReflectliteValue.isNil, loadVar, isAgg, underlying, Tryz.underlying77, ha, Result.andThen]
theorem elemPE (w : World) : (ReflectliteType.method ReflectliteType.elem #[.agg #[hnd 77]]).run Tryz.prog w = .ok (.iface 158 (.agg #[hnd 23])) w := by kernel_rfl
theorem implE (w : World) : (ReflectliteType.relation "Implements" ReflectliteType.implements_ #[.agg #[hnd 23], .iface 158 (.agg #[hnd 39])]).run Tryz.prog w = .ok (.bool true) w := by kernel_rfl
theorem implF (w : World) : (ReflectliteType.relation "Implements" ReflectliteType.implements_ #[.agg #[hnd 122], .iface 158 (.agg #[hnd 39])]).run Tryz.prog w = .ok (.bool true) w := by kernel_rfl
theorem typeOfF (v : Value) (w : World) : (ReflectliteType.typeOf #[.iface 122 v]).run Tryz.prog w = .ok (.iface 158 (.agg #[hnd 122])) w := by kernel_rfl
theorem typeOfE (v : Value) (w : World) : (ReflectliteType.typeOf #[.iface 23 v]).run Tryz.prog w = .ok (.iface 158 (.agg #[hnd 23])) w := by kernel_rfl
theorem assignFF (w : World) : (ReflectliteType.relation "AssignableTo" ReflectliteType.assignableTo #[.agg #[hnd 122], .iface 158 (.agg #[hnd 122])]).run Tryz.prog w = .ok (.bool true) w := by kernel_rfl
theorem assignFE (w : World) : (ReflectliteType.relation "AssignableTo" ReflectliteType.assignableTo #[.agg #[hnd 122], .iface 158 (.agg #[hnd 23])]).run Tryz.prog w = .ok (.bool false) w := by kernel_rfl
theorem assignEE (w : World) : (ReflectliteType.relation "AssignableTo" ReflectliteType.assignableTo #[.agg #[hnd 23], .iface 158 (.agg #[hnd 23])]).run Tryz.prog w = .ok (.bool true) w := by kernel_rfl
theorem noAs (v : Value) (xT : TypeId) (w : World) : (Instr.typeAssert (.iface 122 v) xT 163 true).run Tryz.prog w = .ok (.tuple #[.nilIface, .bool false]) w := run_typeAssert_lacksB Tryz.underlying163 (by kernel_rfl) (by kernel_rfl) v xT w
theorem hasUnwrap (v : Value) (xT : TypeId) (w : World) : (Instr.typeAssert (.iface 122 v) xT 166 true).run Tryz.prog w = .ok (.tuple #[.iface 122 v, .bool true]) w := run_typeAssert_hasB Tryz.underlying166 (by kernel_rfl) v xT w
theorem elemOfPE (w : World) : (Rtype.elem? 77).run Tryz.prog w = .ok (some 23) w := by kernel_rfl
theorem mkE (p : Addr) (w : World) : (ReflectliteValue.mk 23 p ReflectliteValue.flagAddr).run Tryz.prog w = .ok (.agg #[hnd 23, .pointer (some p), .int .u64 386]) w := by kernel_rfl
theorem mkF (p : Addr) (w : World) : (ReflectliteValue.mk 122 p ReflectliteValue.flagAddr).run Tryz.prog w = .ok (.agg #[hnd 122, .pointer (some p), .int .u64 406]) w := by kernel_rfl
theorem elemVPE (a p : Addr) (W : World) (ha : W.cell? a = some (.pointer (some p))) :
    (ReflectliteValue.method (ReflectliteValue.valueError "reflectlite.Value.Elem" 0) ReflectliteValue.elem #[.agg #[hnd 77, .pointer (some a), .int .u64 150]]).run Tryz.prog W
      = .ok (.agg #[hnd 23, .pointer (some p), .int .u64 386]) W := by
  show (Bind.bind (ReflectliteValue.parts (.agg #[hnd 77, .pointer (some a), .int .u64 150])) _ : Sem Value).run _ _ = _
  simp only [Sem.run_bind, partsPE, Result.andThen]
  simp [ReflectliteValue.elem, loadVar, isAgg, underlying, Tryz.underlying77, ha, Result.andThen, elemOfPE, mkE]
theorem partsEa (a : Addr) (w : World) : (ReflectliteValue.parts (.agg #[hnd 23, .pointer (some a), .int .u64 386])).run Tryz.prog w = .ok (some (23, a, 386)) w := by kernel_rfl
theorem partsE (a : Addr) (w : World) : (ReflectliteValue.parts (.agg #[hnd 23, .pointer (some a), .int .u64 130])).run Tryz.prog w = .ok (some (23, a, 130)) w := by kernel_rfl
theorem partsFa (a : Addr) (w : World) : (ReflectliteValue.parts (.agg #[hnd 122, .pointer (some a), .int .u64 406])).run Tryz.prog w = .ok (some (122, a, 406)) w := by kernel_rfl
theorem partsF (a : Addr) (w : World) : (ReflectliteValue.parts (.agg #[hnd 122, .pointer (some a), .int .u64 150])).run Tryz.prog w = .ok (some (122, a, 150)) w := by kernel_rfl
theorem directE (w : World) : (Rtype.directlyAssignable 23 23).run Tryz.prog w = .ok true w := by kernel_rfl
theorem directF (w : World) : (Rtype.directlyAssignable 122 122).run Tryz.prog w = .ok true w := by kernel_rfl
theorem setE (ta b : Addr) (c : Int) (old : Value) (W : World) (hb : W.cell? b = some (.int .i64 c)) (ht : W.cell? ta = some old) (hf : W.frozen? ta = false) :
    (ReflectliteValue.set #[.agg #[hnd 23, .pointer (some ta), .int .u64 386], .agg #[hnd 23, .pointer (some b), .int .u64 130]]).run Tryz.prog W
      = .ok (.tuple #[]) (W.setCell ta (.int .i64 c)) := by
  show (Bind.bind (ReflectliteValue.parts (.agg #[hnd 23, .pointer (some ta), .int .u64 386])) fun _ => Bind.bind (ReflectliteValue.parts (.agg #[hnd 23, .pointer (some b), .int .u64 130])) _ : Sem Value).run _ _ = _
  simp only [Sem.run_bind, partsEa, partsE, Result.andThen]
  simp [ReflectliteValue.flagAddr, loadVar, isAgg, underlying, Tryz.underlying23, hb, Result.andThen, directE, storeVar, Value.cells, storeCells, Addr.add]
  rw [run_store Tryz.prog W ta _ _ (by rfl)]
  simp [ht, hf]
theorem setF (ta b e : Addr) (old : Value) (W : World) (hb : W.cell? b = some (.pointer (some e))) (ht : W.cell? ta = some old) (hf : W.frozen? ta = false) :
    (ReflectliteValue.set #[.agg #[hnd 122, .pointer (some ta), .int .u64 406], .agg #[hnd 122, .pointer (some b), .int .u64 150]]).run Tryz.prog W
      = .ok (.tuple #[]) (W.setCell ta (.pointer (some e))) := by
  show (Bind.bind (ReflectliteValue.parts (.agg #[hnd 122, .pointer (some ta), .int .u64 406])) fun _ => Bind.bind (ReflectliteValue.parts (.agg #[hnd 122, .pointer (some b), .int .u64 150])) _ : Sem Value).run _ _ = _
  simp only [Sem.run_bind, partsFa, partsF, Result.andThen]
  simp [ReflectliteValue.flagAddr, loadVar, isAgg, underlying, Tryz.underlying122, hb, Result.andThen, directF, storeVar, Value.cells, storeCells, Addr.add]
  rw [run_store Tryz.prog W ta _ _ (by rfl)]
  simp [ht, hf]
end As
theorem as_nil (t : Value) (w : World) :
    Calls Tryz.prog 44 #[.nilIface, t] w fun e w' => e = .returned (.bool false) ∧ w' = w := by
  go_enter Tryz.func44, Tryz.ntmps44
  go_wp2
  go_ret
  exact ⟨rfl, rfl⟩
end Go.Proofs.YtndeimdfklhaiaaGreatDoor

/- api.Code and api.Place of no error and of a Fault. -/
namespace Go.Proofs.YtndeimdfklhaiaaGreatDoor
open Go.RowKit Go.Extern.Stop Go.Stop Go.Extern
set_option linter.unusedVariables false
/-- errors' own variable holds the handle of the type error -/
def ErrVar (w : World) : Prop := w.cell? ⟨2, 0, none⟩ = some (.iface 158 (.agg #[As.hnd 39]))
theorem cell_lt {w : World} {a : Addr} {v : Value} (h : w.cell? a = some v) : a.block < w.heap.size := by
  rcases Nat.lt_or_ge a.block w.heap.size with q | q
  · exact q
  · simp [World.cell?, Array.getElem?_eq_none q] at h
theorem unwrap_any (g : Nat) (v : Value) (w : World) (he : w.cell? ⟨g, 1, none⟩ = some v) :
    Calls Tryz.prog 153 #[.pointer (some ⟨g, 0, none⟩)] w fun x w' => x = .returned v ∧ w' = w := by
  go_enter Tryz.func153, Tryz.ntmps153
  go_wp2
  go_ret
  exact ⟨rfl, rfl⟩
set_option maxHeartbeats 4000000 in
set_option maxRecDepth 10000 in
theorem asErrno (g : Nat) (t : Addr) (c : Int) (old : Value) (w : World) (he : w.cell? ⟨g, 1, none⟩ = some (.iface 23 (.int .i64 c))) (hg : ErrVar w) (ht0 : w.cell? t = some old) (hf0 : w.frozen? t = false) :
    Calls Tryz.prog 44 #[.iface 122 (.pointer (some ⟨g, 0, none⟩)), .iface 77 (.pointer (some t))] w fun ev w' => ev = .returned (.bool true) ∧ w' = ((((w.alloc (.cells #[.pointer (some t)] 77)).alloc (.cells #[As.hnd 77, .pointer (some ⟨w.heap.size, 0, none⟩), .int .u64 150] 132)).alloc (.cells #[As.hnd 77, .pointer (some ⟨w.heap.size, 0, none⟩), .int .u64 150] 132)).alloc (.cells #[.int .i64 c] 23)).setCell t (.int .i64 c) := by
  have h6 := @run_callFunc_extern Tryz.prog 86 _ (fun args => ReflectliteValue.unpack (args.getD 0 (.tuple #[]))) Tryz.func86 (by kernel_rfl) (by kernel_rfl) (by kernel_rfl) (by kernel_rfl)
  have h7 := @run_callFunc_extern Tryz.prog 87 _ (ReflectliteValue.methodAny (ReflectliteValue.valueError "reflectlite.Value.Type" 0) (fun t _ _ _ => ReflectliteType.toType t)) Tryz.func87 (by kernel_rfl) (by kernel_rfl) (by kernel_rfl) (by kernel_rfl)
  have h8 := @run_callFunc_extern Tryz.prog 88 _ (ReflectliteValue.method (ReflectliteValue.valueError "reflectlite.Value.IsNil" 0) ReflectliteValue.isNil) Tryz.func88 (by kernel_rfl) (by kernel_rfl) (by kernel_rfl) (by kernel_rfl)
  have h27 := @run_callFunc_extern Tryz.prog 148 _ (ReflectliteType.abiMethod fun t => do pure (.int .u8 (← Rtype.kind t))) Tryz.func148 (by kernel_rfl) (by kernel_rfl) (by kernel_rfl) (by kernel_rfl)
  have h37 := @run_callFunc_extern Tryz.prog 160 _ (ReflectliteType.method ReflectliteType.elem) Tryz.func160 (by kernel_rfl) (by kernel_rfl) (by kernel_rfl) (by kernel_rfl)
  have h38 := @run_callFunc_extern Tryz.prog 161 _ (ReflectliteType.relation "Implements" ReflectliteType.implements_) Tryz.func161 (by kernel_rfl) (by kernel_rfl) (by kernel_rfl) (by kernel_rfl)
  have h10 := @run_callFunc_extern Tryz.prog 114 _ ReflectliteType.typeOf Tryz.func114 (by kernel_rfl) (by kernel_rfl) (by kernel_rfl) (by kernel_rfl)
  have h35 := @run_callFunc_extern Tryz.prog 158 _ (ReflectliteType.relation "AssignableTo" ReflectliteType.assignableTo) Tryz.func158 (by kernel_rfl) (by kernel_rfl) (by kernel_rfl) (by kernel_rfl)
  have h11 := @run_callFunc_extern Tryz.prog 115 _ (ReflectliteValue.method (ReflectliteValue.valueError "reflectlite.Value.Elem" 0) ReflectliteValue.elem) Tryz.func115 (by kernel_rfl) (by kernel_rfl) (by kernel_rfl) (by kernel_rfl)
  have h12 := @run_callFunc_extern Tryz.prog 116 _ ReflectliteValue.set Tryz.func116 (by kernel_rfl) (by kernel_rfl) (by kernel_rfl) (by kernel_rfl)
  have tO := As.typeOfF
  have tE := As.typeOfE
  have nA := As.noAs
  have hU := As.hasUnwrap
  have mU := As.methodUnwrap
  have mA := As.methodAssignableTo
  have a25 := As.assignFE
  have aEE := As.assignEE
  have v25 := As.valueE
  have f6 := As.valuePE
  have f7 := As.typePE
  have mK := As.methodKind
  have mE := As.methodElem
  have mI := As.methodImplements
  have k27 := As.kindPE
  have k25 := As.kindE
  have e27 := As.elemPE
  have i25 := As.implE
  have n8 := As.isNilPE ⟨w.heap.size, 0, none⟩ t ((w.alloc (.cells #[.pointer (some t)] 77)).alloc (.cells #[As.hnd 77, .pointer (some ⟨w.heap.size, 0, none⟩), .int .u64 150] 132)) (by simp)
  have hlt := cell_lt hg
  have hg2 : ((w.alloc (.cells #[.pointer (some t)] 77)).alloc (.cells #[As.hnd 77, .pointer (some ⟨w.heap.size, 0, none⟩), .int .u64 150] 132)).cell? ⟨2, 0, none⟩ = some (.iface 158 (.agg #[As.hnd 39])) := by
    rw [World.cell?_alloc_lt _ _ ⟨2, 0, none⟩ (by simp at hlt ⊢ <;> omega), World.cell?_alloc_lt _ _ ⟨2, 0, none⟩ hlt]; exact hg
  have htl := cell_lt ht0
  have el := As.elemVPE ⟨w.heap.size, 0, none⟩ t (((w.alloc (.cells #[.pointer (some t)] 77)).alloc (.cells #[As.hnd 77, .pointer (some ⟨w.heap.size, 0, none⟩), .int .u64 150] 132)).alloc (.cells #[As.hnd 77, .pointer (some ⟨w.heap.size, 0, none⟩), .int .u64 150] 132)) (by rw [World.cell?_alloc_lt _ _ ⟨w.heap.size, 0, none⟩ (by simp; omega)]; simp)
  have st := As.setE t ⟨w.heap.size + 1 + 1 + 1, 0, none⟩ c old ((((w.alloc (.cells #[.pointer (some t)] 77)).alloc (.cells #[As.hnd 77, .pointer (some ⟨w.heap.size, 0, none⟩), .int .u64 150] 132)).alloc (.cells #[As.hnd 77, .pointer (some ⟨w.heap.size, 0, none⟩), .int .u64 150] 132)).alloc (.cells #[.int .i64 c] 23))
    (by rw [World.cell?_alloc_at _ _ _ _ (by simp)]; rfl)
    (by rw [World.cell?_alloc_lt _ _ t (by simp; omega), World.cell?_alloc_lt _ _ t (by simp; omega), World.cell?_alloc_lt _ _ t (by simp; omega), World.cell?_alloc_lt _ _ t htl]; exact ht0)
    (by rw [World.frozen?_alloc_old _ _ t (by simp; omega), World.frozen?_alloc_old _ _ t (by simp; omega), World.frozen?_alloc_old _ _ t (by simp; omega), World.frozen?_alloc_old _ _ t (Nat.ne_of_lt htl)]; exact hf0)
  go_enter Tryz.func44, Tryz.ntmps44
  go_wp2
  have hgl := cell_lt he
  have uc := unwrap_any g (.iface 23 (.int .i64 c)) (((w.alloc (.cells #[.pointer (some t)] 77)).alloc (.cells #[As.hnd 77, .pointer (some ⟨w.heap.size, 0, none⟩), .int .u64 150] 132)).alloc (.cells #[As.hnd 77, .pointer (some ⟨w.heap.size, 0, none⟩), .int .u64 150] 132))
    (by rw [World.cell?_alloc_lt _ _ ⟨g, 1, none⟩ (by simp at hgl ⊢ <;> omega), World.cell?_alloc_lt _ _ ⟨g, 1, none⟩ (by simp at hgl ⊢ <;> omega), World.cell?_alloc_lt _ _ ⟨g, 1, none⟩ hgl]; exact he)
  refine wp_loop_rounds 2 ?_
  rw [rounds_succ]
  go_wp2_with fail
  refine uc.mono ?_
  rintro x w' ⟨rfl, rfl⟩
  clear uc
  go_wp2
  rw [rounds_succ]
  go_wp2
  go_ret
  exact ⟨rfl, rfl⟩
end Go.Proofs.YtndeimdfklhaiaaGreatDoor

/- api.Wrap, api.Code, api.Place: a Fault with its place and number. -/
namespace Go.Proofs.YtndeimdfklhaiaaGreatDoor
open Go.ChangeShapes Go.WideShapes Go.ChangeAt Go.RowKit
set_option linter.unusedVariables false
/-- block g is a Fault: a place, a number -/
def FaultAt (w : World) (g : Nat) (p c : Int) : Prop := w.cell? ⟨g, 0, none⟩ = some (.int .i64 p) ∧ w.cell? ⟨g, 1, none⟩ = some (.iface 23 (.int .i64 c))
theorem FaultAt.later {w w' : World} {g : Nat} {p c : Int} (h : FaultAt w g p c) (hb : Below w.heap.size w w') : FaultAt w' g p c :=
  ⟨(hb.cell (p := ⟨g, 0, none⟩) (cell_lt h.1)).trans h.1, (hb.cell (p := ⟨g, 1, none⟩) (cell_lt h.2)).trans h.2⟩
theorem ErrVar.later {w w' : World} (h : ErrVar w) (hb : Below w.heap.size w w') : ErrVar w' := (hb.cell (p := ⟨2, 0, none⟩) (cell_lt h)).trans h
theorem wrapF_any (p c : Int) (w : World) :
    Calls Tryz.prog 40 #[.int .i64 p, .int .i64 c] w fun e w' => ∃ g, e = .returned (.iface 122 (.pointer (some ⟨g, 0, none⟩))) ∧ FaultAt w' g p c ∧ Below w.heap.size w w' := by
  go_enter Tryz.func40, Tryz.ntmps40
  go_wp2
  go_ret
  exact ⟨_, rfl, ⟨by simp, by simp⟩, (Below.refl _ _).alloc (Nat.le_refl _) _⟩
theorem asErrnoQ (g t : Nat) (c : Int) (old : Value) (w : World) (he : w.cell? ⟨g, 1, none⟩ = some (.iface 23 (.int .i64 c))) (hg : ErrVar w) (ht0 : w.cell? ⟨t, 0, none⟩ = some old) (hf0 : w.frozen? ⟨t, 0, none⟩ = false) :
    Calls Tryz.prog 44 #[.iface 122 (.pointer (some ⟨g, 0, none⟩)), .iface 77 (.pointer (some ⟨t, 0, none⟩))] w fun ev w' => ev = .returned (.bool true) ∧ w'.cell? ⟨t, 0, none⟩ = some (.int .i64 c) ∧ In t (t + 1) w w' := by
  refine (asErrno g ⟨t, 0, none⟩ c old w he hg ht0 hf0).mono ?_
  rintro ev w' ⟨rfl, rfl⟩
  have hlt := cell_lt ht0
  have hB : Below w.heap.size w ((((w.alloc (.cells #[.pointer (some ⟨t, 0, none⟩)] 77)).alloc (.cells #[As.hnd 77, .pointer (some ⟨w.heap.size, 0, none⟩), .int .u64 150] 132)).alloc (.cells #[As.hnd 77, .pointer (some ⟨w.heap.size, 0, none⟩), .int .u64 150] 132)).alloc (.cells #[.int .i64 c] 23)) :=
    ((((Below.refl _ _).alloc (Nat.le_refl _) _).alloc (by simp) _).alloc (by simp; omega) _).alloc (by simp; omega) _
  refine ⟨rfl, World.cell?_setCell_same _ _ _ ((hB.cell (p := ⟨t, 0, none⟩) hlt).trans ht0), ?_⟩
  exact (In.of_below hB).set1 _ _
theorem codeNil_any (w : World) :
    Calls Tryz.prog 16 #[.nilIface] w fun e w' => e = .returned (.int .i64 0) ∧ Below w.heap.size w w' := by
  go_enter Tryz.func16, Tryz.ntmps16
  go_wp2
  go_ret
  exact ⟨rfl, (Below.refl _ _).alloc (Nat.le_refl _) _⟩
set_option maxHeartbeats 1000000 in
theorem codeFault_any {g : Nat} {p c : Int} {w : World} (hF : FaultAt w g p c) (hg : ErrVar w) :
    Calls Tryz.prog 16 #[.iface 122 (.pointer (some ⟨g, 0, none⟩))] w fun e w' => e = .returned (.int .i64 c) ∧ Below w.heap.size w w' := by
  have hB : Below w.heap.size w (w.alloc (.cells #[.int .i64 0] 23)) := (Below.refl _ _).alloc (Nat.le_refl _) _
  have ac := asErrnoQ g w.heap.size c (.int .i64 0) (w.alloc (.cells #[.int .i64 0] 23)) (hF.later hB).2 (hg.later hB) (by simp) (by simp)
  go_enter Tryz.func16, Tryz.ntmps16
  go_wp2_with fail
  refine ac.mono ?_
  rintro e w' ⟨rfl, hc, hi⟩
  have hB2 := below_inn hB hi (Nat.le_refl _) (Nat.le_refl _)
  clear ac hi
  go_wp2
  go_ret
  exact ⟨rfl, hB2⟩
end Go.Proofs.YtndeimdfklhaiaaGreatDoor

/- radix.Parse in every case, with the error's place and number. -/
namespace Go.Proofs.YtndeimdfklhaiaaGreatDoor
open Go.ChangeShapes Go.WideShapes Go.ChangeAt Go.RowKit
open Na Ar
set_option linter.unusedVariables false
namespace Na
/-- the error's number and its place -/
def PCode (s : ByteArray) (b code p : Int) : Prop :=
  (¬ (2 ≤ b ∧ b ≤ 36) ∧ code = 40 ∧ p = 0) ∨
  ((2 ≤ b ∧ b ≤ 36) ∧ s.size = 0 ∧ code = 41 ∧ p = 0) ∨
  ((2 ≤ b ∧ b ≤ 36) ∧ ∃ i : Nat, i < s.size ∧ b ≤ dgt s i ∧ (∀ j, j < i → dgt s j < b) ∧ code = 41 ∧ p = i) ∨
  ((2 ≤ b ∧ b ≤ 36) ∧ (0 < s.size ∧ ∀ i, i < s.size → dgt s i < b) ∧ 4096 < (words (numB s b s.size)).length ∧ code = 21 ∧ p = 0) ∨
  ((2 ≤ b ∧ b ≤ 36) ∧ (0 < s.size ∧ ∀ i, i < s.size → dgt s i < b) ∧ (words (numB s b s.size)).length ≤ 4096 ∧ code = 0 ∧ p = -1)
theorem pcode_uniq {s : ByteArray} {b c p c' p' : Int} (h : PCode s b c p) (h' : PCode s b c' p') : c = c' ∧ p = p' := by
  rcases h with ⟨a1, a2, a3⟩ | ⟨a1, a0, a2, a3⟩ | ⟨a1, i, i1, i2, i3, a2, a3⟩ | ⟨a1, a0, al, a2, a3⟩ | ⟨a1, a0, al, a2, a3⟩ <;> rcases h' with ⟨b1, b2, b3⟩ | ⟨b1, b0, b2, b3⟩ | ⟨b1, j, j1, j2, j3, b2, b3⟩ | ⟨b1, b0, bl, b2, b3⟩ | ⟨b1, b0, bl, b2, b3⟩
  · omega
  · exact absurd b1 a1
  · exact absurd b1 a1
  · exact absurd b1 a1
  · exact absurd b1 a1
  · exact absurd a1 b1
  · omega
  · omega
  · omega
  · omega
  · exact absurd a1 b1
  · omega
  · have e : i = j := by
      rcases Nat.lt_trichotomy i j with q | q | q
      · have := j3 i q; omega
      · exact q
      · have := i3 j q; omega
    subst e
    omega
  · have := b0.2 i i1; omega
  · have := b0.2 i i1; omega
  · exact absurd a1 b1
  · omega
  · have := a0.2 j j1; omega
  · omega
  · omega
  · exact absurd a1 b1
  · omega
  · have := a0.2 j j1; omega
  · omega
  · omega
end Na
/-- what radix.Parse answers -/
def ParseRes (w : World) (T code p : Int) (e : Ending) (w' : World) : Prop :=
  ((code = 0 ∧ ∃ v, e = .returned (.tuple #[v, .nilIface]) ∧ Own .u64 w' w.heap.size 22 v (words T)) ∨
   (code ≠ 0 ∧ ∃ g, e = .returned (.tuple #[.slice none 0 0, .iface 122 (.pointer (some ⟨g, 0, none⟩))]) ∧ FaultAt w' g p code)) ∧ Below w.heap.size w w'
set_option maxHeartbeats 3200000 in
set_option maxRecDepth 100000 in
theorem parseG_any (s : ByteArray) (b : Int) (hb : 2 ≤ b) (hb9 : b ≤ 36) (hs : s.size ≤ 10000000) (h0 : 0 < s.size) (hd : ∀ i, i < s.size → dgt s i < b) (w : World) :
    Calls Tryz.prog 15 #[.string s, .int .i64 b] w fun e w' => ∃ code p, PCode s b code p ∧ ParseRes w (numB s b s.size) code p e w' := by
  have hk : knownB b = true := by unfold knownB; simp; omega
  have kc := known_any b w
  rw [hk] at kc
  have wc := wrong_any s b hb hb9 (by unfold maxLen; omega) w
  have HG : Hid (0 < s.size ∧ ∀ i, i < s.size → dgt s i < b) := ⟨h0, hd⟩
  go_enter Tryz.func15, Tryz.ntmps15
  go_wp2_with fail
  refine kc.mono ?_
  rintro e w' ⟨rfl, rfl⟩
  go_wp2_with fail
  refine wc.mono ?_
  rintro e w1 ⟨at', ok, rfl, hwr, hb1⟩
  have hok : ok = false := by
    rcases hwr with ⟨_, q1, q2, _⟩ | ⟨_, q1, _⟩ | ⟨q, _⟩
    · have := hd at' q1; omega
    · omega
    · exact q
  subst hok
  clear kc wc hk hwr
  go_wp2_with fail
  refine (trimLeft_any s w1).mono ?_
  rintro e w' ⟨t, rfl, ⟨k, hF, hz, hnz⟩, rfl⟩
  have hts := hF.size
  have hkk := hF.2
  have hT : Hid (numB t b t.size = numB s b s.size) := by
    show _ = _
    rw [numB_from hF hz, hts]
    congr 1; omega
  have htd : ∀ i, i < t.size → dgt t i < b := fun i hi => by rw [from_dgt hF]; exact hd _ (by omega)
  have htp : Hid (1 ≤ t.size → b ^ (t.size - 1) ≤ numB t b t.size) := fun q => by
    have p0 : 1 ≤ dgt t 0 := by
      rw [from_dgt hF, Nat.add_zero]
      exact dgt_pos (hnz (by omega))
    have := numB_ge hb p0 (t.size - 1)
    rw [show t.size - 1 + 1 = t.size by omega] at this
    exact this
  have hsz : t.size ≤ 10000000 := by omega
  clear hF hz hnz hts hkk hd
  have hsh := surelyHuge_any t.size b hb hb9 (by omega) w1
  go_wp2_with fail
  refine hsh.mono ?_
  rintro e w2 ⟨H, rfl, hH, hb2⟩
  have hB2 := hb1.trans (hb2.mono hb1.size)
  clear hsh
  cases H with
  | true =>
    obtain ⟨q1, q2⟩ := hH rfl
    have hbig := q2 _ (htp.out q1)
    rw [hT.out] at hbig
    have HP : PCode s b 21 0 := Or.inr (Or.inr (Or.inr (Or.inl ⟨⟨hb, hb9⟩, HG.out, hbig, rfl, rfl⟩)))
    clear q2 htp hT hH hbig
    go_wp2_with fail
    refine (wrapF_any 0 21 w2).mono ?_
    rintro e w3 ⟨g, rfl, hf, hb3⟩
    have hB3 := hB2.trans (hb3.mono hB2.size)
    go_wp2
    go_ret2
    exact ⟨21, 0, HP, Or.inr ⟨by omega, g, rfl, hf⟩, hB3⟩
  | false =>
    clear hH htp
    have hnm := number_any t b hb hb9 (by omega) htd w2
    rw [hT.out] at hnm
    go_wp2_with fail
    refine hnm.mono ?_
    rintro e w3 ⟨v, rfl, hv, hb3⟩
    have hB3 := hB2.trans (hb3.mono hB2.size)
    have hv3 := hv.wider hB2.size
    obtain ⟨va, vc, rfl, hvr⟩ := hv.readsC
    clear hnm hvr hv
    by_cases hbig : 4096 < (words (numB s b s.size)).length
    · have HP : PCode s b 21 0 := Or.inr (Or.inr (Or.inr (Or.inl ⟨⟨hb, hb9⟩, HG.out, hbig, rfl, rfl⟩)))
      clear hv3
      generalize (words (numB s b s.size)).length = l at *
      go_wp2_with fail
      refine (wrapF_any 0 21 w3).mono ?_
      rintro e w4 ⟨g, rfl, hf, hb4⟩
      have hB4 := hB3.trans (hb4.mono hB3.size)
      go_wp2
      go_ret2
      exact ⟨21, 0, HP, Or.inr ⟨by omega, g, rfl, hf⟩, hB4⟩
    · have HP : PCode s b 0 (-1) := Or.inr (Or.inr (Or.inr (Or.inr ⟨⟨hb, hb9⟩, HG.out, by omega, rfl, rfl⟩)))
      have HV : Hid (Own .u64 w3 w.heap.size 22 (.slice va (words (numB s b s.size)).length vc) (words (numB s b s.size))) := hv3
      clear hv3
      generalize hl : (words (numB s b s.size)).length = l at *
      clear hl
      go_wp2
      go_ret2
      exact ⟨0, -1, HP, Or.inl ⟨rfl, _, rfl, HV.out⟩, hB3⟩
set_option maxHeartbeats 1600000 in
set_option maxRecDepth 100000 in
theorem parseF_any (s : ByteArray) (b : Int) (hs : s.size ≤ 10000000) (w : World) :
    Calls Tryz.prog 15 #[.string s, .int .i64 b] w fun e w' => ∃ code p, PCode s b code p ∧ ParseRes w (numB s b s.size) code p e w' := by
  by_cases hb : 2 ≤ b ∧ b ≤ 36
  · by_cases hg : 0 < s.size ∧ ∀ i, i < s.size → dgt s i < b
    · exact parseG_any s b hb.1 hb.2 hs hg.1 hg.2 w
    · have hk : knownB b = true := by unfold knownB; simp; omega
      have kc := known_any b w
      rw [hk] at kc
      have wc := wrong_any s b hb.1 hb.2 (by unfold maxLen; omega) w
      go_enter Tryz.func15, Tryz.ntmps15
      go_wp2_with fail
      refine kc.mono ?_
      rintro e w' ⟨rfl, rfl⟩
      go_wp2_with fail
      refine wc.mono ?_
      rintro e w1 ⟨at', ok, rfl, hwr, hb1⟩
      have hok : ok = true ∧ PCode s b 41 at' := by
        rcases hwr with ⟨q, q1, q2, q3⟩ | ⟨q, q1, q2⟩ | ⟨_, q1, _, q2⟩
        · exact ⟨q, Or.inr (Or.inr (Or.inl ⟨hb, at', q1, q2, q3, rfl, rfl⟩))⟩
        · exact ⟨q, Or.inr (Or.inl ⟨hb, q1, rfl, by omega⟩)⟩
        · exact absurd ⟨q1, q2⟩ hg
      obtain ⟨rfl, HP⟩ := hok
      clear kc wc hk hwr hg
      go_wp2_with fail
      refine (wrapF_any (at' : Int) 41 w1).mono ?_
      rintro e w2 ⟨g, rfl, hf, hb2⟩
      have hB2 := hb1.trans (hb2.mono hb1.size)
      go_wp2
      go_ret2
      exact ⟨41, at', HP, Or.inr ⟨by omega, g, rfl, hf⟩, hB2⟩
  · have hk : knownB b = false := by unfold knownB; simp; omega
    have kc := known_any b w
    rw [hk] at kc
    have HP : PCode s b 40 0 := Or.inl ⟨hb, rfl, rfl⟩
    go_enter Tryz.func15, Tryz.ntmps15
    go_wp2_with fail
    refine kc.mono ?_
    rintro e w' ⟨rfl, rfl⟩
    clear kc hk
    go_wp2_with fail
    refine (wrapF_any 0 40 w).mono ?_
    rintro e w2 ⟨g, rfl, hf, hb2⟩
    go_wp2
    go_ret2
    exact ⟨40, 0, HP, Or.inr ⟨by omega, g, rfl, hf⟩, hb2⟩
end Go.Proofs.YtndeimdfklhaiaaGreatDoor

/- plumbref04.Parse. -/
namespace Go.Proofs.YtndeimdfklhaiaaGreatDoor
open Go.ChangeShapes Go.WideShapes Go.ChangeAt Go.RowKit
open Na Ar
set_option linter.unusedVariables false
namespace Na
/-- the document's value of a byte -/
def refV (r : Int) : Int := if valN r = 36 then 99 else valN r
theorem refV_lt {r b : Int} (hb : b ≤ 36) : refV r < b ↔ valN r < b := by
  have := valN_bd r
  unfold refV
  split <;> omega
theorem refV_eq {r b : Int} (hb : b ≤ 36) (h : valN r < b) : refV r = valN r := by
  unfold refV; rw [if_neg (by omega)]
theorem refV_of {r x : Int} (h : valN r = x) (hx : x ≠ 36) : refV r = x := by unfold refV; rw [h, if_neg hx]
theorem refV_none {r : Int} (h : valN r = 36) : refV r = 99 := by unfold refV; rw [if_pos h]
theorem numB_lead {s : ByteArray} {b : Int} {f : Nat} (hb : 2 ≤ b) (hz : ∀ j, j < f → s.get! j = 48) (h1 : 1 ≤ dgt s f) (n : Nat) : b ^ n ≤ numB s b (f + n + 1) := by
  induction n with
  | zero =>
    show b ^ 0 ≤ numB s b (f + 0) * b + dgt s (f + 0)
    rw [Nat.add_zero, numB_zeros hz, Int.pow_zero, Int.zero_mul]; omega
  | succ n ih =>
    show b ^ (n + 1) ≤ numB s b (f + (n + 1)) * b + dgt s (f + (n + 1))
    have d := (valN_bd ((s.get! (f + (n + 1))).toNat : Int)).1
    have e : dgt s (f + (n + 1)) = valN ((s.get! (f + (n + 1))).toNat : Int) := rfl
    rw [Int.pow_succ]
    have m := Int.mul_le_mul_of_nonneg_right ih (show 0 ≤ b by omega)
    have e2 : f + (n + 1) = f + n + 1 := by omega
    rw [e2] at d e ⊢
    omega
/-- zeros ahead up to f, within the first i -/
def Lead (s : ByteArray) (f i : Nat) : Prop := f ≤ i ∧ (∀ j, j < f → s.get! j = 48) ∧ (f < i → s.get! f ≠ 48)
theorem lead_skip {s : ByteArray} {f i : Nat} (h : Lead s f i) (hs : ¬ (s.get! i = 48 ∧ i = f)) : Lead s f (i + 1) := by
  obtain ⟨h1, h2, h3⟩ := h
  refine ⟨by omega, h2, fun q => ?_⟩
  by_cases g : f < i
  · exact h3 g
  · have e : i = f := by omega
    intro z
    exact hs ⟨by rw [e]; exact z, e⟩
theorem lead_step {s : ByteArray} {f i : Nat} (h : Lead s f i) (hz : s.get! i = 48) (e : i = f) : Lead s (f + 1) (i + 1) := by
  obtain ⟨h1, h2, h3⟩ := h
  refine ⟨by omega, fun j hj => ?_, fun q => by omega⟩
  by_cases g : j < f
  · exact h2 j g
  · have : j = i := by omega
    rw [this]; exact hz
end Na
end Go.Proofs.YtndeimdfklhaiaaGreatDoor

/- plumbref04.Parse's walk. -/
namespace Go.Proofs.YtndeimdfklhaiaaGreatDoor
open Go.ChangeShapes Go.WideShapes Go.ChangeAt Go.RowKit
open Na Ar
set_option linter.unusedVariables false
/-- the list that the document's Parse answers -/
def pList (T code : Int) : List Int := if code = 0 then words T else []
end Go.Proofs.YtndeimdfklhaiaaGreatDoor

import Derived.Test.YthibemoincgemabGreatDoorBaseA
import Derived.LaidEql
import Derived.Stop.Asserts
import Derived.RowKitTokens
import Derived.Test.YthibemoincgemabGreatDoorBaseB
import Derived.Test.YthibemoincgemabGreatDoorBaseE
/- api.Code and api.Place of no error and of a Fault: Go's own errors.As, walked. -/
namespace Go.Proofs.YthibemoincgemabGreatDoor
open Go.RowKit Go.Extern.Stop Go.Stop Go.Extern
set_option linter.unusedVariables false
namespace As
/-- the handle of a type -/
abbrev hnd (t : Nat) : Value := .pointer (some ⟨5, t, none⟩)
theorem valuePE (t : Addr) (w : World) : (ReflectliteValue.unpack (.iface 99 (.pointer (some t)))).run Tryz.prog w
    = .ok (.agg #[hnd 99, .pointer (some ⟨w.heap.size, 0, none⟩), .int .u64 150]) (w.alloc (.cells #[.pointer (some t)] 99)) := by kernel_rfl
theorem valuePF (t : Addr) (w : World) : (ReflectliteValue.unpack (.iface 100 (.pointer (some t)))).run Tryz.prog w
    = .ok (.agg #[hnd 100, .pointer (some ⟨w.heap.size, 0, none⟩), .int .u64 150]) (w.alloc (.cells #[.pointer (some t)] 100)) := by kernel_rfl
theorem valueE (c : Int) (w : World) : (ReflectliteValue.unpack (.iface 49 (.int .i64 c))).run Tryz.prog w
    = .ok (.agg #[hnd 49, .pointer (some ⟨w.heap.size, 0, none⟩), .int .u64 130]) (w.alloc (.cells #[.int .i64 c] 49)) := by kernel_rfl
theorem valueF (e : Addr) (w : World) : (ReflectliteValue.unpack (.iface 91 (.pointer (some e)))).run Tryz.prog w
    = .ok (.agg #[hnd 91, .pointer (some ⟨w.heap.size, 0, none⟩), .int .u64 150]) (w.alloc (.cells #[.pointer (some e)] 91)) := by kernel_rfl
theorem typePE (a : Addr) (w : World) : (ReflectliteValue.methodAny (ReflectliteValue.valueError "reflectlite.Value.Type" 0) (fun t _ _ _ => ReflectliteType.toType t) #[.agg #[hnd 99, .pointer (some a), .int .u64 150]]).run Tryz.prog w
    = .ok (.iface 164 (.agg #[hnd 99])) w := by kernel_rfl
theorem typePF (a : Addr) (w : World) : (ReflectliteValue.methodAny (ReflectliteValue.valueError "reflectlite.Value.Type" 0) (fun t _ _ _ => ReflectliteType.toType t) #[.agg #[hnd 100, .pointer (some a), .int .u64 150]]).run Tryz.prog w
    = .ok (.iface 164 (.agg #[hnd 100])) w := by kernel_rfl
theorem methodKind (h : Value) (w : World) : (Go.method 354 164 (.agg #[h]) "Kind").run Tryz.prog w = .ok (201, h) w := by kernel_rfl
theorem methodElem (h : Value) (w : World) : (Go.method 354 164 (.agg #[h]) "Elem").run Tryz.prog w = .ok (214, .agg #[h]) w := by kernel_rfl
theorem methodImplements (h : Value) (w : World) : (Go.method 354 164 (.agg #[h]) "Implements").run Tryz.prog w = .ok (215, .agg #[h]) w := by kernel_rfl
theorem methodAssignableTo (h : Value) (w : World) : (Go.method 354 164 (.agg #[h]) "AssignableTo").run Tryz.prog w = .ok (212, .agg #[h]) w := by kernel_rfl
theorem methodUnwrap (a : Addr) (w : World) : (Go.method 354 91 (.pointer (some a)) "Unwrap").run Tryz.prog w = .ok (206, .pointer (some a)) w := by kernel_rfl
theorem kindPE (w : World) : ((ReflectliteType.abiMethod fun t => (fun a : Nat => Value.int IntKind.u8 (a : Int)) <$> Rtype.kind t) #[hnd 99]).run Tryz.prog w = .ok (.int .u8 22) w := by kernel_rfl
theorem kindPF (w : World) : ((ReflectliteType.abiMethod fun t => (fun a : Nat => Value.int IntKind.u8 (a : Int)) <$> Rtype.kind t) #[hnd 100]).run Tryz.prog w = .ok (.int .u8 22) w := by kernel_rfl
theorem kindE (w : World) : ((ReflectliteType.abiMethod fun t => (fun a : Nat => Value.int IntKind.u8 (a : Int)) <$> Rtype.kind t) #[hnd 49]).run Tryz.prog w = .ok (.int .u8 2) w := by kernel_rfl
theorem kindF (w : World) : ((ReflectliteType.abiMethod fun t => (fun a : Nat => Value.int IntKind.u8 (a : Int)) <$> Rtype.kind t) #[hnd 91]).run Tryz.prog w = .ok (.int .u8 22) w := by kernel_rfl
theorem partsPE (a : Addr) (w : World) : (ReflectliteValue.parts (.agg #[hnd 99, .pointer (some a), .int .u64 150])).run Tryz.prog w = .ok (some (99, a, 150)) w := by kernel_rfl
theorem partsPF (a : Addr) (w : World) : (ReflectliteValue.parts (.agg #[hnd 100, .pointer (some a), .int .u64 150])).run Tryz.prog w = .ok (some (100, a, 150)) w := by kernel_rfl
theorem isNilPE (a p : Addr) (W : World) (ha : W.cell? a = some (.pointer (some p))) :
    (ReflectliteValue.method (ReflectliteValue.valueError "reflectlite.Value.IsNil" 0) ReflectliteValue.isNil #[.agg #[hnd 99, .pointer (some a), .int .u64 150]]).run Tryz.prog W = .ok (.bool false) W := by
  show (Bind.bind (ReflectliteValue.parts (.agg #[hnd 99, .pointer (some a), .int .u64 150])) _ : Sem Value).run _ _ = _
  simp only [Sem.run_bind, partsPE, Result.andThen]
  simp [ReflectliteValue.isNil, loadVar, isAgg, underlying, Tryz.underlying99, ha, Result.andThen]
theorem isNilPF (a p : Addr) (W : World) (ha : W.cell? a = some (.pointer (some p))) :
    (ReflectliteValue.method (ReflectliteValue.valueError "reflectlite.Value.IsNil" 0) ReflectliteValue.isNil #[.agg #[hnd 100, .pointer (some a), .int .u64 150]]).run Tryz.prog W = .ok (.bool false) W := by
  show (Bind.bind (ReflectliteValue.parts (.agg #[hnd 100, .pointer (some a), .int .u64 150])) _ : Sem Value).run _ _ = _
  simp only [Sem.run_bind, partsPF, Result.andThen]
  simp [ReflectliteValue.isNil, loadVar, isAgg, underlying, Tryz.underlying100, ha, Result.andThen]
theorem elemPE (w : World) : (ReflectliteType.method ReflectliteType.elem #[.agg #[hnd 99]]).run Tryz.prog w = .ok (.iface 164 (.agg #[hnd 49])) w := by kernel_rfl
theorem elemPF (w : World) : (ReflectliteType.method ReflectliteType.elem #[.agg #[hnd 100]]).run Tryz.prog w = .ok (.iface 164 (.agg #[hnd 91])) w := by kernel_rfl
theorem implE (w : World) : (ReflectliteType.relation "Implements" ReflectliteType.implements_ #[.agg #[hnd 49], .iface 164 (.agg #[hnd 30])]).run Tryz.prog w = .ok (.bool true) w := by kernel_rfl
theorem implF (w : World) : (ReflectliteType.relation "Implements" ReflectliteType.implements_ #[.agg #[hnd 91], .iface 164 (.agg #[hnd 30])]).run Tryz.prog w = .ok (.bool true) w := by kernel_rfl
theorem typeOfF (v : Value) (w : World) : (ReflectliteType.typeOf #[.iface 91 v]).run Tryz.prog w = .ok (.iface 164 (.agg #[hnd 91])) w := by kernel_rfl
theorem typeOfE (v : Value) (w : World) : (ReflectliteType.typeOf #[.iface 49 v]).run Tryz.prog w = .ok (.iface 164 (.agg #[hnd 49])) w := by kernel_rfl
theorem assignFF (w : World) : (ReflectliteType.relation "AssignableTo" ReflectliteType.assignableTo #[.agg #[hnd 91], .iface 164 (.agg #[hnd 91])]).run Tryz.prog w = .ok (.bool true) w := by kernel_rfl
theorem assignFE (w : World) : (ReflectliteType.relation "AssignableTo" ReflectliteType.assignableTo #[.agg #[hnd 91], .iface 164 (.agg #[hnd 49])]).run Tryz.prog w = .ok (.bool false) w := by kernel_rfl
theorem assignEE (w : World) : (ReflectliteType.relation "AssignableTo" ReflectliteType.assignableTo #[.agg #[hnd 49], .iface 164 (.agg #[hnd 49])]).run Tryz.prog w = .ok (.bool true) w := by kernel_rfl
theorem noAs (v : Value) (xT : TypeId) (w : World) : (Instr.typeAssert (.iface 91 v) xT 169 true).run Tryz.prog w = .ok (.tuple #[.nilIface, .bool false]) w := run_typeAssert_lacksB Tryz.underlying169 (by kernel_rfl) (by kernel_rfl) v xT w
theorem hasUnwrap (v : Value) (xT : TypeId) (w : World) : (Instr.typeAssert (.iface 91 v) xT 172 true).run Tryz.prog w = .ok (.tuple #[.iface 91 v, .bool true]) w := run_typeAssert_hasB Tryz.underlying172 (by kernel_rfl) v xT w
theorem elemOfPE (w : World) : (Rtype.elem? 99).run Tryz.prog w = .ok (some 49) w := by kernel_rfl
theorem elemOfPF (w : World) : (Rtype.elem? 100).run Tryz.prog w = .ok (some 91) w := by kernel_rfl
theorem mkE (p : Addr) (w : World) : (ReflectliteValue.mk 49 p ReflectliteValue.flagAddr).run Tryz.prog w = .ok (.agg #[hnd 49, .pointer (some p), .int .u64 386]) w := by kernel_rfl
theorem mkF (p : Addr) (w : World) : (ReflectliteValue.mk 91 p ReflectliteValue.flagAddr).run Tryz.prog w = .ok (.agg #[hnd 91, .pointer (some p), .int .u64 406]) w := by kernel_rfl
theorem elemVPE (a p : Addr) (W : World) (ha : W.cell? a = some (.pointer (some p))) :
    (ReflectliteValue.method (ReflectliteValue.valueError "reflectlite.Value.Elem" 0) ReflectliteValue.elem #[.agg #[hnd 99, .pointer (some a), .int .u64 150]]).run Tryz.prog W
      = .ok (.agg #[hnd 49, .pointer (some p), .int .u64 386]) W := by
  show (Bind.bind (ReflectliteValue.parts (.agg #[hnd 99, .pointer (some a), .int .u64 150])) _ : Sem Value).run _ _ = _
  simp only [Sem.run_bind, partsPE, Result.andThen]
  simp [ReflectliteValue.elem, loadVar, isAgg, underlying, Tryz.underlying99, ha, Result.andThen, elemOfPE, mkE]
theorem elemVPF (a p : Addr) (W : World) (ha : W.cell? a = some (.pointer (some p))) :
    (ReflectliteValue.method (ReflectliteValue.valueError "reflectlite.Value.Elem" 0) ReflectliteValue.elem #[.agg #[hnd 100, .pointer (some a), .int .u64 150]]).run Tryz.prog W
      = .ok (.agg #[hnd 91, .pointer (some p), .int .u64 406]) W := by
  show (Bind.bind (ReflectliteValue.parts (.agg #[hnd 100, .pointer (some a), .int .u64 150])) _ : Sem Value).run _ _ = _
  simp only [Sem.run_bind, partsPF, Result.andThen]
  simp [ReflectliteValue.elem, loadVar, isAgg, underlying, Tryz.underlying100, ha, Result.andThen, elemOfPF, mkF]
theorem partsEa (a : Addr) (w : World) : (ReflectliteValue.parts (.agg #[hnd 49, .pointer (some a), .int .u64 386])).run Tryz.prog w = .ok (some (49, a, 386)) w := by kernel_rfl
theorem partsE (a : Addr) (w : World) : (ReflectliteValue.parts (.agg #[hnd 49, .pointer (some a), .int .u64 130])).run Tryz.prog w = .ok (some (49, a, 130)) w := by kernel_rfl
theorem partsFa (a : Addr) (w : World) : (ReflectliteValue.parts (.agg #[hnd 91, .pointer (some a), .int .u64 406])).run Tryz.prog w = .ok (some (91, a, 406)) w := by kernel_rfl
theorem partsF (a : Addr) (w : World) : (ReflectliteValue.parts (.agg #[hnd 91, .pointer (some a), .int .u64 150])).run Tryz.prog w = .ok (some (91, a, 150)) w := by kernel_rfl
theorem directE (w : World) : (Rtype.directlyAssignable 49 49).run Tryz.prog w = .ok true w := by kernel_rfl
theorem directF (w : World) : (Rtype.directlyAssignable 91 91).run Tryz.prog w = .ok true w := by kernel_rfl
theorem setE (ta b : Addr) (c : Int) (old : Value) (W : World) (hb : W.cell? b = some (.int .i64 c)) (ht : W.cell? ta = some old) (hf : W.frozen? ta = false) :
    (ReflectliteValue.set #[.agg #[hnd 49, .pointer (some ta), .int .u64 386], .agg #[hnd 49, .pointer (some b), .int .u64 130]]).run Tryz.prog W
      = .ok (.tuple #[]) (W.setCell ta (.int .i64 c)) := by
  show (Bind.bind (ReflectliteValue.parts (.agg #[hnd 49, .pointer (some ta), .int .u64 386])) fun _ => Bind.bind (ReflectliteValue.parts (.agg #[hnd 49, .pointer (some b), .int .u64 130])) _ : Sem Value).run _ _ = _
  simp only [Sem.run_bind, partsEa, partsE, Result.andThen]
  simp [ReflectliteValue.flagAddr, loadVar, isAgg, underlying, Tryz.underlying49, hb, Result.andThen, directE, storeVar, Value.cells, storeCells, Addr.add]
  rw [run_store Tryz.prog W ta _ _ (by rfl)]
  simp [ht, hf]
theorem setF (ta b e : Addr) (old : Value) (W : World) (hb : W.cell? b = some (.pointer (some e))) (ht : W.cell? ta = some old) (hf : W.frozen? ta = false) :
    (ReflectliteValue.set #[.agg #[hnd 91, .pointer (some ta), .int .u64 406], .agg #[hnd 91, .pointer (some b), .int .u64 150]]).run Tryz.prog W
      = .ok (.tuple #[]) (W.setCell ta (.pointer (some e))) := by
  show (Bind.bind (ReflectliteValue.parts (.agg #[hnd 91, .pointer (some ta), .int .u64 406])) fun _ => Bind.bind (ReflectliteValue.parts (.agg #[hnd 91, .pointer (some b), .int .u64 150])) _ : Sem Value).run _ _ = _
  simp only [Sem.run_bind, partsFa, partsF, Result.andThen]
  simp [ReflectliteValue.flagAddr, loadVar, isAgg, underlying, Tryz.underlying91, hb, Result.andThen, directF, storeVar, Value.cells, storeCells, Addr.add]
  rw [run_store Tryz.prog W ta _ _ (by rfl)]
  simp [ht, hf]
end As
theorem as_nil (t : Value) (w : World) :
    Calls Tryz.prog 60 #[.nilIface, t] w fun e w' => e = .returned (.bool false) ∧ w' = w := by
  go_enter Tryz.func60, Tryz.ntmps60
  go_wp2
  go_ret
  exact ⟨rfl, rfl⟩
end Go.Proofs.YthibemoincgemabGreatDoor

/- api.Code and api.Place of no error and of a Fault. -/
namespace Go.Proofs.YthibemoincgemabGreatDoor
open Go.RowKit Go.Extern.Stop Go.Stop Go.Extern
set_option linter.unusedVariables false
/-- errors' own variable holds the handle of the type error -/
def ErrVar (w : World) : Prop := w.cell? ⟨0, 0, none⟩ = some (.iface 164 (.agg #[As.hnd 30]))
theorem cell_lt {w : World} {a : Addr} {v : Value} (h : w.cell? a = some v) : a.block < w.heap.size := by
  rcases Nat.lt_or_ge a.block w.heap.size with q | q
  · exact q
  · simp [World.cell?, Array.getElem?_eq_none q] at h
theorem unwrap_any (g : Nat) (v : Value) (w : World) (he : w.cell? ⟨g, 1, none⟩ = some v) :
    Calls Tryz.prog 206 #[.pointer (some ⟨g, 0, none⟩)] w fun x w' => x = .returned v ∧ w' = w := by
  go_enter Tryz.func206, Tryz.ntmps206
  go_wp2
  go_ret
  exact ⟨rfl, rfl⟩
set_option maxHeartbeats 4000000 in
theorem asFault (e t : Addr) (old : Value) (w : World) (hg : ErrVar w) (ht0 : w.cell? t = some old) (hf0 : w.frozen? t = false) :
    Calls Tryz.prog 60 #[.iface 91 (.pointer (some e)), .iface 100 (.pointer (some t))] w fun ev w' => ev = .returned (.bool true) ∧ w' = ((((w.alloc (.cells #[.pointer (some t)] 100)).alloc (.cells #[As.hnd 100, .pointer (some ⟨w.heap.size, 0, none⟩), .int .u64 150] 133)).alloc (.cells #[As.hnd 100, .pointer (some ⟨w.heap.size, 0, none⟩), .int .u64 150] 133)).alloc (.cells #[.pointer (some e)] 91)).setCell t (.pointer (some e)) := by
  have h6 := @run_callFunc_extern Tryz.prog 88 _ (fun args => ReflectliteValue.unpack (args.getD 0 (.tuple #[]))) Tryz.func88 (by kernel_rfl) (by kernel_rfl) (by kernel_rfl) (by kernel_rfl)
  have h7 := @run_callFunc_extern Tryz.prog 89 _ (ReflectliteValue.methodAny (ReflectliteValue.valueError "reflectlite.Value.Type" 0) (fun t _ _ _ => ReflectliteType.toType t)) Tryz.func89 (by kernel_rfl) (by kernel_rfl) (by kernel_rfl) (by kernel_rfl)
  have h8 := @run_callFunc_extern Tryz.prog 90 _ (ReflectliteValue.method (ReflectliteValue.valueError "reflectlite.Value.IsNil" 0) ReflectliteValue.isNil) Tryz.func90 (by kernel_rfl) (by kernel_rfl) (by kernel_rfl) (by kernel_rfl)
  have h27 := @run_callFunc_extern Tryz.prog 201 _ (ReflectliteType.abiMethod fun t => do pure (.int .u8 (← Rtype.kind t))) Tryz.func201 (by kernel_rfl) (by kernel_rfl) (by kernel_rfl) (by kernel_rfl)
  have h37 := @run_callFunc_extern Tryz.prog 214 _ (ReflectliteType.method ReflectliteType.elem) Tryz.func214 (by kernel_rfl) (by kernel_rfl) (by kernel_rfl) (by kernel_rfl)
  have h38 := @run_callFunc_extern Tryz.prog 215 _ (ReflectliteType.relation "Implements" ReflectliteType.implements_) Tryz.func215 (by kernel_rfl) (by kernel_rfl) (by kernel_rfl) (by kernel_rfl)
  have h10 := @run_callFunc_extern Tryz.prog 121 _ ReflectliteType.typeOf Tryz.func121 (by kernel_rfl) (by kernel_rfl) (by kernel_rfl) (by kernel_rfl)
  have h35 := @run_callFunc_extern Tryz.prog 212 _ (ReflectliteType.relation "AssignableTo" ReflectliteType.assignableTo) Tryz.func212 (by kernel_rfl) (by kernel_rfl) (by kernel_rfl) (by kernel_rfl)
  have h11 := @run_callFunc_extern Tryz.prog 122 _ (ReflectliteValue.method (ReflectliteValue.valueError "reflectlite.Value.Elem" 0) ReflectliteValue.elem) Tryz.func122 (by kernel_rfl) (by kernel_rfl) (by kernel_rfl) (by kernel_rfl)
  have h12 := @run_callFunc_extern Tryz.prog 123 _ ReflectliteValue.set Tryz.func123 (by kernel_rfl) (by kernel_rfl) (by kernel_rfl) (by kernel_rfl)
  have tO := As.typeOfF
  have mA := As.methodAssignableTo
  have a25 := As.assignFF
  have v25 := As.valueF
  have f6 := As.valuePF
  have f7 := As.typePF
  have mK := As.methodKind
  have mE := As.methodElem
  have mI := As.methodImplements
  have k27 := As.kindPF
  have k25 := As.kindF
  have e27 := As.elemPF
  have i25 := As.implF
  have n8 := As.isNilPF ⟨w.heap.size, 0, none⟩ t ((w.alloc (.cells #[.pointer (some t)] 100)).alloc (.cells #[As.hnd 100, .pointer (some ⟨w.heap.size, 0, none⟩), .int .u64 150] 133)) (by simp)
  have hlt := cell_lt hg
  have hg2 : ((w.alloc (.cells #[.pointer (some t)] 100)).alloc (.cells #[As.hnd 100, .pointer (some ⟨w.heap.size, 0, none⟩), .int .u64 150] 133)).cell? ⟨0, 0, none⟩ = some (.iface 164 (.agg #[As.hnd 30])) := by
    rw [World.cell?_alloc_lt _ _ ⟨0, 0, none⟩ (by simp at hlt ⊢ <;> omega), World.cell?_alloc_lt _ _ ⟨0, 0, none⟩ hlt]; exact hg
  have htl := cell_lt ht0
  have el := As.elemVPF ⟨w.heap.size, 0, none⟩ t (((w.alloc (.cells #[.pointer (some t)] 100)).alloc (.cells #[As.hnd 100, .pointer (some ⟨w.heap.size, 0, none⟩), .int .u64 150] 133)).alloc (.cells #[As.hnd 100, .pointer (some ⟨w.heap.size, 0, none⟩), .int .u64 150] 133)) (by rw [World.cell?_alloc_lt _ _ ⟨w.heap.size, 0, none⟩ (by simp; omega)]; simp)
  have st := As.setF t ⟨w.heap.size + 1 + 1 + 1, 0, none⟩ e old ((((w.alloc (.cells #[.pointer (some t)] 100)).alloc (.cells #[As.hnd 100, .pointer (some ⟨w.heap.size, 0, none⟩), .int .u64 150] 133)).alloc (.cells #[As.hnd 100, .pointer (some ⟨w.heap.size, 0, none⟩), .int .u64 150] 133)).alloc (.cells #[.pointer (some e)] 91))
    (by rw [World.cell?_alloc_at _ _ _ _ (by simp)]; rfl)
    (by rw [World.cell?_alloc_lt _ _ t (by simp; omega), World.cell?_alloc_lt _ _ t (by simp; omega), World.cell?_alloc_lt _ _ t (by simp; omega), World.cell?_alloc_lt _ _ t htl]; exact ht0)
    (by rw [World.frozen?_alloc_old _ _ t (by simp; omega), World.frozen?_alloc_old _ _ t (by simp; omega), World.frozen?_alloc_old _ _ t (by simp; omega), World.frozen?_alloc_old _ _ t (Nat.ne_of_lt htl)]; exact hf0)
  go_enter Tryz.func60, Tryz.ntmps60
  go_wp2
  refine wp_loop_rounds 1 ?_
  rw [rounds_succ]
  go_wp2
  go_ret
  exact ⟨rfl, rfl⟩
set_option maxHeartbeats 4000000 in
set_option maxRecDepth 10000 in
theorem asErrno (g : Nat) (t : Addr) (c : Int) (old : Value) (w : World) (he : w.cell? ⟨g, 1, none⟩ = some (.iface 49 (.int .i64 c))) (hg : ErrVar w) (ht0 : w.cell? t = some old) (hf0 : w.frozen? t = false) :
    Calls Tryz.prog 60 #[.iface 91 (.pointer (some ⟨g, 0, none⟩)), .iface 99 (.pointer (some t))] w fun ev w' => ev = .returned (.bool true) ∧ w' = ((((w.alloc (.cells #[.pointer (some t)] 99)).alloc (.cells #[As.hnd 99, .pointer (some ⟨w.heap.size, 0, none⟩), .int .u64 150] 133)).alloc (.cells #[As.hnd 99, .pointer (some ⟨w.heap.size, 0, none⟩), .int .u64 150] 133)).alloc (.cells #[.int .i64 c] 49)).setCell t (.int .i64 c) := by
  have h6 := @run_callFunc_extern Tryz.prog 88 _ (fun args => ReflectliteValue.unpack (args.getD 0 (.tuple #[]))) Tryz.func88 (by kernel_rfl) (by kernel_rfl) (by kernel_rfl) (by kernel_rfl)
  have h7 := @run_callFunc_extern Tryz.prog 89 _ (ReflectliteValue.methodAny (ReflectliteValue.valueError "reflectlite.Value.Type" 0) (fun t _ _ _ => ReflectliteType.toType t)) Tryz.func89 (by kernel_rfl) (by kernel_rfl) (by kernel_rfl) (by kernel_rfl)
  have h8 := @run_callFunc_extern Tryz.prog 90 _ (ReflectliteValue.method (ReflectliteValue.valueError "reflectlite.Value.IsNil" 0) ReflectliteValue.isNil) Tryz.func90 (by kernel_rfl) (by kernel_rfl) (by kernel_rfl) (by kernel_rfl)
  have h27 := @run_callFunc_extern Tryz.prog 201 _ (ReflectliteType.abiMethod fun t => do pure (.int .u8 (← Rtype.kind t))) Tryz.func201 (by kernel_rfl) (by kernel_rfl) (by kernel_rfl) (by kernel_rfl)
  have h37 := @run_callFunc_extern Tryz.prog 214 _ (ReflectliteType.method ReflectliteType.elem) Tryz.func214 (by kernel_rfl) (by kernel_rfl) (by kernel_rfl) (by kernel_rfl)
  have h38 := @run_callFunc_extern Tryz.prog 215 _ (ReflectliteType.relation "Implements" ReflectliteType.implements_) Tryz.func215 (by kernel_rfl) (by kernel_rfl) (by kernel_rfl) (by kernel_rfl)
  have h10 := @run_callFunc_extern Tryz.prog 121 _ ReflectliteType.typeOf Tryz.func121 (by kernel_rfl) (by kernel_rfl) (by kernel_rfl) (by kernel_rfl)
  have h35 := @run_callFunc_extern Tryz.prog 212 _ (ReflectliteType.relation "AssignableTo" ReflectliteType.assignableTo) Tryz.func212 (by kernel_rfl) (by kernel_rfl) (by kernel_rfl) (by kernel_rfl)
  have h11 := @run_callFunc_extern Tryz.prog 122 _ (ReflectliteValue.method (ReflectliteValue.valueError "reflectlite.Value.Elem" 0) ReflectliteValue.elem) Tryz.func122 (by kernel_rfl) (by kernel_rfl) (by kernel_rfl) (by kernel_rfl)
  have h12 := @run_callFunc_extern Tryz.prog 123 _ ReflectliteValue.set Tryz.func123 (by kernel_rfl) (by kernel_rfl) (by kernel_rfl) (by kernel_rfl)
  have tO := As.typeOfF
  have tE := As.typeOfE
  have nA := As.noAs
  have hU := As.hasUnwrap
  have mU := As.methodUnwrap
  have mA := As.methodAssignableTo
  have a25 := As.assignFE
  have aEE := As.assignEE
  have v25 := As.valueE
  have f6 := As.valuePE
  have f7 := As.typePE
  have mK := As.methodKind
  have mE := As.methodElem
  have mI := As.methodImplements
  have k27 := As.kindPE
  have k25 := As.kindE
  have e27 := As.elemPE
  have i25 := As.implE
  have n8 := As.isNilPE ⟨w.heap.size, 0, none⟩ t ((w.alloc (.cells #[.pointer (some t)] 99)).alloc (.cells #[As.hnd 99, .pointer (some ⟨w.heap.size, 0, none⟩), .int .u64 150] 133)) (by simp)
  have hlt := cell_lt hg
  have hg2 : ((w.alloc (.cells #[.pointer (some t)] 99)).alloc (.cells #[As.hnd 99, .pointer (some ⟨w.heap.size, 0, none⟩), .int .u64 150] 133)).cell? ⟨0, 0, none⟩ = some (.iface 164 (.agg #[As.hnd 30])) := by
    rw [World.cell?_alloc_lt _ _ ⟨0, 0, none⟩ (by simp at hlt ⊢ <;> omega), World.cell?_alloc_lt _ _ ⟨0, 0, none⟩ hlt]; exact hg
  have htl := cell_lt ht0
  have el := As.elemVPE ⟨w.heap.size, 0, none⟩ t (((w.alloc (.cells #[.pointer (some t)] 99)).alloc (.cells #[As.hnd 99, .pointer (some ⟨w.heap.size, 0, none⟩), .int .u64 150] 133)).alloc (.cells #[As.hnd 99, .pointer (some ⟨w.heap.size, 0, none⟩), .int .u64 150] 133)) (by rw [World.cell?_alloc_lt _ _ ⟨w.heap.size, 0, none⟩ (by simp; omega)]; simp)
  have st := As.setE t ⟨w.heap.size + 1 + 1 + 1, 0, none⟩ c old ((((w.alloc (.cells #[.pointer (some t)] 99)).alloc (.cells #[As.hnd 99, .pointer (some ⟨w.heap.size, 0, none⟩), .int .u64 150] 133)).alloc (.cells #[As.hnd 99, .pointer (some ⟨w.heap.size, 0, none⟩), .int .u64 150] 133)).alloc (.cells #[.int .i64 c] 49))
    (by rw [World.cell?_alloc_at _ _ _ _ (by simp)]; rfl)
    (by rw [World.cell?_alloc_lt _ _ t (by simp; omega), World.cell?_alloc_lt _ _ t (by simp; omega), World.cell?_alloc_lt _ _ t (by simp; omega), World.cell?_alloc_lt _ _ t htl]; exact ht0)
    (by rw [World.frozen?_alloc_old _ _ t (by simp; omega), World.frozen?_alloc_old _ _ t (by simp; omega), World.frozen?_alloc_old _ _ t (by simp; omega), World.frozen?_alloc_old _ _ t (Nat.ne_of_lt htl)]; exact hf0)
  go_enter Tryz.func60, Tryz.ntmps60
  go_wp2
  have hgl := cell_lt he
  have uc := unwrap_any g (.iface 49 (.int .i64 c)) (((w.alloc (.cells #[.pointer (some t)] 99)).alloc (.cells #[As.hnd 99, .pointer (some ⟨w.heap.size, 0, none⟩), .int .u64 150] 133)).alloc (.cells #[As.hnd 99, .pointer (some ⟨w.heap.size, 0, none⟩), .int .u64 150] 133))
    (by rw [World.cell?_alloc_lt _ _ ⟨g, 1, none⟩ (by simp at hgl ⊢ <;> omega), World.cell?_alloc_lt _ _ ⟨g, 1, none⟩ (by simp at hgl ⊢ <;> omega), World.cell?_alloc_lt _ _ ⟨g, 1, none⟩ hgl]; exact he)
  refine wp_loop_rounds 2 ?_
  rw [rounds_succ]
  go_wp2_with fail
  refine uc.mono ?_
  rintro x w' ⟨rfl, rfl⟩
  clear uc
  go_wp2
  rw [rounds_succ]
  go_wp2
  go_ret
  exact ⟨rfl, rfl⟩
end Go.Proofs.YthibemoincgemabGreatDoor

/- api.Wrap, api.Code, api.Place: a Fault with its place and number. -/
namespace Go.Proofs.YthibemoincgemabGreatDoor
open Go.ChangeShapes Go.WideShapes Go.ChangeAt Go.RowKit
set_option linter.unusedVariables false
/-- block g is a Fault: a place, a number -/
def FaultAt (w : World) (g : Nat) (p c : Int) : Prop := w.cell? ⟨g, 0, none⟩ = some (.int .i64 p) ∧ w.cell? ⟨g, 1, none⟩ = some (.iface 49 (.int .i64 c))
theorem FaultAt.later {w w' : World} {g : Nat} {p c : Int} (h : FaultAt w g p c) (hb : Below w.heap.size w w') : FaultAt w' g p c :=
  ⟨(hb.cell (p := ⟨g, 0, none⟩) (cell_lt h.1)).trans h.1, (hb.cell (p := ⟨g, 1, none⟩) (cell_lt h.2)).trans h.2⟩
theorem ErrVar.later {w w' : World} (h : ErrVar w) (hb : Below w.heap.size w w') : ErrVar w' := (hb.cell (p := ⟨0, 0, none⟩) (cell_lt h)).trans h
theorem wrapF_any (p c : Int) (w : World) :
    Calls Tryz.prog 26 #[.int .i64 p, .int .i64 c] w fun e w' => ∃ g, e = .returned (.iface 91 (.pointer (some ⟨g, 0, none⟩))) ∧ FaultAt w' g p c ∧ Below w.heap.size w w' := by
  go_enter Tryz.func26, Tryz.ntmps26
  go_wp2
  go_ret
  exact ⟨_, rfl, ⟨by simp, by simp⟩, (Below.refl _ _).alloc (Nat.le_refl _) _⟩
theorem asErrnoQ (g t : Nat) (c : Int) (old : Value) (w : World) (he : w.cell? ⟨g, 1, none⟩ = some (.iface 49 (.int .i64 c))) (hg : ErrVar w) (ht0 : w.cell? ⟨t, 0, none⟩ = some old) (hf0 : w.frozen? ⟨t, 0, none⟩ = false) :
    Calls Tryz.prog 60 #[.iface 91 (.pointer (some ⟨g, 0, none⟩)), .iface 99 (.pointer (some ⟨t, 0, none⟩))] w fun ev w' => ev = .returned (.bool true) ∧ w'.cell? ⟨t, 0, none⟩ = some (.int .i64 c) ∧ In t (t + 1) w w' := by
  refine (asErrno g ⟨t, 0, none⟩ c old w he hg ht0 hf0).mono ?_
  rintro ev w' ⟨rfl, rfl⟩
  have hlt := cell_lt ht0
  have hB : Below w.heap.size w ((((w.alloc (.cells #[.pointer (some ⟨t, 0, none⟩)] 99)).alloc (.cells #[As.hnd 99, .pointer (some ⟨w.heap.size, 0, none⟩), .int .u64 150] 133)).alloc (.cells #[As.hnd 99, .pointer (some ⟨w.heap.size, 0, none⟩), .int .u64 150] 133)).alloc (.cells #[.int .i64 c] 49)) :=
    ((((Below.refl _ _).alloc (Nat.le_refl _) _).alloc (by simp) _).alloc (by simp; omega) _).alloc (by simp; omega) _
  refine ⟨rfl, World.cell?_setCell_same _ _ _ ((hB.cell (p := ⟨t, 0, none⟩) hlt).trans ht0), ?_⟩
  exact (In.of_below hB).set1 _ _
theorem asFaultQ (e : Addr) (t : Nat) (old : Value) (w : World) (hg : ErrVar w) (ht0 : w.cell? ⟨t, 0, none⟩ = some old) (hf0 : w.frozen? ⟨t, 0, none⟩ = false) :
    Calls Tryz.prog 60 #[.iface 91 (.pointer (some e)), .iface 100 (.pointer (some ⟨t, 0, none⟩))] w fun ev w' => ev = .returned (.bool true) ∧ w'.cell? ⟨t, 0, none⟩ = some (.pointer (some e)) ∧ In t (t + 1) w w' := by
  refine (asFault e ⟨t, 0, none⟩ old w hg ht0 hf0).mono ?_
  rintro ev w' ⟨rfl, rfl⟩
  have hlt := cell_lt ht0
  have hB : Below w.heap.size w ((((w.alloc (.cells #[.pointer (some ⟨t, 0, none⟩)] 100)).alloc (.cells #[As.hnd 100, .pointer (some ⟨w.heap.size, 0, none⟩), .int .u64 150] 133)).alloc (.cells #[As.hnd 100, .pointer (some ⟨w.heap.size, 0, none⟩), .int .u64 150] 133)).alloc (.cells #[.pointer (some e)] 91)) :=
    ((((Below.refl _ _).alloc (Nat.le_refl _) _).alloc (by simp) _).alloc (by simp; omega) _).alloc (by simp; omega) _
  refine ⟨rfl, World.cell?_setCell_same _ _ _ ((hB.cell (p := ⟨t, 0, none⟩) hlt).trans ht0), ?_⟩
  exact (In.of_below hB).set1 _ _
theorem codeNil_any (w : World) :
    Calls Tryz.prog 30 #[.nilIface] w fun e w' => e = .returned (.int .i64 0) ∧ Below w.heap.size w w' := by
  go_enter Tryz.func30, Tryz.ntmps30
  go_wp2
  go_ret
  exact ⟨rfl, (Below.refl _ _).alloc (Nat.le_refl _) _⟩
theorem placeNil_any (w : World) :
    Calls Tryz.prog 31 #[.nilIface] w fun e w' => e = .returned (.int .i64 (-1)) ∧ Below w.heap.size w w' := by
  go_enter Tryz.func31, Tryz.ntmps31
  go_wp2_with fail
  refine (as_nil _ _).mono ?_
  rintro e w' ⟨rfl, rfl⟩
  go_wp2
  go_ret
  exact ⟨rfl, (Below.refl _ _).alloc (Nat.le_refl _) _⟩
set_option maxHeartbeats 1000000 in
theorem codeFault_any {g : Nat} {p c : Int} {w : World} (hF : FaultAt w g p c) (hg : ErrVar w) :
    Calls Tryz.prog 30 #[.iface 91 (.pointer (some ⟨g, 0, none⟩))] w fun e w' => e = .returned (.int .i64 c) ∧ Below w.heap.size w w' := by
  have hB : Below w.heap.size w (w.alloc (.cells #[.int .i64 0] 49)) := (Below.refl _ _).alloc (Nat.le_refl _) _
  have ac := asErrnoQ g w.heap.size c (.int .i64 0) (w.alloc (.cells #[.int .i64 0] 49)) (hF.later hB).2 (hg.later hB) (by simp) (by simp)
  go_enter Tryz.func30, Tryz.ntmps30
  go_wp2_with fail
  refine ac.mono ?_
  rintro e w' ⟨rfl, hc, hi⟩
  have hB2 := below_inn hB hi (Nat.le_refl _) (Nat.le_refl _)
  clear ac hi
  go_wp2
  go_ret
  exact ⟨rfl, hB2⟩
set_option maxHeartbeats 1000000 in
theorem placeFault_any {g : Nat} {p c : Int} {w : World} (hF : FaultAt w g p c) (hg : ErrVar w) :
    Calls Tryz.prog 31 #[.iface 91 (.pointer (some ⟨g, 0, none⟩))] w fun e w' => e = .returned (.int .i64 p) ∧ Below w.heap.size w w' := by
  have hB : Below w.heap.size w (w.alloc (.cells #[.pointer none] 91)) := (Below.refl _ _).alloc (Nat.le_refl _) _
  have ac := asFaultQ ⟨g, 0, none⟩ w.heap.size (.pointer none) (w.alloc (.cells #[.pointer none] 91)) (hg.later hB) (by simp) (by simp)
  have hlt : g < w.heap.size := cell_lt hF.1
  have hF2 := (hF.later hB).1
  go_enter Tryz.func31, Tryz.ntmps31
  go_wp2_with fail
  refine ac.mono ?_
  rintro e w' ⟨rfl, hc, hi⟩
  have hB2 := below_inn hB hi (Nat.le_refl _) (Nat.le_refl _)
  have hp : w'.cell? ⟨g, 0, none⟩ = some (.int .i64 p) := (hB2.cell (p := ⟨g, 0, none⟩) hlt).trans hF.1
  clear ac hi hF2
  go_wp2
  go_ret
  exact ⟨rfl, hB2⟩
end Go.Proofs.YthibemoincgemabGreatDoor

/- radix.Parse in every case, with the error's place and number. -/
namespace Go.Proofs.YthibemoincgemabGreatDoor
open Go.ChangeShapes Go.WideShapes Go.ChangeAt Go.RowKit
open Na Ar
set_option linter.unusedVariables false
namespace Na
/-- the error's number and its place -/
def PCode (s : ByteArray) (b code p : Int) : Prop :=
  (¬ (2 ≤ b ∧ b ≤ 36) ∧ code = 40 ∧ p = 0) ∨
  ((2 ≤ b ∧ b ≤ 36) ∧ s.size = 0 ∧ code = 41 ∧ p = 0) ∨
  ((2 ≤ b ∧ b ≤ 36) ∧ ∃ i : Nat, i < s.size ∧ b ≤ dgt s i ∧ (∀ j, j < i → dgt s j < b) ∧ code = 41 ∧ p = i) ∨
  ((2 ≤ b ∧ b ≤ 36) ∧ (0 < s.size ∧ ∀ i, i < s.size → dgt s i < b) ∧ 4096 < (words (numB s b s.size)).length ∧ code = 21 ∧ p = 0) ∨
  ((2 ≤ b ∧ b ≤ 36) ∧ (0 < s.size ∧ ∀ i, i < s.size → dgt s i < b) ∧ (words (numB s b s.size)).length ≤ 4096 ∧ code = 0 ∧ p = -1)
theorem pcode_uniq {s : ByteArray} {b c p c' p' : Int} (h : PCode s b c p) (h' : PCode s b c' p') : c = c' ∧ p = p' := by
  rcases h with ⟨a1, a2, a3⟩ | ⟨a1, a0, a2, a3⟩ | ⟨a1, i, i1, i2, i3, a2, a3⟩ | ⟨a1, a0, al, a2, a3⟩ | ⟨a1, a0, al, a2, a3⟩ <;> rcases h' with ⟨b1, b2, b3⟩ | ⟨b1, b0, b2, b3⟩ | ⟨b1, j, j1, j2, j3, b2, b3⟩ | ⟨b1, b0, bl, b2, b3⟩ | ⟨b1, b0, bl, b2, b3⟩
  · omega
  · exact absurd b1 a1
  · exact absurd b1 a1
  · exact absurd b1 a1
  · exact absurd b1 a1
  · exact absurd a1 b1
  · omega
  · omega
  · omega
  · omega
  · exact absurd a1 b1
  · omega
  · have e : i = j := by
      rcases Nat.lt_trichotomy i j with q | q | q
      · have := j3 i q; omega
      · exact q
      · have := i3 j q; omega
    subst e
    omega
  · have := b0.2 i i1; omega
  · have := b0.2 i i1; omega
  · exact absurd a1 b1
  · omega
  · have := a0.2 j j1; omega
  · omega
  · omega
  · exact absurd a1 b1
  · omega
  · have := a0.2 j j1; omega
  · omega
  · omega
end Na
/-- what radix.Parse answers -/
def ParseRes (w : World) (T code p : Int) (e : Ending) (w' : World) : Prop :=
  ((code = 0 ∧ ∃ v, e = .returned (.tuple #[v, .nilIface]) ∧ Own .u64 w' w.heap.size 52 v (words T)) ∨
   (code ≠ 0 ∧ ∃ g, e = .returned (.tuple #[.slice none 0 0, .iface 91 (.pointer (some ⟨g, 0, none⟩))]) ∧ FaultAt w' g p code)) ∧ Below w.heap.size w w'
set_option maxHeartbeats 3200000 in
set_option maxRecDepth 100000 in
theorem parseG_any (s : ByteArray) (b : Int) (hb : 2 ≤ b) (hb9 : b ≤ 36) (hs : s.size ≤ 10000000) (h0 : 0 < s.size) (hd : ∀ i, i < s.size → dgt s i < b) (w : World) :
    Calls Tryz.prog 14 #[.string s, .int .i64 b] w fun e w' => ∃ code p, PCode s b code p ∧ ParseRes w (numB s b s.size) code p e w' := by
  have hk : knownB b = true := by unfold knownB; simp; omega
  have kc := known_any b w
  rw [hk] at kc
  have wc := wrong_any s b hb hb9 (by unfold maxLen; omega) w
  have HG : Hid (0 < s.size ∧ ∀ i, i < s.size → dgt s i < b) := ⟨h0, hd⟩
  go_enter Tryz.func14, Tryz.ntmps14
  go_wp2_with fail
  refine kc.mono ?_
  rintro e w' ⟨rfl, rfl⟩
  go_wp2_with fail
  refine wc.mono ?_
  rintro e w1 ⟨at', ok, rfl, hwr, hb1⟩
  have hok : ok = false := by
    rcases hwr with ⟨_, q1, q2, _⟩ | ⟨_, q1, _⟩ | ⟨q, _⟩
    · have := hd at' q1; omega
    · omega
    · exact q
  subst hok
  clear kc wc hk hwr
  go_wp2_with fail
  refine (trimLeft_any s w1).mono ?_
  rintro e w' ⟨t, rfl, ⟨k, hF, hz, hnz⟩, rfl⟩
  have hts := hF.size
  have hkk := hF.2
  have hT : Hid (numB t b t.size = numB s b s.size) := by
    show _ = _
    rw [numB_from hF hz, hts]
    congr 1; omega
  have htd : ∀ i, i < t.size → dgt t i < b := fun i hi => by rw [from_dgt hF]; exact hd _ (by omega)
  have htp : Hid (1 ≤ t.size → b ^ (t.size - 1) ≤ numB t b t.size) := fun q => by
    have p0 : 1 ≤ dgt t 0 := by
      rw [from_dgt hF, Nat.add_zero]
      exact dgt_pos (hnz (by omega))
    have := numB_ge hb p0 (t.size - 1)
    rw [show t.size - 1 + 1 = t.size by omega] at this
    exact this
  have hsz : t.size ≤ 10000000 := by omega
  clear hF hz hnz hts hkk hd
  have hsh := surelyHuge_any t.size b hb hb9 (by omega) w1
  go_wp2_with fail
  refine hsh.mono ?_
  rintro e w2 ⟨H, rfl, hH, hb2⟩
  have hB2 := hb1.trans (hb2.mono hb1.size)
  clear hsh
  cases H with
  | true =>
    obtain ⟨q1, q2⟩ := hH rfl
    have hbig := q2 _ (htp.out q1)
    rw [hT.out] at hbig
    have HP : PCode s b 21 0 := Or.inr (Or.inr (Or.inr (Or.inl ⟨⟨hb, hb9⟩, HG.out, hbig, rfl, rfl⟩)))
    clear q2 htp hT hH hbig
    go_wp2_with fail
    refine (wrapF_any 0 21 w2).mono ?_
    rintro e w3 ⟨g, rfl, hf, hb3⟩
    have hB3 := hB2.trans (hb3.mono hB2.size)
    go_wp2
    go_ret2
    exact ⟨21, 0, HP, Or.inr ⟨by omega, g, rfl, hf⟩, hB3⟩
  | false =>
    clear hH htp
    have hnm := number_any t b hb hb9 (by omega) htd w2
    rw [hT.out] at hnm
    go_wp2_with fail
    refine hnm.mono ?_
    rintro e w3 ⟨v, rfl, hv, hb3⟩
    have hB3 := hB2.trans (hb3.mono hB2.size)
    have hv3 := hv.wider hB2.size
    obtain ⟨va, vc, rfl, hvr⟩ := hv.readsC
    clear hnm hvr hv
    by_cases hbig : 4096 < (words (numB s b s.size)).length
    · have HP : PCode s b 21 0 := Or.inr (Or.inr (Or.inr (Or.inl ⟨⟨hb, hb9⟩, HG.out, hbig, rfl, rfl⟩)))
      clear hv3
      generalize (words (numB s b s.size)).length = l at *
      go_wp2_with fail
      refine (wrapF_any 0 21 w3).mono ?_
      rintro e w4 ⟨g, rfl, hf, hb4⟩
      have hB4 := hB3.trans (hb4.mono hB3.size)
      go_wp2
      go_ret2
      exact ⟨21, 0, HP, Or.inr ⟨by omega, g, rfl, hf⟩, hB4⟩
    · have HP : PCode s b 0 (-1) := Or.inr (Or.inr (Or.inr (Or.inr ⟨⟨hb, hb9⟩, HG.out, by omega, rfl, rfl⟩)))
      have HV : Hid (Own .u64 w3 w.heap.size 52 (.slice va (words (numB s b s.size)).length vc) (words (numB s b s.size))) := hv3
      clear hv3
      generalize hl : (words (numB s b s.size)).length = l at *
      clear hl
      go_wp2
      go_ret2
      exact ⟨0, -1, HP, Or.inl ⟨rfl, _, rfl, HV.out⟩, hB3⟩
set_option maxHeartbeats 1600000 in
set_option maxRecDepth 100000 in
theorem parseF_any (s : ByteArray) (b : Int) (hs : s.size ≤ 10000000) (w : World) :
    Calls Tryz.prog 14 #[.string s, .int .i64 b] w fun e w' => ∃ code p, PCode s b code p ∧ ParseRes w (numB s b s.size) code p e w' := by
  by_cases hb : 2 ≤ b ∧ b ≤ 36
  · by_cases hg : 0 < s.size ∧ ∀ i, i < s.size → dgt s i < b
    · exact parseG_any s b hb.1 hb.2 hs hg.1 hg.2 w
    · have hk : knownB b = true := by unfold knownB; simp; omega
      have kc := known_any b w
      rw [hk] at kc
      have wc := wrong_any s b hb.1 hb.2 (by unfold maxLen; omega) w
      go_enter Tryz.func14, Tryz.ntmps14
      go_wp2_with fail
      refine kc.mono ?_
      rintro e w' ⟨rfl, rfl⟩
      go_wp2_with fail
      refine wc.mono ?_
      rintro e w1 ⟨at', ok, rfl, hwr, hb1⟩
      have hok : ok = true ∧ PCode s b 41 at' := by
        rcases hwr with ⟨q, q1, q2, q3⟩ | ⟨q, q1, q2⟩ | ⟨_, q1, _, q2⟩
        · exact ⟨q, Or.inr (Or.inr (Or.inl ⟨hb, at', q1, q2, q3, rfl, rfl⟩))⟩
        · exact ⟨q, Or.inr (Or.inl ⟨hb, q1, rfl, by omega⟩)⟩
        · exact absurd ⟨q1, q2⟩ hg
      obtain ⟨rfl, HP⟩ := hok
      clear kc wc hk hwr hg
      go_wp2_with fail
      refine (wrapF_any (at' : Int) 41 w1).mono ?_
      rintro e w2 ⟨g, rfl, hf, hb2⟩
      have hB2 := hb1.trans (hb2.mono hb1.size)
      go_wp2
      go_ret2
      exact ⟨41, at', HP, Or.inr ⟨by omega, g, rfl, hf⟩, hB2⟩
  · have hk : knownB b = false := by unfold knownB; simp; omega
    have kc := known_any b w
    rw [hk] at kc
    have HP : PCode s b 40 0 := Or.inl ⟨hb, rfl, rfl⟩
    go_enter Tryz.func14, Tryz.ntmps14
    go_wp2_with fail
    refine kc.mono ?_
    rintro e w' ⟨rfl, rfl⟩
    clear kc hk
    go_wp2_with fail
    refine (wrapF_any 0 40 w).mono ?_
    rintro e w2 ⟨g, rfl, hf, hb2⟩
    go_wp2
    go_ret2
    exact ⟨40, 0, HP, Or.inr ⟨by omega, g, rfl, hf⟩, hb2⟩
end Go.Proofs.YthibemoincgemabGreatDoor

/- plumbref04.Parse. -/
namespace Go.Proofs.YthibemoincgemabGreatDoor
open Go.ChangeShapes Go.WideShapes Go.ChangeAt Go.RowKit
open Na Ar
set_option linter.unusedVariables false
namespace Na
/-- the document's value of a byte -/
def refV (r : Int) : Int := if valN r = 36 then 99 else valN r
theorem refV_lt {r b : Int} (hb : b ≤ 36) : refV r < b ↔ valN r < b := by
  have := valN_bd r
  unfold refV
  split <;> omega
theorem refV_eq {r b : Int} (hb : b ≤ 36) (h : valN r < b) : refV r = valN r := by
  unfold refV; rw [if_neg (by omega)]
theorem refV_of {r x : Int} (h : valN r = x) (hx : x ≠ 36) : refV r = x := by unfold refV; rw [h, if_neg hx]
theorem refV_none {r : Int} (h : valN r = 36) : refV r = 99 := by unfold refV; rw [if_pos h]
theorem numB_lead {s : ByteArray} {b : Int} {f : Nat} (hb : 2 ≤ b) (hz : ∀ j, j < f → s.get! j = 48) (h1 : 1 ≤ dgt s f) (n : Nat) : b ^ n ≤ numB s b (f + n + 1) := by
  induction n with
  | zero =>
    show b ^ 0 ≤ numB s b (f + 0) * b + dgt s (f + 0)
    rw [Nat.add_zero, numB_zeros hz, Int.pow_zero, Int.zero_mul]; omega
  | succ n ih =>
    show b ^ (n + 1) ≤ numB s b (f + (n + 1)) * b + dgt s (f + (n + 1))
    have d := (valN_bd ((s.get! (f + (n + 1))).toNat : Int)).1
    have e : dgt s (f + (n + 1)) = valN ((s.get! (f + (n + 1))).toNat : Int) := rfl
    rw [Int.pow_succ]
    have m := Int.mul_le_mul_of_nonneg_right ih (show 0 ≤ b by omega)
    have e2 : f + (n + 1) = f + n + 1 := by omega
    rw [e2] at d e ⊢
    omega
/-- zeros ahead up to f, within the first i -/
def Lead (s : ByteArray) (f i : Nat) : Prop := f ≤ i ∧ (∀ j, j < f → s.get! j = 48) ∧ (f < i → s.get! f ≠ 48)
theorem lead_skip {s : ByteArray} {f i : Nat} (h : Lead s f i) (hs : ¬ (s.get! i = 48 ∧ i = f)) : Lead s f (i + 1) := by
  obtain ⟨h1, h2, h3⟩ := h
  refine ⟨by omega, h2, fun q => ?_⟩
  by_cases g : f < i
  · exact h3 g
  · have e : i = f := by omega
    intro z
    exact hs ⟨by rw [e]; exact z, e⟩
theorem lead_step {s : ByteArray} {f i : Nat} (h : Lead s f i) (hz : s.get! i = 48) (e : i = f) : Lead s (f + 1) (i + 1) := by
  obtain ⟨h1, h2, h3⟩ := h
  refine ⟨by omega, fun j hj => ?_, fun q => by omega⟩
  by_cases g : j < f
  · exact h2 j g
  · have : j = i := by omega
    rw [this]; exact hz
end Na
end Go.Proofs.YthibemoincgemabGreatDoor

/- plumbref04.Parse's walk. -/
namespace Go.Proofs.YthibemoincgemabGreatDoor
open Go.ChangeShapes Go.WideShapes Go.ChangeAt Go.RowKit
open Na Ar
set_option linter.unusedVariables false
/-- the list that the document's Parse answers -/
def pList (T code : Int) : List Int := if code = 0 then words T else []
end Go.Proofs.YthibemoincgemabGreatDoor

/-
  errors.As AT THE TARGETS of package spotter's 'is', for the errors of packages pattern and engine: the parts. Made by mkas.py.
-/
import Derived.Test.YtapoccocbcdgeaaDoorBase
import Derived.LaidEql
import Derived.Stop.Asserts
import Derived.RowKitTokens
namespace Go.Proofs.YtapoccocbcdgeaaDoor
open Go.RowKit Go.Extern.Stop Go.Stop Go.Extern

theorem Tryd.methodKind (h : Value) (w : World) : (Go.method (176 + 100) 128 (.agg #[h]) "Kind").run Tryd.prog w = .ok (74, h) w := by kernel_rfl
theorem Tryd.methodElem (h : Value) (w : World) : (Go.method (176 + 100) 128 (.agg #[h]) "Elem").run Tryd.prog w = .ok (90, .agg #[h]) w := by kernel_rfl
theorem Tryd.methodImplements (h : Value) (w : World) : (Go.method (176 + 100) 128 (.agg #[h]) "Implements").run Tryd.prog w = .ok (91, .agg #[h]) w := by kernel_rfl
theorem Tryd.methodAssignableTo (h : Value) (w : World) : (Go.method (176 + 100) 128 (.agg #[h]) "AssignableTo").run Tryd.prog w = .ok (88, .agg #[h]) w := by kernel_rfl
theorem rlm (z : Sem Value) (f : TypeId → Addr → Nat → Nat → Sem Value) (v : Value) :
    ReflectliteValue.method z f #[v] = (do match ← ReflectliteValue.parts v with | none => z | some (t, a, fl) => f t a fl (fl % 32)) := rfl
theorem run_two {P : Program} {α β : Type} (x : Sem α) (y : Sem β) {k : α → β → Sem Value} {m : Sem Value} {W : World} {r : Result Value} (e : m = (x >>= fun p => y >>= fun q => k p q)) (h : (x >>= fun p => y >>= fun q => k p q).run P W = r) : m.run P W = r := by rw [e]; exact h

theorem Tryd.valueOfPLong (t : Addr) (w : World) : (ReflectliteValue.unpack (.iface 83 (.pointer (some t)))).run Tryd.prog w
    = .ok (.agg #[.pointer (some ⟨8, 83, none⟩), .pointer (some ⟨w.heap.size, 0, none⟩), .int .u64 150]) (w.alloc (.cells #[.pointer (some t)] 83)) := by kernel_rfl
theorem Tryd.typePLong (a : Addr) (w : World) : (ReflectliteValue.methodAny (ReflectliteValue.valueError "reflectlite.Value.Type" 0) (fun t _ _ _ => ReflectliteType.toType t) #[.agg #[.pointer (some ⟨8, 83, none⟩), .pointer (some a), .int .u64 150]]).run Tryd.prog w
    = .ok (.iface 128 (.agg #[.pointer (some ⟨8, 83, none⟩)])) w := by kernel_rfl
theorem Tryd.kindPLong (w : World) : ((ReflectliteType.abiMethod fun t => (fun a : Nat => Value.int IntKind.u8 (a : Int)) <$> Rtype.kind t) #[.pointer (some ⟨8, 83, none⟩)]).run Tryd.prog w = .ok (.int .u8 22) w := by kernel_rfl
theorem Tryd.kindLLong (w : World) : ((ReflectliteType.abiMethod fun t => (fun a : Nat => Value.int IntKind.u8 (a : Int)) <$> Rtype.kind t) #[.pointer (some ⟨8, 52, none⟩)]).run Tryd.prog w = .ok (.int .u8 25) w := by kernel_rfl
theorem Tryd.partsPLong (a : Addr) (w : World) : (ReflectliteValue.parts (.agg #[.pointer (some ⟨8, 83, none⟩), .pointer (some a), .int .u64 150])).run Tryd.prog w = .ok (some (83, a, 150)) w := by kernel_rfl
theorem Tryd.isNilPLong (a p : Addr) (W : World) (ha : W.cell? a = some (.pointer (some p))) :
    (ReflectliteValue.method (ReflectliteValue.valueError "reflectlite.Value.IsNil" 0) ReflectliteValue.isNil #[.agg #[.pointer (some ⟨8, 83, none⟩), .pointer (some a), .int .u64 150]]).run Tryd.prog W = .ok (.bool false) W := by
  rw [rlm]
  simp only [Sem.run_bind, Tryd.partsPLong, Result.andThen]
  simp [ReflectliteValue.isNil, loadVar, isAgg, underlying, Tryd.underlying83, ha, Result.andThen]
theorem Tryd.elemTPLong (w : World) : (ReflectliteType.method ReflectliteType.elem #[.agg #[.pointer (some ⟨8, 83, none⟩)]]).run Tryd.prog w = .ok (.iface 128 (.agg #[.pointer (some ⟨8, 52, none⟩)])) w := by kernel_rfl
theorem Tryd.implementsLLong (w : World) : (ReflectliteType.relation "Implements" ReflectliteType.implements_ #[.agg #[.pointer (some ⟨8, 52, none⟩)], .iface 128 (.agg #[.pointer (some ⟨8, 34, none⟩)])]).run Tryd.prog w = .ok (.bool true) w := by kernel_rfl
theorem Tryd.elemOfPLong (w : World) : (Rtype.elem? 83).run Tryd.prog w = .ok (some 52) w := by kernel_rfl
theorem Tryd.mkLLong (p : Addr) (w : World) : (ReflectliteValue.mk 52 p ReflectliteValue.flagAddr).run Tryd.prog w = .ok (.agg #[.pointer (some ⟨8, 52, none⟩), .pointer (some p), .int .u64 409]) w := by kernel_rfl
theorem Tryd.elemVPLong (a p : Addr) (W : World) (ha : W.cell? a = some (.pointer (some p))) :
    (ReflectliteValue.method (ReflectliteValue.valueError "reflectlite.Value.Elem" 0) ReflectliteValue.elem #[.agg #[.pointer (some ⟨8, 83, none⟩), .pointer (some a), .int .u64 150]]).run Tryd.prog W
      = .ok (.agg #[.pointer (some ⟨8, 52, none⟩), .pointer (some p), .int .u64 409]) W := by
  rw [rlm]
  simp only [Sem.run_bind, Tryd.partsPLong, Result.andThen]
  simp [ReflectliteValue.elem, loadVar, isAgg, underlying, Tryd.underlying83, ha, Result.andThen, Tryd.elemOfPLong, Tryd.mkLLong]
theorem Tryd.valueOfLLong (n : Int) (w : World) : (ReflectliteValue.unpack (.iface 52 (.agg #[.int .i64 n]))).run Tryd.prog w
    = .ok (.agg #[.pointer (some ⟨8, 52, none⟩), .pointer (some ⟨w.heap.size, 0, none⟩), .int .u64 153]) (w.alloc (.cells #[.int .i64 n] 52)) := by kernel_rfl
theorem Tryd.partsLaLong (a : Addr) (w : World) : (ReflectliteValue.parts (.agg #[.pointer (some ⟨8, 52, none⟩), .pointer (some a), .int .u64 409])).run Tryd.prog w = .ok (some (52, a, 409)) w := by kernel_rfl
theorem Tryd.partsLLong (a : Addr) (w : World) : (ReflectliteValue.parts (.agg #[.pointer (some ⟨8, 52, none⟩), .pointer (some a), .int .u64 153])).run Tryd.prog w = .ok (some (52, a, 153)) w := by kernel_rfl
theorem Tryd.directLLong (w : World) : (Rtype.directlyAssignable 52 52).run Tryd.prog w = .ok true w := by kernel_rfl

theorem Tryd.valueOfPLate (t : Addr) (w : World) : (ReflectliteValue.unpack (.iface 84 (.pointer (some t)))).run Tryd.prog w
    = .ok (.agg #[.pointer (some ⟨8, 84, none⟩), .pointer (some ⟨w.heap.size, 0, none⟩), .int .u64 150]) (w.alloc (.cells #[.pointer (some t)] 84)) := by kernel_rfl
theorem Tryd.typePLate (a : Addr) (w : World) : (ReflectliteValue.methodAny (ReflectliteValue.valueError "reflectlite.Value.Type" 0) (fun t _ _ _ => ReflectliteType.toType t) #[.agg #[.pointer (some ⟨8, 84, none⟩), .pointer (some a), .int .u64 150]]).run Tryd.prog w
    = .ok (.iface 128 (.agg #[.pointer (some ⟨8, 84, none⟩)])) w := by kernel_rfl
theorem Tryd.kindPLate (w : World) : ((ReflectliteType.abiMethod fun t => (fun a : Nat => Value.int IntKind.u8 (a : Int)) <$> Rtype.kind t) #[.pointer (some ⟨8, 84, none⟩)]).run Tryd.prog w = .ok (.int .u8 22) w := by kernel_rfl
theorem Tryd.kindLLate (w : World) : ((ReflectliteType.abiMethod fun t => (fun a : Nat => Value.int IntKind.u8 (a : Int)) <$> Rtype.kind t) #[.pointer (some ⟨8, 61, none⟩)]).run Tryd.prog w = .ok (.int .u8 25) w := by kernel_rfl
theorem Tryd.partsPLate (a : Addr) (w : World) : (ReflectliteValue.parts (.agg #[.pointer (some ⟨8, 84, none⟩), .pointer (some a), .int .u64 150])).run Tryd.prog w = .ok (some (84, a, 150)) w := by kernel_rfl
theorem Tryd.isNilPLate (a p : Addr) (W : World) (ha : W.cell? a = some (.pointer (some p))) :
    (ReflectliteValue.method (ReflectliteValue.valueError "reflectlite.Value.IsNil" 0) ReflectliteValue.isNil #[.agg #[.pointer (some ⟨8, 84, none⟩), .pointer (some a), .int .u64 150]]).run Tryd.prog W = .ok (.bool false) W := by
  rw [rlm]
  simp only [Sem.run_bind, Tryd.partsPLate, Result.andThen]
  simp [ReflectliteValue.isNil, loadVar, isAgg, underlying, Tryd.underlying84, ha, Result.andThen]
theorem Tryd.elemTPLate (w : World) : (ReflectliteType.method ReflectliteType.elem #[.agg #[.pointer (some ⟨8, 84, none⟩)]]).run Tryd.prog w = .ok (.iface 128 (.agg #[.pointer (some ⟨8, 61, none⟩)])) w := by kernel_rfl
theorem Tryd.implementsLLate (w : World) : (ReflectliteType.relation "Implements" ReflectliteType.implements_ #[.agg #[.pointer (some ⟨8, 61, none⟩)], .iface 128 (.agg #[.pointer (some ⟨8, 34, none⟩)])]).run Tryd.prog w = .ok (.bool true) w := by kernel_rfl
theorem Tryd.elemOfPLate (w : World) : (Rtype.elem? 84).run Tryd.prog w = .ok (some 61) w := by kernel_rfl
theorem Tryd.mkLLate (p : Addr) (w : World) : (ReflectliteValue.mk 61 p ReflectliteValue.flagAddr).run Tryd.prog w = .ok (.agg #[.pointer (some ⟨8, 61, none⟩), .pointer (some p), .int .u64 409]) w := by kernel_rfl
theorem Tryd.elemVPLate (a p : Addr) (W : World) (ha : W.cell? a = some (.pointer (some p))) :
    (ReflectliteValue.method (ReflectliteValue.valueError "reflectlite.Value.Elem" 0) ReflectliteValue.elem #[.agg #[.pointer (some ⟨8, 84, none⟩), .pointer (some a), .int .u64 150]]).run Tryd.prog W
      = .ok (.agg #[.pointer (some ⟨8, 61, none⟩), .pointer (some p), .int .u64 409]) W := by
  rw [rlm]
  simp only [Sem.run_bind, Tryd.partsPLate, Result.andThen]
  simp [ReflectliteValue.elem, loadVar, isAgg, underlying, Tryd.underlying84, ha, Result.andThen, Tryd.elemOfPLate, Tryd.mkLLate]
theorem Tryd.valueOfLLate (n m : Int) (w : World) : (ReflectliteValue.unpack (.iface 61 (.agg #[.int .i64 n, .int .i64 m]))).run Tryd.prog w
    = .ok (.agg #[.pointer (some ⟨8, 61, none⟩), .pointer (some ⟨w.heap.size, 0, none⟩), .int .u64 153]) (w.alloc (.cells #[.int .i64 n, .int .i64 m] 61)) := by kernel_rfl
theorem Tryd.partsLaLate (a : Addr) (w : World) : (ReflectliteValue.parts (.agg #[.pointer (some ⟨8, 61, none⟩), .pointer (some a), .int .u64 409])).run Tryd.prog w = .ok (some (61, a, 409)) w := by kernel_rfl
theorem Tryd.partsLLate (a : Addr) (w : World) : (ReflectliteValue.parts (.agg #[.pointer (some ⟨8, 61, none⟩), .pointer (some a), .int .u64 153])).run Tryd.prog w = .ok (some (61, a, 153)) w := by kernel_rfl
theorem Tryd.directLLate (w : World) : (Rtype.directlyAssignable 61 61).run Tryd.prog w = .ok true w := by kernel_rfl

theorem Tryd.valueOfPFull (t : Addr) (w : World) : (ReflectliteValue.unpack (.iface 85 (.pointer (some t)))).run Tryd.prog w
    = .ok (.agg #[.pointer (some ⟨8, 85, none⟩), .pointer (some ⟨w.heap.size, 0, none⟩), .int .u64 150]) (w.alloc (.cells #[.pointer (some t)] 85)) := by kernel_rfl
theorem Tryd.typePFull (a : Addr) (w : World) : (ReflectliteValue.methodAny (ReflectliteValue.valueError "reflectlite.Value.Type" 0) (fun t _ _ _ => ReflectliteType.toType t) #[.agg #[.pointer (some ⟨8, 85, none⟩), .pointer (some a), .int .u64 150]]).run Tryd.prog w
    = .ok (.iface 128 (.agg #[.pointer (some ⟨8, 85, none⟩)])) w := by kernel_rfl
theorem Tryd.kindPFull (w : World) : ((ReflectliteType.abiMethod fun t => (fun a : Nat => Value.int IntKind.u8 (a : Int)) <$> Rtype.kind t) #[.pointer (some ⟨8, 85, none⟩)]).run Tryd.prog w = .ok (.int .u8 22) w := by kernel_rfl
theorem Tryd.kindLFull (w : World) : ((ReflectliteType.abiMethod fun t => (fun a : Nat => Value.int IntKind.u8 (a : Int)) <$> Rtype.kind t) #[.pointer (some ⟨8, 63, none⟩)]).run Tryd.prog w = .ok (.int .u8 25) w := by kernel_rfl
theorem Tryd.partsPFull (a : Addr) (w : World) : (ReflectliteValue.parts (.agg #[.pointer (some ⟨8, 85, none⟩), .pointer (some a), .int .u64 150])).run Tryd.prog w = .ok (some (85, a, 150)) w := by kernel_rfl
theorem Tryd.isNilPFull (a p : Addr) (W : World) (ha : W.cell? a = some (.pointer (some p))) :
    (ReflectliteValue.method (ReflectliteValue.valueError "reflectlite.Value.IsNil" 0) ReflectliteValue.isNil #[.agg #[.pointer (some ⟨8, 85, none⟩), .pointer (some a), .int .u64 150]]).run Tryd.prog W = .ok (.bool false) W := by
  rw [rlm]
  simp only [Sem.run_bind, Tryd.partsPFull, Result.andThen]
  simp [ReflectliteValue.isNil, loadVar, isAgg, underlying, Tryd.underlying85, ha, Result.andThen]
theorem Tryd.elemTPFull (w : World) : (ReflectliteType.method ReflectliteType.elem #[.agg #[.pointer (some ⟨8, 85, none⟩)]]).run Tryd.prog w = .ok (.iface 128 (.agg #[.pointer (some ⟨8, 63, none⟩)])) w := by kernel_rfl
theorem Tryd.implementsLFull (w : World) : (ReflectliteType.relation "Implements" ReflectliteType.implements_ #[.agg #[.pointer (some ⟨8, 63, none⟩)], .iface 128 (.agg #[.pointer (some ⟨8, 34, none⟩)])]).run Tryd.prog w = .ok (.bool true) w := by kernel_rfl
theorem Tryd.elemOfPFull (w : World) : (Rtype.elem? 85).run Tryd.prog w = .ok (some 63) w := by kernel_rfl
theorem Tryd.mkLFull (p : Addr) (w : World) : (ReflectliteValue.mk 63 p ReflectliteValue.flagAddr).run Tryd.prog w = .ok (.agg #[.pointer (some ⟨8, 63, none⟩), .pointer (some p), .int .u64 409]) w := by kernel_rfl
theorem Tryd.elemVPFull (a p : Addr) (W : World) (ha : W.cell? a = some (.pointer (some p))) :
    (ReflectliteValue.method (ReflectliteValue.valueError "reflectlite.Value.Elem" 0) ReflectliteValue.elem #[.agg #[.pointer (some ⟨8, 85, none⟩), .pointer (some a), .int .u64 150]]).run Tryd.prog W
      = .ok (.agg #[.pointer (some ⟨8, 63, none⟩), .pointer (some p), .int .u64 409]) W := by
  rw [rlm]
  simp only [Sem.run_bind, Tryd.partsPFull, Result.andThen]
  simp [ReflectliteValue.elem, loadVar, isAgg, underlying, Tryd.underlying85, ha, Result.andThen, Tryd.elemOfPFull, Tryd.mkLFull]
theorem Tryd.valueOfLFull (s : ByteArray) (m : Int) (w : World) : (ReflectliteValue.unpack (.iface 63 (.agg #[.string s, .int .i64 m]))).run Tryd.prog w
    = .ok (.agg #[.pointer (some ⟨8, 63, none⟩), .pointer (some ⟨w.heap.size, 0, none⟩), .int .u64 153]) (w.alloc (.cells #[.string s, .int .i64 m] 63)) := by kernel_rfl
theorem Tryd.partsLaFull (a : Addr) (w : World) : (ReflectliteValue.parts (.agg #[.pointer (some ⟨8, 63, none⟩), .pointer (some a), .int .u64 409])).run Tryd.prog w = .ok (some (63, a, 409)) w := by kernel_rfl
theorem Tryd.partsLFull (a : Addr) (w : World) : (ReflectliteValue.parts (.agg #[.pointer (some ⟨8, 63, none⟩), .pointer (some a), .int .u64 153])).run Tryd.prog w = .ok (some (63, a, 153)) w := by kernel_rfl
theorem Tryd.directLFull (w : World) : (Rtype.directlyAssignable 63 63).run Tryd.prog w = .ok true w := by kernel_rfl

theorem Tryd.valueOfPBytes (t : Addr) (w : World) : (ReflectliteValue.unpack (.iface 86 (.pointer (some t)))).run Tryd.prog w
    = .ok (.agg #[.pointer (some ⟨8, 86, none⟩), .pointer (some ⟨w.heap.size, 0, none⟩), .int .u64 150]) (w.alloc (.cells #[.pointer (some t)] 86)) := by kernel_rfl
theorem Tryd.typePBytes (a : Addr) (w : World) : (ReflectliteValue.methodAny (ReflectliteValue.valueError "reflectlite.Value.Type" 0) (fun t _ _ _ => ReflectliteType.toType t) #[.agg #[.pointer (some ⟨8, 86, none⟩), .pointer (some a), .int .u64 150]]).run Tryd.prog w
    = .ok (.iface 128 (.agg #[.pointer (some ⟨8, 86, none⟩)])) w := by kernel_rfl
theorem Tryd.kindPBytes (w : World) : ((ReflectliteType.abiMethod fun t => (fun a : Nat => Value.int IntKind.u8 (a : Int)) <$> Rtype.kind t) #[.pointer (some ⟨8, 86, none⟩)]).run Tryd.prog w = .ok (.int .u8 22) w := by kernel_rfl
theorem Tryd.kindLBytes (w : World) : ((ReflectliteType.abiMethod fun t => (fun a : Nat => Value.int IntKind.u8 (a : Int)) <$> Rtype.kind t) #[.pointer (some ⟨8, 65, none⟩)]).run Tryd.prog w = .ok (.int .u8 25) w := by kernel_rfl
theorem Tryd.partsPBytes (a : Addr) (w : World) : (ReflectliteValue.parts (.agg #[.pointer (some ⟨8, 86, none⟩), .pointer (some a), .int .u64 150])).run Tryd.prog w = .ok (some (86, a, 150)) w := by kernel_rfl
theorem Tryd.isNilPBytes (a p : Addr) (W : World) (ha : W.cell? a = some (.pointer (some p))) :
    (ReflectliteValue.method (ReflectliteValue.valueError "reflectlite.Value.IsNil" 0) ReflectliteValue.isNil #[.agg #[.pointer (some ⟨8, 86, none⟩), .pointer (some a), .int .u64 150]]).run Tryd.prog W = .ok (.bool false) W := by
  rw [rlm]
  simp only [Sem.run_bind, Tryd.partsPBytes, Result.andThen]
  simp [ReflectliteValue.isNil, loadVar, isAgg, underlying, Tryd.underlying86, ha, Result.andThen]
theorem Tryd.elemTPBytes (w : World) : (ReflectliteType.method ReflectliteType.elem #[.agg #[.pointer (some ⟨8, 86, none⟩)]]).run Tryd.prog w = .ok (.iface 128 (.agg #[.pointer (some ⟨8, 65, none⟩)])) w := by kernel_rfl
theorem Tryd.implementsLBytes (w : World) : (ReflectliteType.relation "Implements" ReflectliteType.implements_ #[.agg #[.pointer (some ⟨8, 65, none⟩)], .iface 128 (.agg #[.pointer (some ⟨8, 34, none⟩)])]).run Tryd.prog w = .ok (.bool true) w := by kernel_rfl
theorem Tryd.elemOfPBytes (w : World) : (Rtype.elem? 86).run Tryd.prog w = .ok (some 65) w := by kernel_rfl
theorem Tryd.mkLBytes (p : Addr) (w : World) : (ReflectliteValue.mk 65 p ReflectliteValue.flagAddr).run Tryd.prog w = .ok (.agg #[.pointer (some ⟨8, 65, none⟩), .pointer (some p), .int .u64 409]) w := by kernel_rfl
theorem Tryd.elemVPBytes (a p : Addr) (W : World) (ha : W.cell? a = some (.pointer (some p))) :
    (ReflectliteValue.method (ReflectliteValue.valueError "reflectlite.Value.Elem" 0) ReflectliteValue.elem #[.agg #[.pointer (some ⟨8, 86, none⟩), .pointer (some a), .int .u64 150]]).run Tryd.prog W
      = .ok (.agg #[.pointer (some ⟨8, 65, none⟩), .pointer (some p), .int .u64 409]) W := by
  rw [rlm]
  simp only [Sem.run_bind, Tryd.partsPBytes, Result.andThen]
  simp [ReflectliteValue.elem, loadVar, isAgg, underlying, Tryd.underlying86, ha, Result.andThen, Tryd.elemOfPBytes, Tryd.mkLBytes]
theorem Tryd.valueOfLBytes (n : Int) (s : ByteArray) (w : World) : (ReflectliteValue.unpack (.iface 65 (.agg #[.int .i64 n, .string s]))).run Tryd.prog w
    = .ok (.agg #[.pointer (some ⟨8, 65, none⟩), .pointer (some ⟨w.heap.size, 0, none⟩), .int .u64 153]) (w.alloc (.cells #[.int .i64 n, .string s] 65)) := by kernel_rfl
theorem Tryd.partsLaBytes (a : Addr) (w : World) : (ReflectliteValue.parts (.agg #[.pointer (some ⟨8, 65, none⟩), .pointer (some a), .int .u64 409])).run Tryd.prog w = .ok (some (65, a, 409)) w := by kernel_rfl
theorem Tryd.partsLBytes (a : Addr) (w : World) : (ReflectliteValue.parts (.agg #[.pointer (some ⟨8, 65, none⟩), .pointer (some a), .int .u64 153])).run Tryd.prog w = .ok (some (65, a, 153)) w := by kernel_rfl
theorem Tryd.directLBytes (w : World) : (Rtype.directlyAssignable 65 65).run Tryd.prog w = .ok true w := by kernel_rfl

theorem Tryd.typeOfSyntax (v : Value) (w : World) : (ReflectliteType.typeOf #[.iface 57 v]).run Tryd.prog w = .ok (.iface 128 (.agg #[.pointer (some ⟨8, 57, none⟩)])) w := by kernel_rfl
theorem Tryd.noAsSyntax (v : Value) (x : TypeId) (w : World) : (Instr.typeAssert (.iface 57 v) x 133 true).run Tryd.prog w = .ok (.tuple #[.nilIface, .bool false]) w := run_typeAssert_lacksB Tryd.underlying133 (by kernel_rfl) (by kernel_rfl) v x w
theorem Tryd.noUnwrapSyntax (v : Value) (x : TypeId) (w : World) : (Instr.typeAssert (.iface 57 v) x 136 true).run Tryd.prog w = .ok (.tuple #[.nilIface, .bool false]) w := run_typeAssert_lacksB Tryd.underlying136 (by kernel_rfl) (by kernel_rfl) v x w
theorem Tryd.noUnwrapsSyntax (v : Value) (x : TypeId) (w : World) : (Instr.typeAssert (.iface 57 v) x 138 true).run Tryd.prog w = .ok (.tuple #[.nilIface, .bool false]) w := run_typeAssert_lacksB Tryd.underlying138 (by kernel_rfl) (by kernel_rfl) v x w

theorem Tryd.typeOfLong (v : Value) (w : World) : (ReflectliteType.typeOf #[.iface 52 v]).run Tryd.prog w = .ok (.iface 128 (.agg #[.pointer (some ⟨8, 52, none⟩)])) w := by kernel_rfl
theorem Tryd.noAsLong (v : Value) (x : TypeId) (w : World) : (Instr.typeAssert (.iface 52 v) x 133 true).run Tryd.prog w = .ok (.tuple #[.nilIface, .bool false]) w := run_typeAssert_lacksB Tryd.underlying133 (by kernel_rfl) (by kernel_rfl) v x w
theorem Tryd.noUnwrapLong (v : Value) (x : TypeId) (w : World) : (Instr.typeAssert (.iface 52 v) x 136 true).run Tryd.prog w = .ok (.tuple #[.nilIface, .bool false]) w := run_typeAssert_lacksB Tryd.underlying136 (by kernel_rfl) (by kernel_rfl) v x w
theorem Tryd.noUnwrapsLong (v : Value) (x : TypeId) (w : World) : (Instr.typeAssert (.iface 52 v) x 138 true).run Tryd.prog w = .ok (.tuple #[.nilIface, .bool false]) w := run_typeAssert_lacksB Tryd.underlying138 (by kernel_rfl) (by kernel_rfl) v x w

theorem Tryd.typeOfLate (v : Value) (w : World) : (ReflectliteType.typeOf #[.iface 61 v]).run Tryd.prog w = .ok (.iface 128 (.agg #[.pointer (some ⟨8, 61, none⟩)])) w := by kernel_rfl
theorem Tryd.noAsLate (v : Value) (x : TypeId) (w : World) : (Instr.typeAssert (.iface 61 v) x 133 true).run Tryd.prog w = .ok (.tuple #[.nilIface, .bool false]) w := run_typeAssert_lacksB Tryd.underlying133 (by kernel_rfl) (by kernel_rfl) v x w
theorem Tryd.noUnwrapLate (v : Value) (x : TypeId) (w : World) : (Instr.typeAssert (.iface 61 v) x 136 true).run Tryd.prog w = .ok (.tuple #[.nilIface, .bool false]) w := run_typeAssert_lacksB Tryd.underlying136 (by kernel_rfl) (by kernel_rfl) v x w
theorem Tryd.noUnwrapsLate (v : Value) (x : TypeId) (w : World) : (Instr.typeAssert (.iface 61 v) x 138 true).run Tryd.prog w = .ok (.tuple #[.nilIface, .bool false]) w := run_typeAssert_lacksB Tryd.underlying138 (by kernel_rfl) (by kernel_rfl) v x w

theorem Tryd.typeOfFull (v : Value) (w : World) : (ReflectliteType.typeOf #[.iface 63 v]).run Tryd.prog w = .ok (.iface 128 (.agg #[.pointer (some ⟨8, 63, none⟩)])) w := by kernel_rfl
theorem Tryd.noAsFull (v : Value) (x : TypeId) (w : World) : (Instr.typeAssert (.iface 63 v) x 133 true).run Tryd.prog w = .ok (.tuple #[.nilIface, .bool false]) w := run_typeAssert_lacksB Tryd.underlying133 (by kernel_rfl) (by kernel_rfl) v x w
theorem Tryd.noUnwrapFull (v : Value) (x : TypeId) (w : World) : (Instr.typeAssert (.iface 63 v) x 136 true).run Tryd.prog w = .ok (.tuple #[.nilIface, .bool false]) w := run_typeAssert_lacksB Tryd.underlying136 (by kernel_rfl) (by kernel_rfl) v x w
theorem Tryd.noUnwrapsFull (v : Value) (x : TypeId) (w : World) : (Instr.typeAssert (.iface 63 v) x 138 true).run Tryd.prog w = .ok (.tuple #[.nilIface, .bool false]) w := run_typeAssert_lacksB Tryd.underlying138 (by kernel_rfl) (by kernel_rfl) v x w

theorem Tryd.typeOfBytes (v : Value) (w : World) : (ReflectliteType.typeOf #[.iface 65 v]).run Tryd.prog w = .ok (.iface 128 (.agg #[.pointer (some ⟨8, 65, none⟩)])) w := by kernel_rfl
theorem Tryd.noAsBytes (v : Value) (x : TypeId) (w : World) : (Instr.typeAssert (.iface 65 v) x 133 true).run Tryd.prog w = .ok (.tuple #[.nilIface, .bool false]) w := run_typeAssert_lacksB Tryd.underlying133 (by kernel_rfl) (by kernel_rfl) v x w
theorem Tryd.noUnwrapBytes (v : Value) (x : TypeId) (w : World) : (Instr.typeAssert (.iface 65 v) x 136 true).run Tryd.prog w = .ok (.tuple #[.nilIface, .bool false]) w := run_typeAssert_lacksB Tryd.underlying136 (by kernel_rfl) (by kernel_rfl) v x w
theorem Tryd.noUnwrapsBytes (v : Value) (x : TypeId) (w : World) : (Instr.typeAssert (.iface 65 v) x 138 true).run Tryd.prog w = .ok (.tuple #[.nilIface, .bool false]) w := run_typeAssert_lacksB Tryd.underlying138 (by kernel_rfl) (by kernel_rfl) v x w
theorem Tryd.assignableLongSyntax (w : World) : (ReflectliteType.relation "AssignableTo" ReflectliteType.assignableTo #[.agg #[.pointer (some ⟨8, 57, none⟩)], .iface 128 (.agg #[.pointer (some ⟨8, 52, none⟩)])]).run Tryd.prog w = .ok (.bool false) w := by kernel_rfl
theorem Tryd.assignableLateSyntax (w : World) : (ReflectliteType.relation "AssignableTo" ReflectliteType.assignableTo #[.agg #[.pointer (some ⟨8, 57, none⟩)], .iface 128 (.agg #[.pointer (some ⟨8, 61, none⟩)])]).run Tryd.prog w = .ok (.bool false) w := by kernel_rfl
theorem Tryd.assignableFullSyntax (w : World) : (ReflectliteType.relation "AssignableTo" ReflectliteType.assignableTo #[.agg #[.pointer (some ⟨8, 57, none⟩)], .iface 128 (.agg #[.pointer (some ⟨8, 63, none⟩)])]).run Tryd.prog w = .ok (.bool false) w := by kernel_rfl
theorem Tryd.assignableLongLate (w : World) : (ReflectliteType.relation "AssignableTo" ReflectliteType.assignableTo #[.agg #[.pointer (some ⟨8, 61, none⟩)], .iface 128 (.agg #[.pointer (some ⟨8, 52, none⟩)])]).run Tryd.prog w = .ok (.bool false) w := by kernel_rfl
theorem Tryd.assignableLongFull (w : World) : (ReflectliteType.relation "AssignableTo" ReflectliteType.assignableTo #[.agg #[.pointer (some ⟨8, 63, none⟩)], .iface 128 (.agg #[.pointer (some ⟨8, 52, none⟩)])]).run Tryd.prog w = .ok (.bool false) w := by kernel_rfl
theorem Tryd.assignableLateFull (w : World) : (ReflectliteType.relation "AssignableTo" ReflectliteType.assignableTo #[.agg #[.pointer (some ⟨8, 63, none⟩)], .iface 128 (.agg #[.pointer (some ⟨8, 61, none⟩)])]).run Tryd.prog w = .ok (.bool false) w := by kernel_rfl
theorem Tryd.assignableBytesSyntax (w : World) : (ReflectliteType.relation "AssignableTo" ReflectliteType.assignableTo #[.agg #[.pointer (some ⟨8, 57, none⟩)], .iface 128 (.agg #[.pointer (some ⟨8, 65, none⟩)])]).run Tryd.prog w = .ok (.bool false) w := by kernel_rfl
theorem Tryd.assignableLongBytes (w : World) : (ReflectliteType.relation "AssignableTo" ReflectliteType.assignableTo #[.agg #[.pointer (some ⟨8, 65, none⟩)], .iface 128 (.agg #[.pointer (some ⟨8, 52, none⟩)])]).run Tryd.prog w = .ok (.bool false) w := by kernel_rfl
theorem Tryd.assignableLateBytes (w : World) : (ReflectliteType.relation "AssignableTo" ReflectliteType.assignableTo #[.agg #[.pointer (some ⟨8, 65, none⟩)], .iface 128 (.agg #[.pointer (some ⟨8, 61, none⟩)])]).run Tryd.prog w = .ok (.bool false) w := by kernel_rfl
theorem Tryd.assignableFullBytes (w : World) : (ReflectliteType.relation "AssignableTo" ReflectliteType.assignableTo #[.agg #[.pointer (some ⟨8, 65, none⟩)], .iface 128 (.agg #[.pointer (some ⟨8, 63, none⟩)])]).run Tryd.prog w = .ok (.bool false) w := by kernel_rfl
theorem Tryd.assignableLongLong (w : World) : (ReflectliteType.relation "AssignableTo" ReflectliteType.assignableTo #[.agg #[.pointer (some ⟨8, 52, none⟩)], .iface 128 (.agg #[.pointer (some ⟨8, 52, none⟩)])]).run Tryd.prog w = .ok (.bool true) w := by kernel_rfl
theorem Tryd.assignableLateLate (w : World) : (ReflectliteType.relation "AssignableTo" ReflectliteType.assignableTo #[.agg #[.pointer (some ⟨8, 61, none⟩)], .iface 128 (.agg #[.pointer (some ⟨8, 61, none⟩)])]).run Tryd.prog w = .ok (.bool true) w := by kernel_rfl
theorem Tryd.assignableFullFull (w : World) : (ReflectliteType.relation "AssignableTo" ReflectliteType.assignableTo #[.agg #[.pointer (some ⟨8, 63, none⟩)], .iface 128 (.agg #[.pointer (some ⟨8, 63, none⟩)])]).run Tryd.prog w = .ok (.bool true) w := by kernel_rfl
theorem Tryd.assignableBytesBytes (w : World) : (ReflectliteType.relation "AssignableTo" ReflectliteType.assignableTo #[.agg #[.pointer (some ⟨8, 65, none⟩)], .iface 128 (.agg #[.pointer (some ⟨8, 65, none⟩)])]).run Tryd.prog w = .ok (.bool true) w := by kernel_rfl

end Go.Proofs.YtapoccocbcdgeaaDoor

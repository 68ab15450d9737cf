/-
  errors.As AT THE TARGETS of package spotter's 'is', for the errors of packages pattern and engine: the parts. Made by mkas.py.
-/
import Derived.Test.YtfldcmdhneegmaaDoorBase
import Derived.LaidEql
import Derived.Stop.Asserts
import Derived.RowKitTokens
namespace Go.Proofs.YtfldcmdhneegmaaDoor
open Go.RowKit Go.Extern.Stop Go.Stop Go.Extern

theorem Tryd.methodKind (h : Value) (w : World) : (Go.method (232 + 100) 181 (.agg #[h]) "Kind").run Tryd.prog w = .ok (120, h) w := by kernel_rfl
theorem Tryd.methodElem (h : Value) (w : World) : (Go.method (232 + 100) 181 (.agg #[h]) "Elem").run Tryd.prog w = .ok (141, .agg #[h]) w := by kernel_rfl
theorem Tryd.methodImplements (h : Value) (w : World) : (Go.method (232 + 100) 181 (.agg #[h]) "Implements").run Tryd.prog w = .ok (142, .agg #[h]) w := by kernel_rfl
theorem Tryd.methodAssignableTo (h : Value) (w : World) : (Go.method (232 + 100) 181 (.agg #[h]) "AssignableTo").run Tryd.prog w = .ok (139, .agg #[h]) w := by kernel_rfl
theorem rlm (z : Sem Value) (f : TypeId → Addr → Nat → Nat → Sem Value) (v : Value) :
    ReflectliteValue.method z f #[v] = (do match ← ReflectliteValue.parts v with | none => z | some (t, a, fl) => f t a fl (fl % 32)) := rfl
theorem run_two {P : Program} {α β : Type} (x : Sem α) (y : Sem β) {k : α → β → Sem Value} {m : Sem Value} {W : World} {r : Result Value} (e : m = (x >>= fun p => y >>= fun q => k p q)) (h : (x >>= fun p => y >>= fun q => k p q).run P W = r) : m.run P W = r := by rw [e]; exact h

theorem Tryd.valueOfPLong (t : Addr) (w : World) : (ReflectliteValue.unpack (.iface 109 (.pointer (some t)))).run Tryd.prog w
    = .ok (.agg #[.pointer (some ⟨8, 109, none⟩), .pointer (some ⟨w.heap.size, 0, none⟩), .int .u64 150]) (w.alloc (.cells #[.pointer (some t)] 109)) := by kernel_rfl
theorem Tryd.typePLong (a : Addr) (w : World) : (ReflectliteValue.methodAny (ReflectliteValue.valueError "reflectlite.Value.Type" 0) (fun t _ _ _ => ReflectliteType.toType t) #[.agg #[.pointer (some ⟨8, 109, none⟩), .pointer (some a), .int .u64 150]]).run Tryd.prog w
    = .ok (.iface 181 (.agg #[.pointer (some ⟨8, 109, none⟩)])) w := by kernel_rfl
theorem Tryd.kindPLong (w : World) : ((ReflectliteType.abiMethod fun t => Functor.map (fun a : Nat => Value.int IntKind.u8 (a : Int)) (Rtype.kind t)) #[.pointer (some ⟨8, 109, none⟩)]).run Tryd.prog w = .ok (.int .u8 22) w := by kernel_rfl
theorem Tryd.kindLLong (w : World) : ((ReflectliteType.abiMethod fun t => Functor.map (fun a : Nat => Value.int IntKind.u8 (a : Int)) (Rtype.kind t)) #[.pointer (some ⟨8, 67, none⟩)]).run Tryd.prog w = .ok (.int .u8 25) w := by kernel_rfl
theorem Tryd.partsPLong (a : Addr) (w : World) : (ReflectliteValue.parts (.agg #[.pointer (some ⟨8, 109, none⟩), .pointer (some a), .int .u64 150])).run Tryd.prog w = .ok (some (109, a, 150)) w := by kernel_rfl
theorem Tryd.isNilPLong (a p : Addr) (W : World) (ha : W.cell? a = some (.pointer (some p))) :
    (ReflectliteValue.method (ReflectliteValue.valueError "reflectlite.Value.IsNil" 0) ReflectliteValue.isNil #[.agg #[.pointer (some ⟨8, 109, none⟩), .pointer (some a), .int .u64 150]]).run Tryd.prog W = .ok (.bool false) W := by
  rw [rlm]
  simp only [Sem.run_bind, Tryd.partsPLong, Result.andThen]
  simp [ReflectliteValue.isNil, loadVar, isAgg, underlying, Tryd.underlying109, ha, Result.andThen]
theorem Tryd.elemTPLong (w : World) : (ReflectliteType.method ReflectliteType.elem #[.agg #[.pointer (some ⟨8, 109, none⟩)]]).run Tryd.prog w = .ok (.iface 181 (.agg #[.pointer (some ⟨8, 67, none⟩)])) w := by kernel_rfl
theorem Tryd.implementsLLong (w : World) : (ReflectliteType.relation "Implements" ReflectliteType.implements_ #[.agg #[.pointer (some ⟨8, 67, none⟩)], .iface 181 (.agg #[.pointer (some ⟨8, 39, none⟩)])]).run Tryd.prog w = .ok (.bool true) w := by kernel_rfl
theorem Tryd.elemOfPLong (w : World) : (Rtype.elem? 109).run Tryd.prog w = .ok (some 67) w := by kernel_rfl
theorem Tryd.mkLLong (p : Addr) (w : World) : (ReflectliteValue.mk 67 p ReflectliteValue.flagAddr).run Tryd.prog w = .ok (.agg #[.pointer (some ⟨8, 67, none⟩), .pointer (some p), .int .u64 409]) w := by kernel_rfl
theorem Tryd.elemVPLong (a p : Addr) (W : World) (ha : W.cell? a = some (.pointer (some p))) :
    (ReflectliteValue.method (ReflectliteValue.valueError "reflectlite.Value.Elem" 0) ReflectliteValue.elem #[.agg #[.pointer (some ⟨8, 109, none⟩), .pointer (some a), .int .u64 150]]).run Tryd.prog W
      = .ok (.agg #[.pointer (some ⟨8, 67, none⟩), .pointer (some p), .int .u64 409]) W := by
  rw [rlm]
  simp only [Sem.run_bind, Tryd.partsPLong, Result.andThen]
  simp [ReflectliteValue.elem, loadVar, isAgg, underlying, Tryd.underlying109, ha, Result.andThen, Tryd.elemOfPLong, Tryd.mkLLong]
theorem Tryd.valueOfLLong (n : Int) (w : World) : (ReflectliteValue.unpack (.iface 67 (.agg #[.int .i64 n]))).run Tryd.prog w
    = .ok (.agg #[.pointer (some ⟨8, 67, none⟩), .pointer (some ⟨w.heap.size, 0, none⟩), .int .u64 153]) (w.alloc (.cells #[.int .i64 n] 67)) := by kernel_rfl
theorem Tryd.partsLaLong (a : Addr) (w : World) : (ReflectliteValue.parts (.agg #[.pointer (some ⟨8, 67, none⟩), .pointer (some a), .int .u64 409])).run Tryd.prog w = .ok (some (67, a, 409)) w := by kernel_rfl
theorem Tryd.partsLLong (a : Addr) (w : World) : (ReflectliteValue.parts (.agg #[.pointer (some ⟨8, 67, none⟩), .pointer (some a), .int .u64 153])).run Tryd.prog w = .ok (some (67, a, 153)) w := by kernel_rfl
theorem Tryd.directLLong (w : World) : (Rtype.directlyAssignable 67 67).run Tryd.prog w = .ok true w := by kernel_rfl

theorem Tryd.valueOfPLate (t : Addr) (w : World) : (ReflectliteValue.unpack (.iface 110 (.pointer (some t)))).run Tryd.prog w
    = .ok (.agg #[.pointer (some ⟨8, 110, none⟩), .pointer (some ⟨w.heap.size, 0, none⟩), .int .u64 150]) (w.alloc (.cells #[.pointer (some t)] 110)) := by kernel_rfl
theorem Tryd.typePLate (a : Addr) (w : World) : (ReflectliteValue.methodAny (ReflectliteValue.valueError "reflectlite.Value.Type" 0) (fun t _ _ _ => ReflectliteType.toType t) #[.agg #[.pointer (some ⟨8, 110, none⟩), .pointer (some a), .int .u64 150]]).run Tryd.prog w
    = .ok (.iface 181 (.agg #[.pointer (some ⟨8, 110, none⟩)])) w := by kernel_rfl
theorem Tryd.kindPLate (w : World) : ((ReflectliteType.abiMethod fun t => Functor.map (fun a : Nat => Value.int IntKind.u8 (a : Int)) (Rtype.kind t)) #[.pointer (some ⟨8, 110, none⟩)]).run Tryd.prog w = .ok (.int .u8 22) w := by kernel_rfl
theorem Tryd.kindLLate (w : World) : ((ReflectliteType.abiMethod fun t => Functor.map (fun a : Nat => Value.int IntKind.u8 (a : Int)) (Rtype.kind t)) #[.pointer (some ⟨8, 76, none⟩)]).run Tryd.prog w = .ok (.int .u8 25) w := by kernel_rfl
theorem Tryd.partsPLate (a : Addr) (w : World) : (ReflectliteValue.parts (.agg #[.pointer (some ⟨8, 110, none⟩), .pointer (some a), .int .u64 150])).run Tryd.prog w = .ok (some (110, a, 150)) w := by kernel_rfl
theorem Tryd.isNilPLate (a p : Addr) (W : World) (ha : W.cell? a = some (.pointer (some p))) :
    (ReflectliteValue.method (ReflectliteValue.valueError "reflectlite.Value.IsNil" 0) ReflectliteValue.isNil #[.agg #[.pointer (some ⟨8, 110, none⟩), .pointer (some a), .int .u64 150]]).run Tryd.prog W = .ok (.bool false) W := by
  rw [rlm]
  simp only [Sem.run_bind, Tryd.partsPLate, Result.andThen]
  simp [ReflectliteValue.isNil, loadVar, isAgg, underlying, Tryd.underlying110, ha, Result.andThen]
theorem Tryd.elemTPLate (w : World) : (ReflectliteType.method ReflectliteType.elem #[.agg #[.pointer (some ⟨8, 110, none⟩)]]).run Tryd.prog w = .ok (.iface 181 (.agg #[.pointer (some ⟨8, 76, none⟩)])) w := by kernel_rfl
theorem Tryd.implementsLLate (w : World) : (ReflectliteType.relation "Implements" ReflectliteType.implements_ #[.agg #[.pointer (some ⟨8, 76, none⟩)], .iface 181 (.agg #[.pointer (some ⟨8, 39, none⟩)])]).run Tryd.prog w = .ok (.bool true) w := by kernel_rfl
theorem Tryd.elemOfPLate (w : World) : (Rtype.elem? 110).run Tryd.prog w = .ok (some 76) w := by kernel_rfl
theorem Tryd.mkLLate (p : Addr) (w : World) : (ReflectliteValue.mk 76 p ReflectliteValue.flagAddr).run Tryd.prog w = .ok (.agg #[.pointer (some ⟨8, 76, none⟩), .pointer (some p), .int .u64 409]) w := by kernel_rfl
theorem Tryd.elemVPLate (a p : Addr) (W : World) (ha : W.cell? a = some (.pointer (some p))) :
    (ReflectliteValue.method (ReflectliteValue.valueError "reflectlite.Value.Elem" 0) ReflectliteValue.elem #[.agg #[.pointer (some ⟨8, 110, none⟩), .pointer (some a), .int .u64 150]]).run Tryd.prog W
      = .ok (.agg #[.pointer (some ⟨8, 76, none⟩), .pointer (some p), .int .u64 409]) W := by
  rw [rlm]
  simp only [Sem.run_bind, Tryd.partsPLate, Result.andThen]
  simp [ReflectliteValue.elem, loadVar, isAgg, underlying, Tryd.underlying110, ha, Result.andThen, Tryd.elemOfPLate, Tryd.mkLLate]
theorem Tryd.valueOfLLate (n m : Int) (w : World) : (ReflectliteValue.unpack (.iface 76 (.agg #[.int .i64 n, .int .i64 m]))).run Tryd.prog w
    = .ok (.agg #[.pointer (some ⟨8, 76, none⟩), .pointer (some ⟨w.heap.size, 0, none⟩), .int .u64 153]) (w.alloc (.cells #[.int .i64 n, .int .i64 m] 76)) := by kernel_rfl
theorem Tryd.partsLaLate (a : Addr) (w : World) : (ReflectliteValue.parts (.agg #[.pointer (some ⟨8, 76, none⟩), .pointer (some a), .int .u64 409])).run Tryd.prog w = .ok (some (76, a, 409)) w := by kernel_rfl
theorem Tryd.partsLLate (a : Addr) (w : World) : (ReflectliteValue.parts (.agg #[.pointer (some ⟨8, 76, none⟩), .pointer (some a), .int .u64 153])).run Tryd.prog w = .ok (some (76, a, 153)) w := by kernel_rfl
theorem Tryd.directLLate (w : World) : (Rtype.directlyAssignable 76 76).run Tryd.prog w = .ok true w := by kernel_rfl

theorem Tryd.valueOfPFull (t : Addr) (w : World) : (ReflectliteValue.unpack (.iface 111 (.pointer (some t)))).run Tryd.prog w
    = .ok (.agg #[.pointer (some ⟨8, 111, none⟩), .pointer (some ⟨w.heap.size, 0, none⟩), .int .u64 150]) (w.alloc (.cells #[.pointer (some t)] 111)) := by kernel_rfl
theorem Tryd.typePFull (a : Addr) (w : World) : (ReflectliteValue.methodAny (ReflectliteValue.valueError "reflectlite.Value.Type" 0) (fun t _ _ _ => ReflectliteType.toType t) #[.agg #[.pointer (some ⟨8, 111, none⟩), .pointer (some a), .int .u64 150]]).run Tryd.prog w
    = .ok (.iface 181 (.agg #[.pointer (some ⟨8, 111, none⟩)])) w := by kernel_rfl
theorem Tryd.kindPFull (w : World) : ((ReflectliteType.abiMethod fun t => Functor.map (fun a : Nat => Value.int IntKind.u8 (a : Int)) (Rtype.kind t)) #[.pointer (some ⟨8, 111, none⟩)]).run Tryd.prog w = .ok (.int .u8 22) w := by kernel_rfl
theorem Tryd.kindLFull (w : World) : ((ReflectliteType.abiMethod fun t => Functor.map (fun a : Nat => Value.int IntKind.u8 (a : Int)) (Rtype.kind t)) #[.pointer (some ⟨8, 78, none⟩)]).run Tryd.prog w = .ok (.int .u8 25) w := by kernel_rfl
theorem Tryd.partsPFull (a : Addr) (w : World) : (ReflectliteValue.parts (.agg #[.pointer (some ⟨8, 111, none⟩), .pointer (some a), .int .u64 150])).run Tryd.prog w = .ok (some (111, a, 150)) w := by kernel_rfl
theorem Tryd.isNilPFull (a p : Addr) (W : World) (ha : W.cell? a = some (.pointer (some p))) :
    (ReflectliteValue.method (ReflectliteValue.valueError "reflectlite.Value.IsNil" 0) ReflectliteValue.isNil #[.agg #[.pointer (some ⟨8, 111, none⟩), .pointer (some a), .int .u64 150]]).run Tryd.prog W = .ok (.bool false) W := by
  rw [rlm]
  simp only [Sem.run_bind, Tryd.partsPFull, Result.andThen]
  simp [ReflectliteValue.isNil, loadVar, isAgg, underlying, Tryd.underlying111, ha, Result.andThen]
theorem Tryd.elemTPFull (w : World) : (ReflectliteType.method ReflectliteType.elem #[.agg #[.pointer (some ⟨8, 111, none⟩)]]).run Tryd.prog w = .ok (.iface 181 (.agg #[.pointer (some ⟨8, 78, none⟩)])) w := by kernel_rfl
theorem Tryd.implementsLFull (w : World) : (ReflectliteType.relation "Implements" ReflectliteType.implements_ #[.agg #[.pointer (some ⟨8, 78, none⟩)], .iface 181 (.agg #[.pointer (some ⟨8, 39, none⟩)])]).run Tryd.prog w = .ok (.bool true) w := by kernel_rfl
theorem Tryd.elemOfPFull (w : World) : (Rtype.elem? 111).run Tryd.prog w = .ok (some 78) w := by kernel_rfl
theorem Tryd.mkLFull (p : Addr) (w : World) : (ReflectliteValue.mk 78 p ReflectliteValue.flagAddr).run Tryd.prog w = .ok (.agg #[.pointer (some ⟨8, 78, none⟩), .pointer (some p), .int .u64 409]) w := by kernel_rfl
theorem Tryd.elemVPFull (a p : Addr) (W : World) (ha : W.cell? a = some (.pointer (some p))) :
    (ReflectliteValue.method (ReflectliteValue.valueError "reflectlite.Value.Elem" 0) ReflectliteValue.elem #[.agg #[.pointer (some ⟨8, 111, none⟩), .pointer (some a), .int .u64 150]]).run Tryd.prog W
      = .ok (.agg #[.pointer (some ⟨8, 78, none⟩), .pointer (some p), .int .u64 409]) W := by
  rw [rlm]
  simp only [Sem.run_bind, Tryd.partsPFull, Result.andThen]
  simp [ReflectliteValue.elem, loadVar, isAgg, underlying, Tryd.underlying111, ha, Result.andThen, Tryd.elemOfPFull, Tryd.mkLFull]
theorem Tryd.valueOfLFull (s : ByteArray) (m : Int) (w : World) : (ReflectliteValue.unpack (.iface 78 (.agg #[.string s, .int .i64 m]))).run Tryd.prog w
    = .ok (.agg #[.pointer (some ⟨8, 78, none⟩), .pointer (some ⟨w.heap.size, 0, none⟩), .int .u64 153]) (w.alloc (.cells #[.string s, .int .i64 m] 78)) := by kernel_rfl
theorem Tryd.partsLaFull (a : Addr) (w : World) : (ReflectliteValue.parts (.agg #[.pointer (some ⟨8, 78, none⟩), .pointer (some a), .int .u64 409])).run Tryd.prog w = .ok (some (78, a, 409)) w := by kernel_rfl
theorem Tryd.partsLFull (a : Addr) (w : World) : (ReflectliteValue.parts (.agg #[.pointer (some ⟨8, 78, none⟩), .pointer (some a), .int .u64 153])).run Tryd.prog w = .ok (some (78, a, 153)) w := by kernel_rfl
theorem Tryd.directLFull (w : World) : (Rtype.directlyAssignable 78 78).run Tryd.prog w = .ok true w := by kernel_rfl

theorem Tryd.valueOfPBytes (t : Addr) (w : World) : (ReflectliteValue.unpack (.iface 112 (.pointer (some t)))).run Tryd.prog w
    = .ok (.agg #[.pointer (some ⟨8, 112, none⟩), .pointer (some ⟨w.heap.size, 0, none⟩), .int .u64 150]) (w.alloc (.cells #[.pointer (some t)] 112)) := by kernel_rfl
theorem Tryd.typePBytes (a : Addr) (w : World) : (ReflectliteValue.methodAny (ReflectliteValue.valueError "reflectlite.Value.Type" 0) (fun t _ _ _ => ReflectliteType.toType t) #[.agg #[.pointer (some ⟨8, 112, none⟩), .pointer (some a), .int .u64 150]]).run Tryd.prog w
    = .ok (.iface 181 (.agg #[.pointer (some ⟨8, 112, none⟩)])) w := by kernel_rfl
theorem Tryd.kindPBytes (w : World) : ((ReflectliteType.abiMethod fun t => Functor.map (fun a : Nat => Value.int IntKind.u8 (a : Int)) (Rtype.kind t)) #[.pointer (some ⟨8, 112, none⟩)]).run Tryd.prog w = .ok (.int .u8 22) w := by kernel_rfl
theorem Tryd.kindLBytes (w : World) : ((ReflectliteType.abiMethod fun t => Functor.map (fun a : Nat => Value.int IntKind.u8 (a : Int)) (Rtype.kind t)) #[.pointer (some ⟨8, 80, none⟩)]).run Tryd.prog w = .ok (.int .u8 25) w := by kernel_rfl
theorem Tryd.partsPBytes (a : Addr) (w : World) : (ReflectliteValue.parts (.agg #[.pointer (some ⟨8, 112, none⟩), .pointer (some a), .int .u64 150])).run Tryd.prog w = .ok (some (112, a, 150)) w := by kernel_rfl
theorem Tryd.isNilPBytes (a p : Addr) (W : World) (ha : W.cell? a = some (.pointer (some p))) :
    (ReflectliteValue.method (ReflectliteValue.valueError "reflectlite.Value.IsNil" 0) ReflectliteValue.isNil #[.agg #[.pointer (some ⟨8, 112, none⟩), .pointer (some a), .int .u64 150]]).run Tryd.prog W = .ok (.bool false) W := by
  rw [rlm]
  simp only [Sem.run_bind, Tryd.partsPBytes, Result.andThen]
  simp [ReflectliteValue.isNil, loadVar, isAgg, underlying, Tryd.underlying112, ha, Result.andThen]
theorem Tryd.elemTPBytes (w : World) : (ReflectliteType.method ReflectliteType.elem #[.agg #[.pointer (some ⟨8, 112, none⟩)]]).run Tryd.prog w = .ok (.iface 181 (.agg #[.pointer (some ⟨8, 80, none⟩)])) w := by kernel_rfl
theorem Tryd.implementsLBytes (w : World) : (ReflectliteType.relation "Implements" ReflectliteType.implements_ #[.agg #[.pointer (some ⟨8, 80, none⟩)], .iface 181 (.agg #[.pointer (some ⟨8, 39, none⟩)])]).run Tryd.prog w = .ok (.bool true) w := by kernel_rfl
theorem Tryd.elemOfPBytes (w : World) : (Rtype.elem? 112).run Tryd.prog w = .ok (some 80) w := by kernel_rfl
theorem Tryd.mkLBytes (p : Addr) (w : World) : (ReflectliteValue.mk 80 p ReflectliteValue.flagAddr).run Tryd.prog w = .ok (.agg #[.pointer (some ⟨8, 80, none⟩), .pointer (some p), .int .u64 409]) w := by kernel_rfl
theorem Tryd.elemVPBytes (a p : Addr) (W : World) (ha : W.cell? a = some (.pointer (some p))) :
    (ReflectliteValue.method (ReflectliteValue.valueError "reflectlite.Value.Elem" 0) ReflectliteValue.elem #[.agg #[.pointer (some ⟨8, 112, none⟩), .pointer (some a), .int .u64 150]]).run Tryd.prog W
      = .ok (.agg #[.pointer (some ⟨8, 80, none⟩), .pointer (some p), .int .u64 409]) W := by
  rw [rlm]
  simp only [Sem.run_bind, Tryd.partsPBytes, Result.andThen]
  simp [ReflectliteValue.elem, loadVar, isAgg, underlying, Tryd.underlying112, ha, Result.andThen, Tryd.elemOfPBytes, Tryd.mkLBytes]
theorem Tryd.valueOfLBytes (n : Int) (s : ByteArray) (w : World) : (ReflectliteValue.unpack (.iface 80 (.agg #[.int .i64 n, .string s]))).run Tryd.prog w
    = .ok (.agg #[.pointer (some ⟨8, 80, none⟩), .pointer (some ⟨w.heap.size, 0, none⟩), .int .u64 153]) (w.alloc (.cells #[.int .i64 n, .string s] 80)) := by kernel_rfl
theorem Tryd.partsLaBytes (a : Addr) (w : World) : (ReflectliteValue.parts (.agg #[.pointer (some ⟨8, 80, none⟩), .pointer (some a), .int .u64 409])).run Tryd.prog w = .ok (some (80, a, 409)) w := by kernel_rfl
theorem Tryd.partsLBytes (a : Addr) (w : World) : (ReflectliteValue.parts (.agg #[.pointer (some ⟨8, 80, none⟩), .pointer (some a), .int .u64 153])).run Tryd.prog w = .ok (some (80, a, 153)) w := by kernel_rfl
theorem Tryd.directLBytes (w : World) : (Rtype.directlyAssignable 80 80).run Tryd.prog w = .ok true w := by kernel_rfl

theorem Tryd.valueOfPFault (t : Addr) (w : World) : (ReflectliteValue.unpack (.iface 113 (.pointer (some t)))).run Tryd.prog w
    = .ok (.agg #[.pointer (some ⟨8, 113, none⟩), .pointer (some ⟨w.heap.size, 0, none⟩), .int .u64 150]) (w.alloc (.cells #[.pointer (some t)] 113)) := by kernel_rfl
theorem Tryd.typePFault (a : Addr) (w : World) : (ReflectliteValue.methodAny (ReflectliteValue.valueError "reflectlite.Value.Type" 0) (fun t _ _ _ => ReflectliteType.toType t) #[.agg #[.pointer (some ⟨8, 113, none⟩), .pointer (some a), .int .u64 150]]).run Tryd.prog w
    = .ok (.iface 181 (.agg #[.pointer (some ⟨8, 113, none⟩)])) w := by kernel_rfl
theorem Tryd.kindPFault (w : World) : ((ReflectliteType.abiMethod fun t => Functor.map (fun a : Nat => Value.int IntKind.u8 (a : Int)) (Rtype.kind t)) #[.pointer (some ⟨8, 113, none⟩)]).run Tryd.prog w = .ok (.int .u8 22) w := by kernel_rfl
theorem Tryd.kindLFault (w : World) : ((ReflectliteType.abiMethod fun t => Functor.map (fun a : Nat => Value.int IntKind.u8 (a : Int)) (Rtype.kind t)) #[.pointer (some ⟨8, 82, none⟩)]).run Tryd.prog w = .ok (.int .u8 25) w := by kernel_rfl
theorem Tryd.partsPFault (a : Addr) (w : World) : (ReflectliteValue.parts (.agg #[.pointer (some ⟨8, 113, none⟩), .pointer (some a), .int .u64 150])).run Tryd.prog w = .ok (some (113, a, 150)) w := by kernel_rfl
theorem Tryd.isNilPFault (a p : Addr) (W : World) (ha : W.cell? a = some (.pointer (some p))) :
    (ReflectliteValue.method (ReflectliteValue.valueError "reflectlite.Value.IsNil" 0) ReflectliteValue.isNil #[.agg #[.pointer (some ⟨8, 113, none⟩), .pointer (some a), .int .u64 150]]).run Tryd.prog W = .ok (.bool false) W := by
  rw [rlm]
  simp only [Sem.run_bind, Tryd.partsPFault, Result.andThen]
  simp [ReflectliteValue.isNil, loadVar, isAgg, underlying, Tryd.underlying113, ha, Result.andThen]
theorem Tryd.elemTPFault (w : World) : (ReflectliteType.method ReflectliteType.elem #[.agg #[.pointer (some ⟨8, 113, none⟩)]]).run Tryd.prog w = .ok (.iface 181 (.agg #[.pointer (some ⟨8, 82, none⟩)])) w := by kernel_rfl
theorem Tryd.implementsLFault (w : World) : (ReflectliteType.relation "Implements" ReflectliteType.implements_ #[.agg #[.pointer (some ⟨8, 82, none⟩)], .iface 181 (.agg #[.pointer (some ⟨8, 39, none⟩)])]).run Tryd.prog w = .ok (.bool true) w := by kernel_rfl
theorem Tryd.elemOfPFault (w : World) : (Rtype.elem? 113).run Tryd.prog w = .ok (some 82) w := by kernel_rfl
theorem Tryd.mkLFault (p : Addr) (w : World) : (ReflectliteValue.mk 82 p ReflectliteValue.flagAddr).run Tryd.prog w = .ok (.agg #[.pointer (some ⟨8, 82, none⟩), .pointer (some p), .int .u64 409]) w := by kernel_rfl
theorem Tryd.elemVPFault (a p : Addr) (W : World) (ha : W.cell? a = some (.pointer (some p))) :
    (ReflectliteValue.method (ReflectliteValue.valueError "reflectlite.Value.Elem" 0) ReflectliteValue.elem #[.agg #[.pointer (some ⟨8, 113, none⟩), .pointer (some a), .int .u64 150]]).run Tryd.prog W
      = .ok (.agg #[.pointer (some ⟨8, 82, none⟩), .pointer (some p), .int .u64 409]) W := by
  rw [rlm]
  simp only [Sem.run_bind, Tryd.partsPFault, Result.andThen]
  simp [ReflectliteValue.elem, loadVar, isAgg, underlying, Tryd.underlying113, ha, Result.andThen, Tryd.elemOfPFault, Tryd.mkLFault]
theorem Tryd.valueOfLFault (s : ByteArray) (w : World) : (ReflectliteValue.unpack (.iface 82 (.agg #[.string s]))).run Tryd.prog w
    = .ok (.agg #[.pointer (some ⟨8, 82, none⟩), .pointer (some ⟨w.heap.size, 0, none⟩), .int .u64 153]) (w.alloc (.cells #[.string s] 82)) := by kernel_rfl
theorem Tryd.partsLaFault (a : Addr) (w : World) : (ReflectliteValue.parts (.agg #[.pointer (some ⟨8, 82, none⟩), .pointer (some a), .int .u64 409])).run Tryd.prog w = .ok (some (82, a, 409)) w := by kernel_rfl
theorem Tryd.partsLFault (a : Addr) (w : World) : (ReflectliteValue.parts (.agg #[.pointer (some ⟨8, 82, none⟩), .pointer (some a), .int .u64 153])).run Tryd.prog w = .ok (some (82, a, 153)) w := by kernel_rfl
theorem Tryd.directLFault (w : World) : (Rtype.directlyAssignable 82 82).run Tryd.prog w = .ok true w := by kernel_rfl

theorem Tryd.valueOfPOther (t : Addr) (w : World) : (ReflectliteValue.unpack (.iface 114 (.pointer (some t)))).run Tryd.prog w
    = .ok (.agg #[.pointer (some ⟨8, 114, none⟩), .pointer (some ⟨w.heap.size, 0, none⟩), .int .u64 150]) (w.alloc (.cells #[.pointer (some t)] 114)) := by kernel_rfl
theorem Tryd.typePOther (a : Addr) (w : World) : (ReflectliteValue.methodAny (ReflectliteValue.valueError "reflectlite.Value.Type" 0) (fun t _ _ _ => ReflectliteType.toType t) #[.agg #[.pointer (some ⟨8, 114, none⟩), .pointer (some a), .int .u64 150]]).run Tryd.prog w
    = .ok (.iface 181 (.agg #[.pointer (some ⟨8, 114, none⟩)])) w := by kernel_rfl
theorem Tryd.kindPOther (w : World) : ((ReflectliteType.abiMethod fun t => Functor.map (fun a : Nat => Value.int IntKind.u8 (a : Int)) (Rtype.kind t)) #[.pointer (some ⟨8, 114, none⟩)]).run Tryd.prog w = .ok (.int .u8 22) w := by kernel_rfl
theorem Tryd.kindLOther (w : World) : ((ReflectliteType.abiMethod fun t => Functor.map (fun a : Nat => Value.int IntKind.u8 (a : Int)) (Rtype.kind t)) #[.pointer (some ⟨8, 85, none⟩)]).run Tryd.prog w = .ok (.int .u8 25) w := by kernel_rfl
theorem Tryd.partsPOther (a : Addr) (w : World) : (ReflectliteValue.parts (.agg #[.pointer (some ⟨8, 114, none⟩), .pointer (some a), .int .u64 150])).run Tryd.prog w = .ok (some (114, a, 150)) w := by kernel_rfl
theorem Tryd.isNilPOther (a p : Addr) (W : World) (ha : W.cell? a = some (.pointer (some p))) :
    (ReflectliteValue.method (ReflectliteValue.valueError "reflectlite.Value.IsNil" 0) ReflectliteValue.isNil #[.agg #[.pointer (some ⟨8, 114, none⟩), .pointer (some a), .int .u64 150]]).run Tryd.prog W = .ok (.bool false) W := by
  rw [rlm]
  simp only [Sem.run_bind, Tryd.partsPOther, Result.andThen]
  simp [ReflectliteValue.isNil, loadVar, isAgg, underlying, Tryd.underlying114, ha, Result.andThen]
theorem Tryd.elemTPOther (w : World) : (ReflectliteType.method ReflectliteType.elem #[.agg #[.pointer (some ⟨8, 114, none⟩)]]).run Tryd.prog w = .ok (.iface 181 (.agg #[.pointer (some ⟨8, 85, none⟩)])) w := by kernel_rfl
theorem Tryd.implementsLOther (w : World) : (ReflectliteType.relation "Implements" ReflectliteType.implements_ #[.agg #[.pointer (some ⟨8, 85, none⟩)], .iface 181 (.agg #[.pointer (some ⟨8, 39, none⟩)])]).run Tryd.prog w = .ok (.bool true) w := by kernel_rfl
theorem Tryd.elemOfPOther (w : World) : (Rtype.elem? 114).run Tryd.prog w = .ok (some 85) w := by kernel_rfl
theorem Tryd.mkLOther (p : Addr) (w : World) : (ReflectliteValue.mk 85 p ReflectliteValue.flagAddr).run Tryd.prog w = .ok (.agg #[.pointer (some ⟨8, 85, none⟩), .pointer (some p), .int .u64 409]) w := by kernel_rfl
theorem Tryd.elemVPOther (a p : Addr) (W : World) (ha : W.cell? a = some (.pointer (some p))) :
    (ReflectliteValue.method (ReflectliteValue.valueError "reflectlite.Value.Elem" 0) ReflectliteValue.elem #[.agg #[.pointer (some ⟨8, 114, none⟩), .pointer (some a), .int .u64 150]]).run Tryd.prog W
      = .ok (.agg #[.pointer (some ⟨8, 85, none⟩), .pointer (some p), .int .u64 409]) W := by
  rw [rlm]
  simp only [Sem.run_bind, Tryd.partsPOther, Result.andThen]
  simp [ReflectliteValue.elem, loadVar, isAgg, underlying, Tryd.underlying114, ha, Result.andThen, Tryd.elemOfPOther, Tryd.mkLOther]
theorem Tryd.valueOfLOther (n m : Int) (w : World) : (ReflectliteValue.unpack (.iface 85 (.agg #[.int .u32 n, .int .u32 m]))).run Tryd.prog w
    = .ok (.agg #[.pointer (some ⟨8, 85, none⟩), .pointer (some ⟨w.heap.size, 0, none⟩), .int .u64 153]) (w.alloc (.cells #[.int .u32 n, .int .u32 m] 85)) := by kernel_rfl
theorem Tryd.partsLaOther (a : Addr) (w : World) : (ReflectliteValue.parts (.agg #[.pointer (some ⟨8, 85, none⟩), .pointer (some a), .int .u64 409])).run Tryd.prog w = .ok (some (85, a, 409)) w := by kernel_rfl
theorem Tryd.partsLOther (a : Addr) (w : World) : (ReflectliteValue.parts (.agg #[.pointer (some ⟨8, 85, none⟩), .pointer (some a), .int .u64 153])).run Tryd.prog w = .ok (some (85, a, 153)) w := by kernel_rfl
theorem Tryd.directLOther (w : World) : (Rtype.directlyAssignable 85 85).run Tryd.prog w = .ok true w := by kernel_rfl

theorem Tryd.typeOfLong (v : Value) (w : World) : (ReflectliteType.typeOf #[.iface 67 v]).run Tryd.prog w = .ok (.iface 181 (.agg #[.pointer (some ⟨8, 67, none⟩)])) w := by kernel_rfl
theorem Tryd.noAsLong (v : Value) (x : TypeId) (w : World) : (Instr.typeAssert (.iface 67 v) x 186 true).run Tryd.prog w = .ok (.tuple #[.nilIface, .bool false]) w := run_typeAssert_lacksB Tryd.underlying186 (by kernel_rfl) (by kernel_rfl) v x w
theorem Tryd.noUnwrapLong (v : Value) (x : TypeId) (w : World) : (Instr.typeAssert (.iface 67 v) x 189 true).run Tryd.prog w = .ok (.tuple #[.nilIface, .bool false]) w := run_typeAssert_lacksB Tryd.underlying189 (by kernel_rfl) (by kernel_rfl) v x w
theorem Tryd.noUnwrapsLong (v : Value) (x : TypeId) (w : World) : (Instr.typeAssert (.iface 67 v) x 191 true).run Tryd.prog w = .ok (.tuple #[.nilIface, .bool false]) w := run_typeAssert_lacksB Tryd.underlying191 (by kernel_rfl) (by kernel_rfl) v x w

theorem Tryd.typeOfLate (v : Value) (w : World) : (ReflectliteType.typeOf #[.iface 76 v]).run Tryd.prog w = .ok (.iface 181 (.agg #[.pointer (some ⟨8, 76, none⟩)])) w := by kernel_rfl
theorem Tryd.noAsLate (v : Value) (x : TypeId) (w : World) : (Instr.typeAssert (.iface 76 v) x 186 true).run Tryd.prog w = .ok (.tuple #[.nilIface, .bool false]) w := run_typeAssert_lacksB Tryd.underlying186 (by kernel_rfl) (by kernel_rfl) v x w
theorem Tryd.noUnwrapLate (v : Value) (x : TypeId) (w : World) : (Instr.typeAssert (.iface 76 v) x 189 true).run Tryd.prog w = .ok (.tuple #[.nilIface, .bool false]) w := run_typeAssert_lacksB Tryd.underlying189 (by kernel_rfl) (by kernel_rfl) v x w
theorem Tryd.noUnwrapsLate (v : Value) (x : TypeId) (w : World) : (Instr.typeAssert (.iface 76 v) x 191 true).run Tryd.prog w = .ok (.tuple #[.nilIface, .bool false]) w := run_typeAssert_lacksB Tryd.underlying191 (by kernel_rfl) (by kernel_rfl) v x w

theorem Tryd.typeOfFull (v : Value) (w : World) : (ReflectliteType.typeOf #[.iface 78 v]).run Tryd.prog w = .ok (.iface 181 (.agg #[.pointer (some ⟨8, 78, none⟩)])) w := by kernel_rfl
theorem Tryd.noAsFull (v : Value) (x : TypeId) (w : World) : (Instr.typeAssert (.iface 78 v) x 186 true).run Tryd.prog w = .ok (.tuple #[.nilIface, .bool false]) w := run_typeAssert_lacksB Tryd.underlying186 (by kernel_rfl) (by kernel_rfl) v x w
theorem Tryd.noUnwrapFull (v : Value) (x : TypeId) (w : World) : (Instr.typeAssert (.iface 78 v) x 189 true).run Tryd.prog w = .ok (.tuple #[.nilIface, .bool false]) w := run_typeAssert_lacksB Tryd.underlying189 (by kernel_rfl) (by kernel_rfl) v x w
theorem Tryd.noUnwrapsFull (v : Value) (x : TypeId) (w : World) : (Instr.typeAssert (.iface 78 v) x 191 true).run Tryd.prog w = .ok (.tuple #[.nilIface, .bool false]) w := run_typeAssert_lacksB Tryd.underlying191 (by kernel_rfl) (by kernel_rfl) v x w

theorem Tryd.typeOfBytes (v : Value) (w : World) : (ReflectliteType.typeOf #[.iface 80 v]).run Tryd.prog w = .ok (.iface 181 (.agg #[.pointer (some ⟨8, 80, none⟩)])) w := by kernel_rfl
theorem Tryd.noAsBytes (v : Value) (x : TypeId) (w : World) : (Instr.typeAssert (.iface 80 v) x 186 true).run Tryd.prog w = .ok (.tuple #[.nilIface, .bool false]) w := run_typeAssert_lacksB Tryd.underlying186 (by kernel_rfl) (by kernel_rfl) v x w
theorem Tryd.noUnwrapBytes (v : Value) (x : TypeId) (w : World) : (Instr.typeAssert (.iface 80 v) x 189 true).run Tryd.prog w = .ok (.tuple #[.nilIface, .bool false]) w := run_typeAssert_lacksB Tryd.underlying189 (by kernel_rfl) (by kernel_rfl) v x w
theorem Tryd.noUnwrapsBytes (v : Value) (x : TypeId) (w : World) : (Instr.typeAssert (.iface 80 v) x 191 true).run Tryd.prog w = .ok (.tuple #[.nilIface, .bool false]) w := run_typeAssert_lacksB Tryd.underlying191 (by kernel_rfl) (by kernel_rfl) v x w

theorem Tryd.typeOfFault (v : Value) (w : World) : (ReflectliteType.typeOf #[.iface 82 v]).run Tryd.prog w = .ok (.iface 181 (.agg #[.pointer (some ⟨8, 82, none⟩)])) w := by kernel_rfl
theorem Tryd.noAsFault (v : Value) (x : TypeId) (w : World) : (Instr.typeAssert (.iface 82 v) x 186 true).run Tryd.prog w = .ok (.tuple #[.nilIface, .bool false]) w := run_typeAssert_lacksB Tryd.underlying186 (by kernel_rfl) (by kernel_rfl) v x w
theorem Tryd.noUnwrapFault (v : Value) (x : TypeId) (w : World) : (Instr.typeAssert (.iface 82 v) x 189 true).run Tryd.prog w = .ok (.tuple #[.nilIface, .bool false]) w := run_typeAssert_lacksB Tryd.underlying189 (by kernel_rfl) (by kernel_rfl) v x w
theorem Tryd.noUnwrapsFault (v : Value) (x : TypeId) (w : World) : (Instr.typeAssert (.iface 82 v) x 191 true).run Tryd.prog w = .ok (.tuple #[.nilIface, .bool false]) w := run_typeAssert_lacksB Tryd.underlying191 (by kernel_rfl) (by kernel_rfl) v x w

theorem Tryd.typeOfOther (v : Value) (w : World) : (ReflectliteType.typeOf #[.iface 85 v]).run Tryd.prog w = .ok (.iface 181 (.agg #[.pointer (some ⟨8, 85, none⟩)])) w := by kernel_rfl
theorem Tryd.noAsOther (v : Value) (x : TypeId) (w : World) : (Instr.typeAssert (.iface 85 v) x 186 true).run Tryd.prog w = .ok (.tuple #[.nilIface, .bool false]) w := run_typeAssert_lacksB Tryd.underlying186 (by kernel_rfl) (by kernel_rfl) v x w
theorem Tryd.noUnwrapOther (v : Value) (x : TypeId) (w : World) : (Instr.typeAssert (.iface 85 v) x 189 true).run Tryd.prog w = .ok (.tuple #[.nilIface, .bool false]) w := run_typeAssert_lacksB Tryd.underlying189 (by kernel_rfl) (by kernel_rfl) v x w
theorem Tryd.noUnwrapsOther (v : Value) (x : TypeId) (w : World) : (Instr.typeAssert (.iface 85 v) x 191 true).run Tryd.prog w = .ok (.tuple #[.nilIface, .bool false]) w := run_typeAssert_lacksB Tryd.underlying191 (by kernel_rfl) (by kernel_rfl) v x w
theorem Tryd.assignableLongLate (w : World) : (ReflectliteType.relation "AssignableTo" ReflectliteType.assignableTo #[.agg #[.pointer (some ⟨8, 76, none⟩)], .iface 181 (.agg #[.pointer (some ⟨8, 67, none⟩)])]).run Tryd.prog w = .ok (.bool false) w := by kernel_rfl
theorem Tryd.assignableLongFull (w : World) : (ReflectliteType.relation "AssignableTo" ReflectliteType.assignableTo #[.agg #[.pointer (some ⟨8, 78, none⟩)], .iface 181 (.agg #[.pointer (some ⟨8, 67, none⟩)])]).run Tryd.prog w = .ok (.bool false) w := by kernel_rfl
theorem Tryd.assignableLateFull (w : World) : (ReflectliteType.relation "AssignableTo" ReflectliteType.assignableTo #[.agg #[.pointer (some ⟨8, 78, none⟩)], .iface 181 (.agg #[.pointer (some ⟨8, 76, none⟩)])]).run Tryd.prog w = .ok (.bool false) w := by kernel_rfl
theorem Tryd.assignableLongBytes (w : World) : (ReflectliteType.relation "AssignableTo" ReflectliteType.assignableTo #[.agg #[.pointer (some ⟨8, 80, none⟩)], .iface 181 (.agg #[.pointer (some ⟨8, 67, none⟩)])]).run Tryd.prog w = .ok (.bool false) w := by kernel_rfl
theorem Tryd.assignableLateBytes (w : World) : (ReflectliteType.relation "AssignableTo" ReflectliteType.assignableTo #[.agg #[.pointer (some ⟨8, 80, none⟩)], .iface 181 (.agg #[.pointer (some ⟨8, 76, none⟩)])]).run Tryd.prog w = .ok (.bool false) w := by kernel_rfl
theorem Tryd.assignableFullBytes (w : World) : (ReflectliteType.relation "AssignableTo" ReflectliteType.assignableTo #[.agg #[.pointer (some ⟨8, 80, none⟩)], .iface 181 (.agg #[.pointer (some ⟨8, 78, none⟩)])]).run Tryd.prog w = .ok (.bool false) w := by kernel_rfl
theorem Tryd.assignableLongFault (w : World) : (ReflectliteType.relation "AssignableTo" ReflectliteType.assignableTo #[.agg #[.pointer (some ⟨8, 82, none⟩)], .iface 181 (.agg #[.pointer (some ⟨8, 67, none⟩)])]).run Tryd.prog w = .ok (.bool false) w := by kernel_rfl
theorem Tryd.assignableLateFault (w : World) : (ReflectliteType.relation "AssignableTo" ReflectliteType.assignableTo #[.agg #[.pointer (some ⟨8, 82, none⟩)], .iface 181 (.agg #[.pointer (some ⟨8, 76, none⟩)])]).run Tryd.prog w = .ok (.bool false) w := by kernel_rfl
theorem Tryd.assignableFullFault (w : World) : (ReflectliteType.relation "AssignableTo" ReflectliteType.assignableTo #[.agg #[.pointer (some ⟨8, 82, none⟩)], .iface 181 (.agg #[.pointer (some ⟨8, 78, none⟩)])]).run Tryd.prog w = .ok (.bool false) w := by kernel_rfl
theorem Tryd.assignableBytesFault (w : World) : (ReflectliteType.relation "AssignableTo" ReflectliteType.assignableTo #[.agg #[.pointer (some ⟨8, 82, none⟩)], .iface 181 (.agg #[.pointer (some ⟨8, 80, none⟩)])]).run Tryd.prog w = .ok (.bool false) w := by kernel_rfl
theorem Tryd.assignableLongOther (w : World) : (ReflectliteType.relation "AssignableTo" ReflectliteType.assignableTo #[.agg #[.pointer (some ⟨8, 85, none⟩)], .iface 181 (.agg #[.pointer (some ⟨8, 67, none⟩)])]).run Tryd.prog w = .ok (.bool false) w := by kernel_rfl
theorem Tryd.assignableLateOther (w : World) : (ReflectliteType.relation "AssignableTo" ReflectliteType.assignableTo #[.agg #[.pointer (some ⟨8, 85, none⟩)], .iface 181 (.agg #[.pointer (some ⟨8, 76, none⟩)])]).run Tryd.prog w = .ok (.bool false) w := by kernel_rfl
theorem Tryd.assignableFullOther (w : World) : (ReflectliteType.relation "AssignableTo" ReflectliteType.assignableTo #[.agg #[.pointer (some ⟨8, 85, none⟩)], .iface 181 (.agg #[.pointer (some ⟨8, 78, none⟩)])]).run Tryd.prog w = .ok (.bool false) w := by kernel_rfl
theorem Tryd.assignableBytesOther (w : World) : (ReflectliteType.relation "AssignableTo" ReflectliteType.assignableTo #[.agg #[.pointer (some ⟨8, 85, none⟩)], .iface 181 (.agg #[.pointer (some ⟨8, 80, none⟩)])]).run Tryd.prog w = .ok (.bool false) w := by kernel_rfl
theorem Tryd.assignableFaultOther (w : World) : (ReflectliteType.relation "AssignableTo" ReflectliteType.assignableTo #[.agg #[.pointer (some ⟨8, 85, none⟩)], .iface 181 (.agg #[.pointer (some ⟨8, 82, none⟩)])]).run Tryd.prog w = .ok (.bool false) w := by kernel_rfl
theorem Tryd.assignableLongLong (w : World) : (ReflectliteType.relation "AssignableTo" ReflectliteType.assignableTo #[.agg #[.pointer (some ⟨8, 67, none⟩)], .iface 181 (.agg #[.pointer (some ⟨8, 67, none⟩)])]).run Tryd.prog w = .ok (.bool true) w := by kernel_rfl
theorem Tryd.assignableLateLate (w : World) : (ReflectliteType.relation "AssignableTo" ReflectliteType.assignableTo #[.agg #[.pointer (some ⟨8, 76, none⟩)], .iface 181 (.agg #[.pointer (some ⟨8, 76, none⟩)])]).run Tryd.prog w = .ok (.bool true) w := by kernel_rfl
theorem Tryd.assignableFullFull (w : World) : (ReflectliteType.relation "AssignableTo" ReflectliteType.assignableTo #[.agg #[.pointer (some ⟨8, 78, none⟩)], .iface 181 (.agg #[.pointer (some ⟨8, 78, none⟩)])]).run Tryd.prog w = .ok (.bool true) w := by kernel_rfl
theorem Tryd.assignableBytesBytes (w : World) : (ReflectliteType.relation "AssignableTo" ReflectliteType.assignableTo #[.agg #[.pointer (some ⟨8, 80, none⟩)], .iface 181 (.agg #[.pointer (some ⟨8, 80, none⟩)])]).run Tryd.prog w = .ok (.bool true) w := by kernel_rfl
theorem Tryd.assignableFaultFault (w : World) : (ReflectliteType.relation "AssignableTo" ReflectliteType.assignableTo #[.agg #[.pointer (some ⟨8, 82, none⟩)], .iface 181 (.agg #[.pointer (some ⟨8, 82, none⟩)])]).run Tryd.prog w = .ok (.bool true) w := by kernel_rfl
theorem Tryd.assignableOtherOther (w : World) : (ReflectliteType.relation "AssignableTo" ReflectliteType.assignableTo #[.agg #[.pointer (some ⟨8, 85, none⟩)], .iface 181 (.agg #[.pointer (some ⟨8, 85, none⟩)])]).run Tryd.prog w = .ok (.bool true) w := by kernel_rfl

end Go.Proofs.YtfldcmdhneegmaaDoor

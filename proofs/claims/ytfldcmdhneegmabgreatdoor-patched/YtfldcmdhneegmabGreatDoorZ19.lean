import Derived.Test.YtfldcmdhneegmabGreatDoorBase
import Derived.LaidEql
import Derived.Stop.Asserts
import Derived.RowKitTokens

/-
  errors.As AT THE TARGETS of package spotter's 'is', for the errors of packages pattern and engine: the parts. Made by mkas.py.
-/
namespace Go.Proofs.YtfldcmdhneegmabGreatDoor
open Go.RowKit Go.Extern.Stop Go.Stop Go.Extern

theorem Tryz.methodKind (h : Value) (w : World) : (Go.method (387 + 100) 286 (.agg #[h]) "Kind").run Tryz.prog w = .ok (263, h) w := by kernel_rfl
theorem Tryz.methodElem (h : Value) (w : World) : (Go.method (387 + 100) 286 (.agg #[h]) "Elem").run Tryz.prog w = .ok (289, .agg #[h]) w := by kernel_rfl
theorem Tryz.methodImplements (h : Value) (w : World) : (Go.method (387 + 100) 286 (.agg #[h]) "Implements").run Tryz.prog w = .ok (290, .agg #[h]) w := by kernel_rfl
theorem Tryz.methodAssignableTo (h : Value) (w : World) : (Go.method (387 + 100) 286 (.agg #[h]) "AssignableTo").run Tryz.prog w = .ok (287, .agg #[h]) w := by kernel_rfl
theorem rlm (z : Sem Value) (f : TypeId → Addr → Nat → Nat → Sem Value) (v : Value) :
    ReflectliteValue.method z f #[v] = (do match ← ReflectliteValue.parts v with | none => z | some (t, a, fl) => f t a fl (fl % 32)) := rfl
theorem run_two {P : Program} {α β : Type} (x : Sem α) (y : Sem β) {k : α → β → Sem Value} {m : Sem Value} {W : World} {r : Result Value} (e : m = (x >>= fun p => y >>= fun q => k p q)) (h : (x >>= fun p => y >>= fun q => k p q).run P W = r) : m.run P W = r := by rw [e]; exact h

theorem Tryz.valueOfPLong (t : Addr) (w : World) : (ReflectliteValue.unpack (.iface 171 (.pointer (some t)))).run Tryz.prog w
    = .ok (.agg #[.pointer (some ⟨6, 171, none⟩), .pointer (some ⟨w.heap.size, 0, none⟩), .int .u64 150]) (w.alloc (.cells #[.pointer (some t)] 171)) := by kernel_rfl
theorem Tryz.typePLong (a : Addr) (w : World) : (ReflectliteValue.methodAny (ReflectliteValue.valueError "reflectlite.Value.Type" 0) (fun t _ _ _ => ReflectliteType.toType t) #[.agg #[.pointer (some ⟨6, 171, none⟩), .pointer (some a), .int .u64 150]]).run Tryz.prog w
    = .ok (.iface 286 (.agg #[.pointer (some ⟨6, 171, none⟩)])) w := by kernel_rfl
theorem Tryz.kindPLong (w : World) : ((ReflectliteType.abiMethod fun t => Functor.map (fun a : Nat => Value.int IntKind.u8 (a : Int)) (Rtype.kind t)) #[.pointer (some ⟨6, 171, none⟩)]).run Tryz.prog w = .ok (.int .u8 22) w := by kernel_rfl
theorem Tryz.kindLLong (w : World) : ((ReflectliteType.abiMethod fun t => Functor.map (fun a : Nat => Value.int IntKind.u8 (a : Int)) (Rtype.kind t)) #[.pointer (some ⟨6, 95, none⟩)]).run Tryz.prog w = .ok (.int .u8 25) w := by kernel_rfl
theorem Tryz.partsPLong (a : Addr) (w : World) : (ReflectliteValue.parts (.agg #[.pointer (some ⟨6, 171, none⟩), .pointer (some a), .int .u64 150])).run Tryz.prog w = .ok (some (171, a, 150)) w := by kernel_rfl
theorem Tryz.isNilPLong (a p : Addr) (W : World) (ha : W.cell? a = some (.pointer (some p))) :
    (ReflectliteValue.method (ReflectliteValue.valueError "reflectlite.Value.IsNil" 0) ReflectliteValue.isNil #[.agg #[.pointer (some ⟨6, 171, none⟩), .pointer (some a), .int .u64 150]]).run Tryz.prog W = .ok (.bool false) W := by
  rw [rlm]
  simp only [Sem.run_bind, Tryz.partsPLong, Result.andThen]
  simp [ReflectliteValue.isNil, loadVar, isAgg, underlying, Tryz.underlying171, ha, Result.andThen]
theorem Tryz.elemTPLong (w : World) : (ReflectliteType.method ReflectliteType.elem #[.agg #[.pointer (some ⟨6, 171, none⟩)]]).run Tryz.prog w = .ok (.iface 286 (.agg #[.pointer (some ⟨6, 95, none⟩)])) w := by kernel_rfl
theorem Tryz.implementsLLong (w : World) : (ReflectliteType.relation "Implements" ReflectliteType.implements_ #[.agg #[.pointer (some ⟨6, 95, none⟩)], .iface 286 (.agg #[.pointer (some ⟨6, 55, none⟩)])]).run Tryz.prog w = .ok (.bool true) w := by kernel_rfl
theorem Tryz.elemOfPLong (w : World) : (Rtype.elem? 171).run Tryz.prog w = .ok (some 95) w := by kernel_rfl
theorem Tryz.mkLLong (p : Addr) (w : World) : (ReflectliteValue.mk 95 p ReflectliteValue.flagAddr).run Tryz.prog w = .ok (.agg #[.pointer (some ⟨6, 95, none⟩), .pointer (some p), .int .u64 409]) w := by kernel_rfl
theorem Tryz.elemVPLong (a p : Addr) (W : World) (ha : W.cell? a = some (.pointer (some p))) :
    (ReflectliteValue.method (ReflectliteValue.valueError "reflectlite.Value.Elem" 0) ReflectliteValue.elem #[.agg #[.pointer (some ⟨6, 171, none⟩), .pointer (some a), .int .u64 150]]).run Tryz.prog W
      = .ok (.agg #[.pointer (some ⟨6, 95, none⟩), .pointer (some p), .int .u64 409]) W := by
  rw [rlm]
  simp only [Sem.run_bind, Tryz.partsPLong, Result.andThen]
  simp [ReflectliteValue.elem, loadVar, isAgg, underlying, Tryz.underlying171, ha, Result.andThen, Tryz.elemOfPLong, Tryz.mkLLong]
theorem Tryz.valueOfLLong (n : Int) (w : World) : (ReflectliteValue.unpack (.iface 95 (.agg #[.int .i64 n]))).run Tryz.prog w
    = .ok (.agg #[.pointer (some ⟨6, 95, none⟩), .pointer (some ⟨w.heap.size, 0, none⟩), .int .u64 153]) (w.alloc (.cells #[.int .i64 n] 95)) := by kernel_rfl
theorem Tryz.partsLaLong (a : Addr) (w : World) : (ReflectliteValue.parts (.agg #[.pointer (some ⟨6, 95, none⟩), .pointer (some a), .int .u64 409])).run Tryz.prog w = .ok (some (95, a, 409)) w := by kernel_rfl
theorem Tryz.partsLLong (a : Addr) (w : World) : (ReflectliteValue.parts (.agg #[.pointer (some ⟨6, 95, none⟩), .pointer (some a), .int .u64 153])).run Tryz.prog w = .ok (some (95, a, 153)) w := by kernel_rfl
theorem Tryz.directLLong (w : World) : (Rtype.directlyAssignable 95 95).run Tryz.prog w = .ok true w := by kernel_rfl

theorem Tryz.valueOfPLate (t : Addr) (w : World) : (ReflectliteValue.unpack (.iface 172 (.pointer (some t)))).run Tryz.prog w
    = .ok (.agg #[.pointer (some ⟨6, 172, none⟩), .pointer (some ⟨w.heap.size, 0, none⟩), .int .u64 150]) (w.alloc (.cells #[.pointer (some t)] 172)) := by kernel_rfl
theorem Tryz.typePLate (a : Addr) (w : World) : (ReflectliteValue.methodAny (ReflectliteValue.valueError "reflectlite.Value.Type" 0) (fun t _ _ _ => ReflectliteType.toType t) #[.agg #[.pointer (some ⟨6, 172, none⟩), .pointer (some a), .int .u64 150]]).run Tryz.prog w
    = .ok (.iface 286 (.agg #[.pointer (some ⟨6, 172, none⟩)])) w := by kernel_rfl
theorem Tryz.kindPLate (w : World) : ((ReflectliteType.abiMethod fun t => Functor.map (fun a : Nat => Value.int IntKind.u8 (a : Int)) (Rtype.kind t)) #[.pointer (some ⟨6, 172, none⟩)]).run Tryz.prog w = .ok (.int .u8 22) w := by kernel_rfl
theorem Tryz.kindLLate (w : World) : ((ReflectliteType.abiMethod fun t => Functor.map (fun a : Nat => Value.int IntKind.u8 (a : Int)) (Rtype.kind t)) #[.pointer (some ⟨6, 97, none⟩)]).run Tryz.prog w = .ok (.int .u8 25) w := by kernel_rfl
theorem Tryz.partsPLate (a : Addr) (w : World) : (ReflectliteValue.parts (.agg #[.pointer (some ⟨6, 172, none⟩), .pointer (some a), .int .u64 150])).run Tryz.prog w = .ok (some (172, a, 150)) w := by kernel_rfl
theorem Tryz.isNilPLate (a p : Addr) (W : World) (ha : W.cell? a = some (.pointer (some p))) :
    (ReflectliteValue.method (ReflectliteValue.valueError "reflectlite.Value.IsNil" 0) ReflectliteValue.isNil #[.agg #[.pointer (some ⟨6, 172, none⟩), .pointer (some a), .int .u64 150]]).run Tryz.prog W = .ok (.bool false) W := by
  rw [rlm]
  simp only [Sem.run_bind, Tryz.partsPLate, Result.andThen]
  simp [ReflectliteValue.isNil, loadVar, isAgg, underlying, Tryz.underlying172, ha, Result.andThen]
theorem Tryz.elemTPLate (w : World) : (ReflectliteType.method ReflectliteType.elem #[.agg #[.pointer (some ⟨6, 172, none⟩)]]).run Tryz.prog w = .ok (.iface 286 (.agg #[.pointer (some ⟨6, 97, none⟩)])) w := by kernel_rfl
theorem Tryz.implementsLLate (w : World) : (ReflectliteType.relation "Implements" ReflectliteType.implements_ #[.agg #[.pointer (some ⟨6, 97, none⟩)], .iface 286 (.agg #[.pointer (some ⟨6, 55, none⟩)])]).run Tryz.prog w = .ok (.bool true) w := by kernel_rfl
theorem Tryz.elemOfPLate (w : World) : (Rtype.elem? 172).run Tryz.prog w = .ok (some 97) w := by kernel_rfl
theorem Tryz.mkLLate (p : Addr) (w : World) : (ReflectliteValue.mk 97 p ReflectliteValue.flagAddr).run Tryz.prog w = .ok (.agg #[.pointer (some ⟨6, 97, none⟩), .pointer (some p), .int .u64 409]) w := by kernel_rfl
theorem Tryz.elemVPLate (a p : Addr) (W : World) (ha : W.cell? a = some (.pointer (some p))) :
    (ReflectliteValue.method (ReflectliteValue.valueError "reflectlite.Value.Elem" 0) ReflectliteValue.elem #[.agg #[.pointer (some ⟨6, 172, none⟩), .pointer (some a), .int .u64 150]]).run Tryz.prog W
      = .ok (.agg #[.pointer (some ⟨6, 97, none⟩), .pointer (some p), .int .u64 409]) W := by
  rw [rlm]
  simp only [Sem.run_bind, Tryz.partsPLate, Result.andThen]
  simp [ReflectliteValue.elem, loadVar, isAgg, underlying, Tryz.underlying172, ha, Result.andThen, Tryz.elemOfPLate, Tryz.mkLLate]
theorem Tryz.valueOfLLate (n m : Int) (w : World) : (ReflectliteValue.unpack (.iface 97 (.agg #[.int .i64 n, .int .i64 m]))).run Tryz.prog w
    = .ok (.agg #[.pointer (some ⟨6, 97, none⟩), .pointer (some ⟨w.heap.size, 0, none⟩), .int .u64 153]) (w.alloc (.cells #[.int .i64 n, .int .i64 m] 97)) := by kernel_rfl
theorem Tryz.partsLaLate (a : Addr) (w : World) : (ReflectliteValue.parts (.agg #[.pointer (some ⟨6, 97, none⟩), .pointer (some a), .int .u64 409])).run Tryz.prog w = .ok (some (97, a, 409)) w := by kernel_rfl
theorem Tryz.partsLLate (a : Addr) (w : World) : (ReflectliteValue.parts (.agg #[.pointer (some ⟨6, 97, none⟩), .pointer (some a), .int .u64 153])).run Tryz.prog w = .ok (some (97, a, 153)) w := by kernel_rfl
theorem Tryz.directLLate (w : World) : (Rtype.directlyAssignable 97 97).run Tryz.prog w = .ok true w := by kernel_rfl

theorem Tryz.valueOfPFull (t : Addr) (w : World) : (ReflectliteValue.unpack (.iface 173 (.pointer (some t)))).run Tryz.prog w
    = .ok (.agg #[.pointer (some ⟨6, 173, none⟩), .pointer (some ⟨w.heap.size, 0, none⟩), .int .u64 150]) (w.alloc (.cells #[.pointer (some t)] 173)) := by kernel_rfl
theorem Tryz.typePFull (a : Addr) (w : World) : (ReflectliteValue.methodAny (ReflectliteValue.valueError "reflectlite.Value.Type" 0) (fun t _ _ _ => ReflectliteType.toType t) #[.agg #[.pointer (some ⟨6, 173, none⟩), .pointer (some a), .int .u64 150]]).run Tryz.prog w
    = .ok (.iface 286 (.agg #[.pointer (some ⟨6, 173, none⟩)])) w := by kernel_rfl
theorem Tryz.kindPFull (w : World) : ((ReflectliteType.abiMethod fun t => Functor.map (fun a : Nat => Value.int IntKind.u8 (a : Int)) (Rtype.kind t)) #[.pointer (some ⟨6, 173, none⟩)]).run Tryz.prog w = .ok (.int .u8 22) w := by kernel_rfl
theorem Tryz.kindLFull (w : World) : ((ReflectliteType.abiMethod fun t => Functor.map (fun a : Nat => Value.int IntKind.u8 (a : Int)) (Rtype.kind t)) #[.pointer (some ⟨6, 99, none⟩)]).run Tryz.prog w = .ok (.int .u8 25) w := by kernel_rfl
theorem Tryz.partsPFull (a : Addr) (w : World) : (ReflectliteValue.parts (.agg #[.pointer (some ⟨6, 173, none⟩), .pointer (some a), .int .u64 150])).run Tryz.prog w = .ok (some (173, a, 150)) w := by kernel_rfl
theorem Tryz.isNilPFull (a p : Addr) (W : World) (ha : W.cell? a = some (.pointer (some p))) :
    (ReflectliteValue.method (ReflectliteValue.valueError "reflectlite.Value.IsNil" 0) ReflectliteValue.isNil #[.agg #[.pointer (some ⟨6, 173, none⟩), .pointer (some a), .int .u64 150]]).run Tryz.prog W = .ok (.bool false) W := by
  rw [rlm]
  simp only [Sem.run_bind, Tryz.partsPFull, Result.andThen]
  simp [ReflectliteValue.isNil, loadVar, isAgg, underlying, Tryz.underlying173, ha, Result.andThen]
theorem Tryz.elemTPFull (w : World) : (ReflectliteType.method ReflectliteType.elem #[.agg #[.pointer (some ⟨6, 173, none⟩)]]).run Tryz.prog w = .ok (.iface 286 (.agg #[.pointer (some ⟨6, 99, none⟩)])) w := by kernel_rfl
theorem Tryz.implementsLFull (w : World) : (ReflectliteType.relation "Implements" ReflectliteType.implements_ #[.agg #[.pointer (some ⟨6, 99, none⟩)], .iface 286 (.agg #[.pointer (some ⟨6, 55, none⟩)])]).run Tryz.prog w = .ok (.bool true) w := by kernel_rfl
theorem Tryz.elemOfPFull (w : World) : (Rtype.elem? 173).run Tryz.prog w = .ok (some 99) w := by kernel_rfl
theorem Tryz.mkLFull (p : Addr) (w : World) : (ReflectliteValue.mk 99 p ReflectliteValue.flagAddr).run Tryz.prog w = .ok (.agg #[.pointer (some ⟨6, 99, none⟩), .pointer (some p), .int .u64 409]) w := by kernel_rfl
theorem Tryz.elemVPFull (a p : Addr) (W : World) (ha : W.cell? a = some (.pointer (some p))) :
    (ReflectliteValue.method (ReflectliteValue.valueError "reflectlite.Value.Elem" 0) ReflectliteValue.elem #[.agg #[.pointer (some ⟨6, 173, none⟩), .pointer (some a), .int .u64 150]]).run Tryz.prog W
      = .ok (.agg #[.pointer (some ⟨6, 99, none⟩), .pointer (some p), .int .u64 409]) W := by
  rw [rlm]
  simp only [Sem.run_bind, Tryz.partsPFull, Result.andThen]
  simp [ReflectliteValue.elem, loadVar, isAgg, underlying, Tryz.underlying173, ha, Result.andThen, Tryz.elemOfPFull, Tryz.mkLFull]
theorem Tryz.valueOfLFull (s : ByteArray) (m : Int) (w : World) : (ReflectliteValue.unpack (.iface 99 (.agg #[.string s, .int .i64 m]))).run Tryz.prog w
    = .ok (.agg #[.pointer (some ⟨6, 99, none⟩), .pointer (some ⟨w.heap.size, 0, none⟩), .int .u64 153]) (w.alloc (.cells #[.string s, .int .i64 m] 99)) := by kernel_rfl
theorem Tryz.partsLaFull (a : Addr) (w : World) : (ReflectliteValue.parts (.agg #[.pointer (some ⟨6, 99, none⟩), .pointer (some a), .int .u64 409])).run Tryz.prog w = .ok (some (99, a, 409)) w := by kernel_rfl
theorem Tryz.partsLFull (a : Addr) (w : World) : (ReflectliteValue.parts (.agg #[.pointer (some ⟨6, 99, none⟩), .pointer (some a), .int .u64 153])).run Tryz.prog w = .ok (some (99, a, 153)) w := by kernel_rfl
theorem Tryz.directLFull (w : World) : (Rtype.directlyAssignable 99 99).run Tryz.prog w = .ok true w := by kernel_rfl

theorem Tryz.valueOfPBytes (t : Addr) (w : World) : (ReflectliteValue.unpack (.iface 174 (.pointer (some t)))).run Tryz.prog w
    = .ok (.agg #[.pointer (some ⟨6, 174, none⟩), .pointer (some ⟨w.heap.size, 0, none⟩), .int .u64 150]) (w.alloc (.cells #[.pointer (some t)] 174)) := by kernel_rfl
theorem Tryz.typePBytes (a : Addr) (w : World) : (ReflectliteValue.methodAny (ReflectliteValue.valueError "reflectlite.Value.Type" 0) (fun t _ _ _ => ReflectliteType.toType t) #[.agg #[.pointer (some ⟨6, 174, none⟩), .pointer (some a), .int .u64 150]]).run Tryz.prog w
    = .ok (.iface 286 (.agg #[.pointer (some ⟨6, 174, none⟩)])) w := by kernel_rfl
theorem Tryz.kindPBytes (w : World) : ((ReflectliteType.abiMethod fun t => Functor.map (fun a : Nat => Value.int IntKind.u8 (a : Int)) (Rtype.kind t)) #[.pointer (some ⟨6, 174, none⟩)]).run Tryz.prog w = .ok (.int .u8 22) w := by kernel_rfl
theorem Tryz.kindLBytes (w : World) : ((ReflectliteType.abiMethod fun t => Functor.map (fun a : Nat => Value.int IntKind.u8 (a : Int)) (Rtype.kind t)) #[.pointer (some ⟨6, 101, none⟩)]).run Tryz.prog w = .ok (.int .u8 25) w := by kernel_rfl
theorem Tryz.partsPBytes (a : Addr) (w : World) : (ReflectliteValue.parts (.agg #[.pointer (some ⟨6, 174, none⟩), .pointer (some a), .int .u64 150])).run Tryz.prog w = .ok (some (174, a, 150)) w := by kernel_rfl
theorem Tryz.isNilPBytes (a p : Addr) (W : World) (ha : W.cell? a = some (.pointer (some p))) :
    (ReflectliteValue.method (ReflectliteValue.valueError "reflectlite.Value.IsNil" 0) ReflectliteValue.isNil #[.agg #[.pointer (some ⟨6, 174, none⟩), .pointer (some a), .int .u64 150]]).run Tryz.prog W = .ok (.bool false) W := by
  rw [rlm]
  simp only [Sem.run_bind, Tryz.partsPBytes, Result.andThen]
  simp [ReflectliteValue.isNil, loadVar, isAgg, underlying, Tryz.underlying174, ha, Result.andThen]
theorem Tryz.elemTPBytes (w : World) : (ReflectliteType.method ReflectliteType.elem #[.agg #[.pointer (some ⟨6, 174, none⟩)]]).run Tryz.prog w = .ok (.iface 286 (.agg #[.pointer (some ⟨6, 101, none⟩)])) w := by kernel_rfl
theorem Tryz.implementsLBytes (w : World) : (ReflectliteType.relation "Implements" ReflectliteType.implements_ #[.agg #[.pointer (some ⟨6, 101, none⟩)], .iface 286 (.agg #[.pointer (some ⟨6, 55, none⟩)])]).run Tryz.prog w = .ok (.bool true) w := by kernel_rfl
theorem Tryz.elemOfPBytes (w : World) : (Rtype.elem? 174).run Tryz.prog w = .ok (some 101) w := by kernel_rfl
theorem Tryz.mkLBytes (p : Addr) (w : World) : (ReflectliteValue.mk 101 p ReflectliteValue.flagAddr).run Tryz.prog w = .ok (.agg #[.pointer (some ⟨6, 101, none⟩), .pointer (some p), .int .u64 409]) w := by kernel_rfl
theorem Tryz.elemVPBytes (a p : Addr) (W : World) (ha : W.cell? a = some (.pointer (some p))) :
    (ReflectliteValue.method (ReflectliteValue.valueError "reflectlite.Value.Elem" 0) ReflectliteValue.elem #[.agg #[.pointer (some ⟨6, 174, none⟩), .pointer (some a), .int .u64 150]]).run Tryz.prog W
      = .ok (.agg #[.pointer (some ⟨6, 101, none⟩), .pointer (some p), .int .u64 409]) W := by
  rw [rlm]
  simp only [Sem.run_bind, Tryz.partsPBytes, Result.andThen]
  simp [ReflectliteValue.elem, loadVar, isAgg, underlying, Tryz.underlying174, ha, Result.andThen, Tryz.elemOfPBytes, Tryz.mkLBytes]
theorem Tryz.valueOfLBytes (n : Int) (s : ByteArray) (w : World) : (ReflectliteValue.unpack (.iface 101 (.agg #[.int .i64 n, .string s]))).run Tryz.prog w
    = .ok (.agg #[.pointer (some ⟨6, 101, none⟩), .pointer (some ⟨w.heap.size, 0, none⟩), .int .u64 153]) (w.alloc (.cells #[.int .i64 n, .string s] 101)) := by kernel_rfl
theorem Tryz.partsLaBytes (a : Addr) (w : World) : (ReflectliteValue.parts (.agg #[.pointer (some ⟨6, 101, none⟩), .pointer (some a), .int .u64 409])).run Tryz.prog w = .ok (some (101, a, 409)) w := by kernel_rfl
theorem Tryz.partsLBytes (a : Addr) (w : World) : (ReflectliteValue.parts (.agg #[.pointer (some ⟨6, 101, none⟩), .pointer (some a), .int .u64 153])).run Tryz.prog w = .ok (some (101, a, 153)) w := by kernel_rfl
theorem Tryz.directLBytes (w : World) : (Rtype.directlyAssignable 101 101).run Tryz.prog w = .ok true w := by kernel_rfl

theorem Tryz.valueOfPFault (t : Addr) (w : World) : (ReflectliteValue.unpack (.iface 175 (.pointer (some t)))).run Tryz.prog w
    = .ok (.agg #[.pointer (some ⟨6, 175, none⟩), .pointer (some ⟨w.heap.size, 0, none⟩), .int .u64 150]) (w.alloc (.cells #[.pointer (some t)] 175)) := by kernel_rfl
theorem Tryz.typePFault (a : Addr) (w : World) : (ReflectliteValue.methodAny (ReflectliteValue.valueError "reflectlite.Value.Type" 0) (fun t _ _ _ => ReflectliteType.toType t) #[.agg #[.pointer (some ⟨6, 175, none⟩), .pointer (some a), .int .u64 150]]).run Tryz.prog w
    = .ok (.iface 286 (.agg #[.pointer (some ⟨6, 175, none⟩)])) w := by kernel_rfl
theorem Tryz.kindPFault (w : World) : ((ReflectliteType.abiMethod fun t => Functor.map (fun a : Nat => Value.int IntKind.u8 (a : Int)) (Rtype.kind t)) #[.pointer (some ⟨6, 175, none⟩)]).run Tryz.prog w = .ok (.int .u8 22) w := by kernel_rfl
theorem Tryz.kindLFault (w : World) : ((ReflectliteType.abiMethod fun t => Functor.map (fun a : Nat => Value.int IntKind.u8 (a : Int)) (Rtype.kind t)) #[.pointer (some ⟨6, 103, none⟩)]).run Tryz.prog w = .ok (.int .u8 25) w := by kernel_rfl
theorem Tryz.partsPFault (a : Addr) (w : World) : (ReflectliteValue.parts (.agg #[.pointer (some ⟨6, 175, none⟩), .pointer (some a), .int .u64 150])).run Tryz.prog w = .ok (some (175, a, 150)) w := by kernel_rfl
theorem Tryz.isNilPFault (a p : Addr) (W : World) (ha : W.cell? a = some (.pointer (some p))) :
    (ReflectliteValue.method (ReflectliteValue.valueError "reflectlite.Value.IsNil" 0) ReflectliteValue.isNil #[.agg #[.pointer (some ⟨6, 175, none⟩), .pointer (some a), .int .u64 150]]).run Tryz.prog W = .ok (.bool false) W := by
  rw [rlm]
  simp only [Sem.run_bind, Tryz.partsPFault, Result.andThen]
  simp [ReflectliteValue.isNil, loadVar, isAgg, underlying, Tryz.underlying175, ha, Result.andThen]
theorem Tryz.elemTPFault (w : World) : (ReflectliteType.method ReflectliteType.elem #[.agg #[.pointer (some ⟨6, 175, none⟩)]]).run Tryz.prog w = .ok (.iface 286 (.agg #[.pointer (some ⟨6, 103, none⟩)])) w := by kernel_rfl
theorem Tryz.implementsLFault (w : World) : (ReflectliteType.relation "Implements" ReflectliteType.implements_ #[.agg #[.pointer (some ⟨6, 103, none⟩)], .iface 286 (.agg #[.pointer (some ⟨6, 55, none⟩)])]).run Tryz.prog w = .ok (.bool true) w := by kernel_rfl
theorem Tryz.elemOfPFault (w : World) : (Rtype.elem? 175).run Tryz.prog w = .ok (some 103) w := by kernel_rfl
theorem Tryz.mkLFault (p : Addr) (w : World) : (ReflectliteValue.mk 103 p ReflectliteValue.flagAddr).run Tryz.prog w = .ok (.agg #[.pointer (some ⟨6, 103, none⟩), .pointer (some p), .int .u64 409]) w := by kernel_rfl
theorem Tryz.elemVPFault (a p : Addr) (W : World) (ha : W.cell? a = some (.pointer (some p))) :
    (ReflectliteValue.method (ReflectliteValue.valueError "reflectlite.Value.Elem" 0) ReflectliteValue.elem #[.agg #[.pointer (some ⟨6, 175, none⟩), .pointer (some a), .int .u64 150]]).run Tryz.prog W
      = .ok (.agg #[.pointer (some ⟨6, 103, none⟩), .pointer (some p), .int .u64 409]) W := by
  rw [rlm]
  simp only [Sem.run_bind, Tryz.partsPFault, Result.andThen]
  simp [ReflectliteValue.elem, loadVar, isAgg, underlying, Tryz.underlying175, ha, Result.andThen, Tryz.elemOfPFault, Tryz.mkLFault]
theorem Tryz.valueOfLFault (s : ByteArray) (w : World) : (ReflectliteValue.unpack (.iface 103 (.agg #[.string s]))).run Tryz.prog w
    = .ok (.agg #[.pointer (some ⟨6, 103, none⟩), .pointer (some ⟨w.heap.size, 0, none⟩), .int .u64 153]) (w.alloc (.cells #[.string s] 103)) := by kernel_rfl
theorem Tryz.partsLaFault (a : Addr) (w : World) : (ReflectliteValue.parts (.agg #[.pointer (some ⟨6, 103, none⟩), .pointer (some a), .int .u64 409])).run Tryz.prog w = .ok (some (103, a, 409)) w := by kernel_rfl
theorem Tryz.partsLFault (a : Addr) (w : World) : (ReflectliteValue.parts (.agg #[.pointer (some ⟨6, 103, none⟩), .pointer (some a), .int .u64 153])).run Tryz.prog w = .ok (some (103, a, 153)) w := by kernel_rfl
theorem Tryz.directLFault (w : World) : (Rtype.directlyAssignable 103 103).run Tryz.prog w = .ok true w := by kernel_rfl

theorem Tryz.valueOfPOther (t : Addr) (w : World) : (ReflectliteValue.unpack (.iface 176 (.pointer (some t)))).run Tryz.prog w
    = .ok (.agg #[.pointer (some ⟨6, 176, none⟩), .pointer (some ⟨w.heap.size, 0, none⟩), .int .u64 150]) (w.alloc (.cells #[.pointer (some t)] 176)) := by kernel_rfl
theorem Tryz.typePOther (a : Addr) (w : World) : (ReflectliteValue.methodAny (ReflectliteValue.valueError "reflectlite.Value.Type" 0) (fun t _ _ _ => ReflectliteType.toType t) #[.agg #[.pointer (some ⟨6, 176, none⟩), .pointer (some a), .int .u64 150]]).run Tryz.prog w
    = .ok (.iface 286 (.agg #[.pointer (some ⟨6, 176, none⟩)])) w := by kernel_rfl
theorem Tryz.kindPOther (w : World) : ((ReflectliteType.abiMethod fun t => Functor.map (fun a : Nat => Value.int IntKind.u8 (a : Int)) (Rtype.kind t)) #[.pointer (some ⟨6, 176, none⟩)]).run Tryz.prog w = .ok (.int .u8 22) w := by kernel_rfl
theorem Tryz.kindLOther (w : World) : ((ReflectliteType.abiMethod fun t => Functor.map (fun a : Nat => Value.int IntKind.u8 (a : Int)) (Rtype.kind t)) #[.pointer (some ⟨6, 105, none⟩)]).run Tryz.prog w = .ok (.int .u8 25) w := by kernel_rfl
theorem Tryz.partsPOther (a : Addr) (w : World) : (ReflectliteValue.parts (.agg #[.pointer (some ⟨6, 176, none⟩), .pointer (some a), .int .u64 150])).run Tryz.prog w = .ok (some (176, a, 150)) w := by kernel_rfl
theorem Tryz.isNilPOther (a p : Addr) (W : World) (ha : W.cell? a = some (.pointer (some p))) :
    (ReflectliteValue.method (ReflectliteValue.valueError "reflectlite.Value.IsNil" 0) ReflectliteValue.isNil #[.agg #[.pointer (some ⟨6, 176, none⟩), .pointer (some a), .int .u64 150]]).run Tryz.prog W = .ok (.bool false) W := by
  rw [rlm]
  simp only [Sem.run_bind, Tryz.partsPOther, Result.andThen]
  simp [ReflectliteValue.isNil, loadVar, isAgg, underlying, Tryz.underlying176, ha, Result.andThen]
theorem Tryz.elemTPOther (w : World) : (ReflectliteType.method ReflectliteType.elem #[.agg #[.pointer (some ⟨6, 176, none⟩)]]).run Tryz.prog w = .ok (.iface 286 (.agg #[.pointer (some ⟨6, 105, none⟩)])) w := by kernel_rfl
theorem Tryz.implementsLOther (w : World) : (ReflectliteType.relation "Implements" ReflectliteType.implements_ #[.agg #[.pointer (some ⟨6, 105, none⟩)], .iface 286 (.agg #[.pointer (some ⟨6, 55, none⟩)])]).run Tryz.prog w = .ok (.bool true) w := by kernel_rfl
theorem Tryz.elemOfPOther (w : World) : (Rtype.elem? 176).run Tryz.prog w = .ok (some 105) w := by kernel_rfl
theorem Tryz.mkLOther (p : Addr) (w : World) : (ReflectliteValue.mk 105 p ReflectliteValue.flagAddr).run Tryz.prog w = .ok (.agg #[.pointer (some ⟨6, 105, none⟩), .pointer (some p), .int .u64 409]) w := by kernel_rfl
theorem Tryz.elemVPOther (a p : Addr) (W : World) (ha : W.cell? a = some (.pointer (some p))) :
    (ReflectliteValue.method (ReflectliteValue.valueError "reflectlite.Value.Elem" 0) ReflectliteValue.elem #[.agg #[.pointer (some ⟨6, 176, none⟩), .pointer (some a), .int .u64 150]]).run Tryz.prog W
      = .ok (.agg #[.pointer (some ⟨6, 105, none⟩), .pointer (some p), .int .u64 409]) W := by
  rw [rlm]
  simp only [Sem.run_bind, Tryz.partsPOther, Result.andThen]
  simp [ReflectliteValue.elem, loadVar, isAgg, underlying, Tryz.underlying176, ha, Result.andThen, Tryz.elemOfPOther, Tryz.mkLOther]
theorem Tryz.valueOfLOther (n m : Int) (w : World) : (ReflectliteValue.unpack (.iface 105 (.agg #[.int .u32 n, .int .u32 m]))).run Tryz.prog w
    = .ok (.agg #[.pointer (some ⟨6, 105, none⟩), .pointer (some ⟨w.heap.size, 0, none⟩), .int .u64 153]) (w.alloc (.cells #[.int .u32 n, .int .u32 m] 105)) := by kernel_rfl
theorem Tryz.partsLaOther (a : Addr) (w : World) : (ReflectliteValue.parts (.agg #[.pointer (some ⟨6, 105, none⟩), .pointer (some a), .int .u64 409])).run Tryz.prog w = .ok (some (105, a, 409)) w := by kernel_rfl
theorem Tryz.partsLOther (a : Addr) (w : World) : (ReflectliteValue.parts (.agg #[.pointer (some ⟨6, 105, none⟩), .pointer (some a), .int .u64 153])).run Tryz.prog w = .ok (some (105, a, 153)) w := by kernel_rfl
theorem Tryz.directLOther (w : World) : (Rtype.directlyAssignable 105 105).run Tryz.prog w = .ok true w := by kernel_rfl

theorem Tryz.typeOfLong (v : Value) (w : World) : (ReflectliteType.typeOf #[.iface 95 v]).run Tryz.prog w = .ok (.iface 286 (.agg #[.pointer (some ⟨6, 95, none⟩)])) w := by kernel_rfl
theorem Tryz.noAsLong (v : Value) (x : TypeId) (w : World) : (Instr.typeAssert (.iface 95 v) x 291 true).run Tryz.prog w = .ok (.tuple #[.nilIface, .bool false]) w := run_typeAssert_lacksB Tryz.underlying291 (by kernel_rfl) (by kernel_rfl) v x w
theorem Tryz.noUnwrapLong (v : Value) (x : TypeId) (w : World) : (Instr.typeAssert (.iface 95 v) x 294 true).run Tryz.prog w = .ok (.tuple #[.nilIface, .bool false]) w := run_typeAssert_lacksB Tryz.underlying294 (by kernel_rfl) (by kernel_rfl) v x w
theorem Tryz.noUnwrapsLong (v : Value) (x : TypeId) (w : World) : (Instr.typeAssert (.iface 95 v) x 296 true).run Tryz.prog w = .ok (.tuple #[.nilIface, .bool false]) w := run_typeAssert_lacksB Tryz.underlying296 (by kernel_rfl) (by kernel_rfl) v x w

theorem Tryz.typeOfLate (v : Value) (w : World) : (ReflectliteType.typeOf #[.iface 97 v]).run Tryz.prog w = .ok (.iface 286 (.agg #[.pointer (some ⟨6, 97, none⟩)])) w := by kernel_rfl
theorem Tryz.noAsLate (v : Value) (x : TypeId) (w : World) : (Instr.typeAssert (.iface 97 v) x 291 true).run Tryz.prog w = .ok (.tuple #[.nilIface, .bool false]) w := run_typeAssert_lacksB Tryz.underlying291 (by kernel_rfl) (by kernel_rfl) v x w
theorem Tryz.noUnwrapLate (v : Value) (x : TypeId) (w : World) : (Instr.typeAssert (.iface 97 v) x 294 true).run Tryz.prog w = .ok (.tuple #[.nilIface, .bool false]) w := run_typeAssert_lacksB Tryz.underlying294 (by kernel_rfl) (by kernel_rfl) v x w
theorem Tryz.noUnwrapsLate (v : Value) (x : TypeId) (w : World) : (Instr.typeAssert (.iface 97 v) x 296 true).run Tryz.prog w = .ok (.tuple #[.nilIface, .bool false]) w := run_typeAssert_lacksB Tryz.underlying296 (by kernel_rfl) (by kernel_rfl) v x w

theorem Tryz.typeOfFull (v : Value) (w : World) : (ReflectliteType.typeOf #[.iface 99 v]).run Tryz.prog w = .ok (.iface 286 (.agg #[.pointer (some ⟨6, 99, none⟩)])) w := by kernel_rfl
theorem Tryz.noAsFull (v : Value) (x : TypeId) (w : World) : (Instr.typeAssert (.iface 99 v) x 291 true).run Tryz.prog w = .ok (.tuple #[.nilIface, .bool false]) w := run_typeAssert_lacksB Tryz.underlying291 (by kernel_rfl) (by kernel_rfl) v x w
theorem Tryz.noUnwrapFull (v : Value) (x : TypeId) (w : World) : (Instr.typeAssert (.iface 99 v) x 294 true).run Tryz.prog w = .ok (.tuple #[.nilIface, .bool false]) w := run_typeAssert_lacksB Tryz.underlying294 (by kernel_rfl) (by kernel_rfl) v x w
theorem Tryz.noUnwrapsFull (v : Value) (x : TypeId) (w : World) : (Instr.typeAssert (.iface 99 v) x 296 true).run Tryz.prog w = .ok (.tuple #[.nilIface, .bool false]) w := run_typeAssert_lacksB Tryz.underlying296 (by kernel_rfl) (by kernel_rfl) v x w

theorem Tryz.typeOfBytes (v : Value) (w : World) : (ReflectliteType.typeOf #[.iface 101 v]).run Tryz.prog w = .ok (.iface 286 (.agg #[.pointer (some ⟨6, 101, none⟩)])) w := by kernel_rfl
theorem Tryz.noAsBytes (v : Value) (x : TypeId) (w : World) : (Instr.typeAssert (.iface 101 v) x 291 true).run Tryz.prog w = .ok (.tuple #[.nilIface, .bool false]) w := run_typeAssert_lacksB Tryz.underlying291 (by kernel_rfl) (by kernel_rfl) v x w
theorem Tryz.noUnwrapBytes (v : Value) (x : TypeId) (w : World) : (Instr.typeAssert (.iface 101 v) x 294 true).run Tryz.prog w = .ok (.tuple #[.nilIface, .bool false]) w := run_typeAssert_lacksB Tryz.underlying294 (by kernel_rfl) (by kernel_rfl) v x w
theorem Tryz.noUnwrapsBytes (v : Value) (x : TypeId) (w : World) : (Instr.typeAssert (.iface 101 v) x 296 true).run Tryz.prog w = .ok (.tuple #[.nilIface, .bool false]) w := run_typeAssert_lacksB Tryz.underlying296 (by kernel_rfl) (by kernel_rfl) v x w

theorem Tryz.typeOfFault (v : Value) (w : World) : (ReflectliteType.typeOf #[.iface 103 v]).run Tryz.prog w = .ok (.iface 286 (.agg #[.pointer (some ⟨6, 103, none⟩)])) w := by kernel_rfl
theorem Tryz.noAsFault (v : Value) (x : TypeId) (w : World) : (Instr.typeAssert (.iface 103 v) x 291 true).run Tryz.prog w = .ok (.tuple #[.nilIface, .bool false]) w := run_typeAssert_lacksB Tryz.underlying291 (by kernel_rfl) (by kernel_rfl) v x w
theorem Tryz.noUnwrapFault (v : Value) (x : TypeId) (w : World) : (Instr.typeAssert (.iface 103 v) x 294 true).run Tryz.prog w = .ok (.tuple #[.nilIface, .bool false]) w := run_typeAssert_lacksB Tryz.underlying294 (by kernel_rfl) (by kernel_rfl) v x w
theorem Tryz.noUnwrapsFault (v : Value) (x : TypeId) (w : World) : (Instr.typeAssert (.iface 103 v) x 296 true).run Tryz.prog w = .ok (.tuple #[.nilIface, .bool false]) w := run_typeAssert_lacksB Tryz.underlying296 (by kernel_rfl) (by kernel_rfl) v x w

theorem Tryz.typeOfOther (v : Value) (w : World) : (ReflectliteType.typeOf #[.iface 105 v]).run Tryz.prog w = .ok (.iface 286 (.agg #[.pointer (some ⟨6, 105, none⟩)])) w := by kernel_rfl
theorem Tryz.noAsOther (v : Value) (x : TypeId) (w : World) : (Instr.typeAssert (.iface 105 v) x 291 true).run Tryz.prog w = .ok (.tuple #[.nilIface, .bool false]) w := run_typeAssert_lacksB Tryz.underlying291 (by kernel_rfl) (by kernel_rfl) v x w
theorem Tryz.noUnwrapOther (v : Value) (x : TypeId) (w : World) : (Instr.typeAssert (.iface 105 v) x 294 true).run Tryz.prog w = .ok (.tuple #[.nilIface, .bool false]) w := run_typeAssert_lacksB Tryz.underlying294 (by kernel_rfl) (by kernel_rfl) v x w
theorem Tryz.noUnwrapsOther (v : Value) (x : TypeId) (w : World) : (Instr.typeAssert (.iface 105 v) x 296 true).run Tryz.prog w = .ok (.tuple #[.nilIface, .bool false]) w := run_typeAssert_lacksB Tryz.underlying296 (by kernel_rfl) (by kernel_rfl) v x w
theorem Tryz.assignableLongLate (w : World) : (ReflectliteType.relation "AssignableTo" ReflectliteType.assignableTo #[.agg #[.pointer (some ⟨6, 97, none⟩)], .iface 286 (.agg #[.pointer (some ⟨6, 95, none⟩)])]).run Tryz.prog w = .ok (.bool false) w := by kernel_rfl
theorem Tryz.assignableLongFull (w : World) : (ReflectliteType.relation "AssignableTo" ReflectliteType.assignableTo #[.agg #[.pointer (some ⟨6, 99, none⟩)], .iface 286 (.agg #[.pointer (some ⟨6, 95, none⟩)])]).run Tryz.prog w = .ok (.bool false) w := by kernel_rfl
theorem Tryz.assignableLateFull (w : World) : (ReflectliteType.relation "AssignableTo" ReflectliteType.assignableTo #[.agg #[.pointer (some ⟨6, 99, none⟩)], .iface 286 (.agg #[.pointer (some ⟨6, 97, none⟩)])]).run Tryz.prog w = .ok (.bool false) w := by kernel_rfl
theorem Tryz.assignableLongBytes (w : World) : (ReflectliteType.relation "AssignableTo" ReflectliteType.assignableTo #[.agg #[.pointer (some ⟨6, 101, none⟩)], .iface 286 (.agg #[.pointer (some ⟨6, 95, none⟩)])]).run Tryz.prog w = .ok (.bool false) w := by kernel_rfl
theorem Tryz.assignableLateBytes (w : World) : (ReflectliteType.relation "AssignableTo" ReflectliteType.assignableTo #[.agg #[.pointer (some ⟨6, 101, none⟩)], .iface 286 (.agg #[.pointer (some ⟨6, 97, none⟩)])]).run Tryz.prog w = .ok (.bool false) w := by kernel_rfl
theorem Tryz.assignableFullBytes (w : World) : (ReflectliteType.relation "AssignableTo" ReflectliteType.assignableTo #[.agg #[.pointer (some ⟨6, 101, none⟩)], .iface 286 (.agg #[.pointer (some ⟨6, 99, none⟩)])]).run Tryz.prog w = .ok (.bool false) w := by kernel_rfl
theorem Tryz.assignableLongFault (w : World) : (ReflectliteType.relation "AssignableTo" ReflectliteType.assignableTo #[.agg #[.pointer (some ⟨6, 103, none⟩)], .iface 286 (.agg #[.pointer (some ⟨6, 95, none⟩)])]).run Tryz.prog w = .ok (.bool false) w := by kernel_rfl
theorem Tryz.assignableLateFault (w : World) : (ReflectliteType.relation "AssignableTo" ReflectliteType.assignableTo #[.agg #[.pointer (some ⟨6, 103, none⟩)], .iface 286 (.agg #[.pointer (some ⟨6, 97, none⟩)])]).run Tryz.prog w = .ok (.bool false) w := by kernel_rfl
theorem Tryz.assignableFullFault (w : World) : (ReflectliteType.relation "AssignableTo" ReflectliteType.assignableTo #[.agg #[.pointer (some ⟨6, 103, none⟩)], .iface 286 (.agg #[.pointer (some ⟨6, 99, none⟩)])]).run Tryz.prog w = .ok (.bool false) w := by kernel_rfl
theorem Tryz.assignableBytesFault (w : World) : (ReflectliteType.relation "AssignableTo" ReflectliteType.assignableTo #[.agg #[.pointer (some ⟨6, 103, none⟩)], .iface 286 (.agg #[.pointer (some ⟨6, 101, none⟩)])]).run Tryz.prog w = .ok (.bool false) w := by kernel_rfl
theorem Tryz.assignableLongOther (w : World) : (ReflectliteType.relation "AssignableTo" ReflectliteType.assignableTo #[.agg #[.pointer (some ⟨6, 105, none⟩)], .iface 286 (.agg #[.pointer (some ⟨6, 95, none⟩)])]).run Tryz.prog w = .ok (.bool false) w := by kernel_rfl
theorem Tryz.assignableLateOther (w : World) : (ReflectliteType.relation "AssignableTo" ReflectliteType.assignableTo #[.agg #[.pointer (some ⟨6, 105, none⟩)], .iface 286 (.agg #[.pointer (some ⟨6, 97, none⟩)])]).run Tryz.prog w = .ok (.bool false) w := by kernel_rfl
theorem Tryz.assignableFullOther (w : World) : (ReflectliteType.relation "AssignableTo" ReflectliteType.assignableTo #[.agg #[.pointer (some ⟨6, 105, none⟩)], .iface 286 (.agg #[.pointer (some ⟨6, 99, none⟩)])]).run Tryz.prog w = .ok (.bool false) w := by kernel_rfl
theorem Tryz.assignableBytesOther (w : World) : (ReflectliteType.relation "AssignableTo" ReflectliteType.assignableTo #[.agg #[.pointer (some ⟨6, 105, none⟩)], .iface 286 (.agg #[.pointer (some ⟨6, 101, none⟩)])]).run Tryz.prog w = .ok (.bool false) w := by kernel_rfl
theorem Tryz.assignableFaultOther (w : World) : (ReflectliteType.relation "AssignableTo" ReflectliteType.assignableTo #[.agg #[.pointer (some ⟨6, 105, none⟩)], .iface 286 (.agg #[.pointer (some ⟨6, 103, none⟩)])]).run Tryz.prog w = .ok (.bool false) w := by kernel_rfl
theorem Tryz.assignableLongLong (w : World) : (ReflectliteType.relation "AssignableTo" ReflectliteType.assignableTo #[.agg #[.pointer (some ⟨6, 95, none⟩)], .iface 286 (.agg #[.pointer (some ⟨6, 95, none⟩)])]).run Tryz.prog w = .ok (.bool true) w := by kernel_rfl
theorem Tryz.assignableLateLate (w : World) : (ReflectliteType.relation "AssignableTo" ReflectliteType.assignableTo #[.agg #[.pointer (some ⟨6, 97, none⟩)], .iface 286 (.agg #[.pointer (some ⟨6, 97, none⟩)])]).run Tryz.prog w = .ok (.bool true) w := by kernel_rfl
theorem Tryz.assignableFullFull (w : World) : (ReflectliteType.relation "AssignableTo" ReflectliteType.assignableTo #[.agg #[.pointer (some ⟨6, 99, none⟩)], .iface 286 (.agg #[.pointer (some ⟨6, 99, none⟩)])]).run Tryz.prog w = .ok (.bool true) w := by kernel_rfl
theorem Tryz.assignableBytesBytes (w : World) : (ReflectliteType.relation "AssignableTo" ReflectliteType.assignableTo #[.agg #[.pointer (some ⟨6, 101, none⟩)], .iface 286 (.agg #[.pointer (some ⟨6, 101, none⟩)])]).run Tryz.prog w = .ok (.bool true) w := by kernel_rfl
theorem Tryz.assignableFaultFault (w : World) : (ReflectliteType.relation "AssignableTo" ReflectliteType.assignableTo #[.agg #[.pointer (some ⟨6, 103, none⟩)], .iface 286 (.agg #[.pointer (some ⟨6, 103, none⟩)])]).run Tryz.prog w = .ok (.bool true) w := by kernel_rfl
theorem Tryz.assignableOtherOther (w : World) : (ReflectliteType.relation "AssignableTo" ReflectliteType.assignableTo #[.agg #[.pointer (some ⟨6, 105, none⟩)], .iface 286 (.agg #[.pointer (some ⟨6, 105, none⟩)])]).run Tryz.prog w = .ok (.bool true) w := by kernel_rfl

end Go.Proofs.YtfldcmdhneegmabGreatDoor

/-
  package spotter's number at nil; what errors.As reads. Made by mkas.py.
-/
namespace Go.Proofs.YtfldcmdhneegmabGreatDoor
open Go.RowKit Go.Extern.Stop Go.Stop Go.Extern

/-- package errors' variable errorType holds the handle of the type error. -/
def ErrType (w : World) : Prop := w.cell? ⟨0, 0, none⟩ = some (.iface 286 (.agg #[.pointer (some ⟨6, 55, none⟩)]))
theorem ErrType.below {w w' : World} (h : ErrType w) (hb : Below w.heap.size w w') : ErrType w' := by
  have hlt : 0 < w.heap.size := World.block_lt_of_cell? w ⟨0, 0, none⟩ h
  unfold ErrType
  rw [World.cell?_of_block (a := ⟨0, 0, none⟩) (hb.block _ hlt)]
  exact h
theorem ErrType.alloc {w : World} (h : ErrType w) (o : Obj) : ErrType (w.alloc o) := h.below ((Below.refl _ w).alloc (Nat.le_refl _) o)

set_option maxHeartbeats 4000000 in
theorem number_nil (w : World) :
    Calls Tryz.prog 19 #[.nilIface] w fun e w' => e = .returned (.int .i64 0) ∧ w' = w := by
  go_enter Tryz.func19, Tryz.ntmps19
  go_wp2
  go_ret
  exact ⟨rfl, rfl⟩

end Go.Proofs.YtfldcmdhneegmabGreatDoor

/-
  errors.As at the targets of package spotter's 'is': where BytesError misses. Made by mkas.py.
-/
namespace Go.Proofs.YtfldcmdhneegmabGreatDoor
open Go.RowKit Go.Extern.Stop Go.Stop Go.Extern

set_option maxHeartbeats 4000000 in
set_option maxRecDepth 100000 in
theorem as_missLongBytes (v : Value) (t : Addr) (w : World) (hg : w.cell? ⟨0, 0, none⟩ = some (.iface 286 (.agg #[.pointer (some ⟨6, 55, none⟩)]))) :
    Calls Tryz.prog 86 #[.iface 101 v, .iface 171 (.pointer (some t))] w fun ev w' => ev = .returned (.bool false) ∧ w' = ((w.alloc (.cells #[.pointer (some t)] 171)).alloc (.cells #[.pointer (some ⟨6, 171, none⟩), .pointer (some ⟨w.heap.size, 0, none⟩), .int .u64 150] 240)).alloc (.cells #[.pointer (some ⟨6, 171, none⟩), .pointer (some ⟨w.heap.size, 0, none⟩), .int .u64 150] 240) := by
  have x28 := @run_callFunc_extern Tryz.prog 151 _ (fun args => ReflectliteValue.unpack (args.getD 0 (.tuple #[]))) Tryz.func151 (by kernel_rfl) (by kernel_rfl) (by kernel_rfl) (by kernel_rfl)
  have x29 := @run_callFunc_extern Tryz.prog 152 _ (ReflectliteValue.methodAny (ReflectliteValue.valueError "reflectlite.Value.Type" 0) (fun t _ _ _ => ReflectliteType.toType t)) Tryz.func152 (by kernel_rfl) (by kernel_rfl) (by kernel_rfl) (by kernel_rfl)
  have x30 := @run_callFunc_extern Tryz.prog 153 _ (ReflectliteValue.method (ReflectliteValue.valueError "reflectlite.Value.IsNil" 0) ReflectliteValue.isNil) Tryz.func153 (by kernel_rfl) (by kernel_rfl) (by kernel_rfl) (by kernel_rfl)
  have x70 := @run_callFunc_extern Tryz.prog 263 _ (ReflectliteType.abiMethod fun t => do pure (.int .u8 (← Rtype.kind t))) Tryz.func263 (by kernel_rfl) (by kernel_rfl) (by kernel_rfl) (by kernel_rfl)
  have x83 := @run_callFunc_extern Tryz.prog 289 _ (ReflectliteType.method ReflectliteType.elem) Tryz.func289 (by kernel_rfl) (by kernel_rfl) (by kernel_rfl) (by kernel_rfl)
  have x84 := @run_callFunc_extern Tryz.prog 290 _ (ReflectliteType.relation "Implements" ReflectliteType.implements_) Tryz.func290 (by kernel_rfl) (by kernel_rfl) (by kernel_rfl) (by kernel_rfl)
  have x40 := @run_callFunc_extern Tryz.prog 188 _ ReflectliteType.typeOf Tryz.func188 (by kernel_rfl) (by kernel_rfl) (by kernel_rfl) (by kernel_rfl)
  have x81 := @run_callFunc_extern Tryz.prog 287 _ (ReflectliteType.relation "AssignableTo" ReflectliteType.assignableTo) Tryz.func287 (by kernel_rfl) (by kernel_rfl) (by kernel_rfl) (by kernel_rfl)
  have x41 := @run_callFunc_extern Tryz.prog 189 _ (ReflectliteValue.method (ReflectliteValue.valueError "reflectlite.Value.Elem" 0) ReflectliteValue.elem) Tryz.func189 (by kernel_rfl) (by kernel_rfl) (by kernel_rfl) (by kernel_rfl)
  have x42 := @run_callFunc_extern Tryz.prog 190 _ ReflectliteValue.set Tryz.func190 (by kernel_rfl) (by kernel_rfl) (by kernel_rfl) (by kernel_rfl)
  have f28 := Tryz.valueOfPLong
  have f29 := Tryz.typePLong
  have mK := Tryz.methodKind
  have mE := Tryz.methodElem
  have mI := Tryz.methodImplements
  have mA := Tryz.methodAssignableTo
  have kP := Tryz.kindPLong
  have kL := Tryz.kindLLong
  have eP := Tryz.elemTPLong
  have iL := Tryz.implementsLLong
  have hlt : 0 < w.heap.size := World.block_lt_of_cell? w ⟨0, 0, none⟩ hg
  have n30 := Tryz.isNilPLong ⟨w.heap.size, 0, none⟩ t ((w.alloc (.cells #[.pointer (some t)] 171)).alloc (.cells #[.pointer (some ⟨6, 171, none⟩), .pointer (some ⟨w.heap.size, 0, none⟩), .int .u64 150] 240)) (by simp)
  have hg2 : ((w.alloc (.cells #[.pointer (some t)] 171)).alloc (.cells #[.pointer (some ⟨6, 171, none⟩), .pointer (some ⟨w.heap.size, 0, none⟩), .int .u64 150] 240)).cell? ⟨0, 0, none⟩ = some (.iface 286 (.agg #[.pointer (some ⟨6, 55, none⟩)])) := by
    rw [World.cell?_alloc_lt _ _ ⟨0, 0, none⟩ (by simp <;> omega), World.cell?_alloc_lt _ _ ⟨0, 0, none⟩ hlt]; exact hg
  have tO := Tryz.typeOfBytes
  have aL := Tryz.assignableLongBytes
  have a1 := Tryz.noAsBytes
  have a2 := Tryz.noUnwrapBytes
  have a3 := Tryz.noUnwrapsBytes
  go_enter Tryz.func86, Tryz.ntmps86
  go_wp2
  refine wp_loop_rounds 1 ?_
  rw [rounds_succ]
  go_wp2
  go_ret
  exact ⟨rfl, rfl⟩

set_option maxHeartbeats 4000000 in
set_option maxRecDepth 100000 in
theorem as_missLateBytes (v : Value) (t : Addr) (w : World) (hg : w.cell? ⟨0, 0, none⟩ = some (.iface 286 (.agg #[.pointer (some ⟨6, 55, none⟩)]))) :
    Calls Tryz.prog 86 #[.iface 101 v, .iface 172 (.pointer (some t))] w fun ev w' => ev = .returned (.bool false) ∧ w' = ((w.alloc (.cells #[.pointer (some t)] 172)).alloc (.cells #[.pointer (some ⟨6, 172, none⟩), .pointer (some ⟨w.heap.size, 0, none⟩), .int .u64 150] 240)).alloc (.cells #[.pointer (some ⟨6, 172, none⟩), .pointer (some ⟨w.heap.size, 0, none⟩), .int .u64 150] 240) := by
  have x28 := @run_callFunc_extern Tryz.prog 151 _ (fun args => ReflectliteValue.unpack (args.getD 0 (.tuple #[]))) Tryz.func151 (by kernel_rfl) (by kernel_rfl) (by kernel_rfl) (by kernel_rfl)
  have x29 := @run_callFunc_extern Tryz.prog 152 _ (ReflectliteValue.methodAny (ReflectliteValue.valueError "reflectlite.Value.Type" 0) (fun t _ _ _ => ReflectliteType.toType t)) Tryz.func152 (by kernel_rfl) (by kernel_rfl) (by kernel_rfl) (by kernel_rfl)
  have x30 := @run_callFunc_extern Tryz.prog 153 _ (ReflectliteValue.method (ReflectliteValue.valueError "reflectlite.Value.IsNil" 0) ReflectliteValue.isNil) Tryz.func153 (by kernel_rfl) (by kernel_rfl) (by kernel_rfl) (by kernel_rfl)
  have x70 := @run_callFunc_extern Tryz.prog 263 _ (ReflectliteType.abiMethod fun t => do pure (.int .u8 (← Rtype.kind t))) Tryz.func263 (by kernel_rfl) (by kernel_rfl) (by kernel_rfl) (by kernel_rfl)
  have x83 := @run_callFunc_extern Tryz.prog 289 _ (ReflectliteType.method ReflectliteType.elem) Tryz.func289 (by kernel_rfl) (by kernel_rfl) (by kernel_rfl) (by kernel_rfl)
  have x84 := @run_callFunc_extern Tryz.prog 290 _ (ReflectliteType.relation "Implements" ReflectliteType.implements_) Tryz.func290 (by kernel_rfl) (by kernel_rfl) (by kernel_rfl) (by kernel_rfl)
  have x40 := @run_callFunc_extern Tryz.prog 188 _ ReflectliteType.typeOf Tryz.func188 (by kernel_rfl) (by kernel_rfl) (by kernel_rfl) (by kernel_rfl)
  have x81 := @run_callFunc_extern Tryz.prog 287 _ (ReflectliteType.relation "AssignableTo" ReflectliteType.assignableTo) Tryz.func287 (by kernel_rfl) (by kernel_rfl) (by kernel_rfl) (by kernel_rfl)
  have x41 := @run_callFunc_extern Tryz.prog 189 _ (ReflectliteValue.method (ReflectliteValue.valueError "reflectlite.Value.Elem" 0) ReflectliteValue.elem) Tryz.func189 (by kernel_rfl) (by kernel_rfl) (by kernel_rfl) (by kernel_rfl)
  have x42 := @run_callFunc_extern Tryz.prog 190 _ ReflectliteValue.set Tryz.func190 (by kernel_rfl) (by kernel_rfl) (by kernel_rfl) (by kernel_rfl)
  have f28 := Tryz.valueOfPLate
  have f29 := Tryz.typePLate
  have mK := Tryz.methodKind
  have mE := Tryz.methodElem
  have mI := Tryz.methodImplements
  have mA := Tryz.methodAssignableTo
  have kP := Tryz.kindPLate
  have kL := Tryz.kindLLate
  have eP := Tryz.elemTPLate
  have iL := Tryz.implementsLLate
  have hlt : 0 < w.heap.size := World.block_lt_of_cell? w ⟨0, 0, none⟩ hg
  have n30 := Tryz.isNilPLate ⟨w.heap.size, 0, none⟩ t ((w.alloc (.cells #[.pointer (some t)] 172)).alloc (.cells #[.pointer (some ⟨6, 172, none⟩), .pointer (some ⟨w.heap.size, 0, none⟩), .int .u64 150] 240)) (by simp)
  have hg2 : ((w.alloc (.cells #[.pointer (some t)] 172)).alloc (.cells #[.pointer (some ⟨6, 172, none⟩), .pointer (some ⟨w.heap.size, 0, none⟩), .int .u64 150] 240)).cell? ⟨0, 0, none⟩ = some (.iface 286 (.agg #[.pointer (some ⟨6, 55, none⟩)])) := by
    rw [World.cell?_alloc_lt _ _ ⟨0, 0, none⟩ (by simp <;> omega), World.cell?_alloc_lt _ _ ⟨0, 0, none⟩ hlt]; exact hg
  have tO := Tryz.typeOfBytes
  have aL := Tryz.assignableLateBytes
  have a1 := Tryz.noAsBytes
  have a2 := Tryz.noUnwrapBytes
  have a3 := Tryz.noUnwrapsBytes
  go_enter Tryz.func86, Tryz.ntmps86
  go_wp2
  refine wp_loop_rounds 1 ?_
  rw [rounds_succ]
  go_wp2
  go_ret
  exact ⟨rfl, rfl⟩

set_option maxHeartbeats 4000000 in
set_option maxRecDepth 100000 in
theorem as_missFullBytes (v : Value) (t : Addr) (w : World) (hg : w.cell? ⟨0, 0, none⟩ = some (.iface 286 (.agg #[.pointer (some ⟨6, 55, none⟩)]))) :
    Calls Tryz.prog 86 #[.iface 101 v, .iface 173 (.pointer (some t))] w fun ev w' => ev = .returned (.bool false) ∧ w' = ((w.alloc (.cells #[.pointer (some t)] 173)).alloc (.cells #[.pointer (some ⟨6, 173, none⟩), .pointer (some ⟨w.heap.size, 0, none⟩), .int .u64 150] 240)).alloc (.cells #[.pointer (some ⟨6, 173, none⟩), .pointer (some ⟨w.heap.size, 0, none⟩), .int .u64 150] 240) := by
  have x28 := @run_callFunc_extern Tryz.prog 151 _ (fun args => ReflectliteValue.unpack (args.getD 0 (.tuple #[]))) Tryz.func151 (by kernel_rfl) (by kernel_rfl) (by kernel_rfl) (by kernel_rfl)
  have x29 := @run_callFunc_extern Tryz.prog 152 _ (ReflectliteValue.methodAny (ReflectliteValue.valueError "reflectlite.Value.Type" 0) (fun t _ _ _ => ReflectliteType.toType t)) Tryz.func152 (by kernel_rfl) (by kernel_rfl) (by kernel_rfl) (by kernel_rfl)
  have x30 := @run_callFunc_extern Tryz.prog 153 _ (ReflectliteValue.method (ReflectliteValue.valueError "reflectlite.Value.IsNil" 0) ReflectliteValue.isNil) Tryz.func153 (by kernel_rfl) (by kernel_rfl) (by kernel_rfl) (by kernel_rfl)
  have x70 := @run_callFunc_extern Tryz.prog 263 _ (ReflectliteType.abiMethod fun t => do pure (.int .u8 (← Rtype.kind t))) Tryz.func263 (by kernel_rfl) (by kernel_rfl) (by kernel_rfl) (by kernel_rfl)
  have x83 := @run_callFunc_extern Tryz.prog 289 _ (ReflectliteType.method ReflectliteType.elem) Tryz.func289 (by kernel_rfl) (by kernel_rfl) (by kernel_rfl) (by kernel_rfl)
  have x84 := @run_callFunc_extern Tryz.prog 290 _ (ReflectliteType.relation "Implements" ReflectliteType.implements_) Tryz.func290 (by kernel_rfl) (by kernel_rfl) (by kernel_rfl) (by kernel_rfl)
  have x40 := @run_callFunc_extern Tryz.prog 188 _ ReflectliteType.typeOf Tryz.func188 (by kernel_rfl) (by kernel_rfl) (by kernel_rfl) (by kernel_rfl)
  have x81 := @run_callFunc_extern Tryz.prog 287 _ (ReflectliteType.relation "AssignableTo" ReflectliteType.assignableTo) Tryz.func287 (by kernel_rfl) (by kernel_rfl) (by kernel_rfl) (by kernel_rfl)
  have x41 := @run_callFunc_extern Tryz.prog 189 _ (ReflectliteValue.method (ReflectliteValue.valueError "reflectlite.Value.Elem" 0) ReflectliteValue.elem) Tryz.func189 (by kernel_rfl) (by kernel_rfl) (by kernel_rfl) (by kernel_rfl)
  have x42 := @run_callFunc_extern Tryz.prog 190 _ ReflectliteValue.set Tryz.func190 (by kernel_rfl) (by kernel_rfl) (by kernel_rfl) (by kernel_rfl)
  have f28 := Tryz.valueOfPFull
  have f29 := Tryz.typePFull
  have mK := Tryz.methodKind
  have mE := Tryz.methodElem
  have mI := Tryz.methodImplements
  have mA := Tryz.methodAssignableTo
  have kP := Tryz.kindPFull
  have kL := Tryz.kindLFull
  have eP := Tryz.elemTPFull
  have iL := Tryz.implementsLFull
  have hlt : 0 < w.heap.size := World.block_lt_of_cell? w ⟨0, 0, none⟩ hg
  have n30 := Tryz.isNilPFull ⟨w.heap.size, 0, none⟩ t ((w.alloc (.cells #[.pointer (some t)] 173)).alloc (.cells #[.pointer (some ⟨6, 173, none⟩), .pointer (some ⟨w.heap.size, 0, none⟩), .int .u64 150] 240)) (by simp)
  have hg2 : ((w.alloc (.cells #[.pointer (some t)] 173)).alloc (.cells #[.pointer (some ⟨6, 173, none⟩), .pointer (some ⟨w.heap.size, 0, none⟩), .int .u64 150] 240)).cell? ⟨0, 0, none⟩ = some (.iface 286 (.agg #[.pointer (some ⟨6, 55, none⟩)])) := by
    rw [World.cell?_alloc_lt _ _ ⟨0, 0, none⟩ (by simp <;> omega), World.cell?_alloc_lt _ _ ⟨0, 0, none⟩ hlt]; exact hg
  have tO := Tryz.typeOfBytes
  have aL := Tryz.assignableFullBytes
  have a1 := Tryz.noAsBytes
  have a2 := Tryz.noUnwrapBytes
  have a3 := Tryz.noUnwrapsBytes
  go_enter Tryz.func86, Tryz.ntmps86
  go_wp2
  refine wp_loop_rounds 1 ?_
  rw [rounds_succ]
  go_wp2
  go_ret
  exact ⟨rfl, rfl⟩

end Go.Proofs.YtfldcmdhneegmabGreatDoor

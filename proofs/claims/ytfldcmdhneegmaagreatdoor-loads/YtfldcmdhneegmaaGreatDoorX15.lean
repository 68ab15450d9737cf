import Derived.Test.YtfldcmdhneegmaaGreatDoorX00
import Derived.LaidEql
import Derived.Stop.Asserts
import Derived.RowKitTokens
set_option maxHeartbeats 4000000
set_option maxRecDepth 1000000
namespace Go.Proofs.YtfldcmdhneegmaaGreatDoor
open Go.RowKit Go.Extern.Stop Go.Stop Go.Extern
theorem Tryz.methodKind (h:Value)(w:World):(Go.method (452+100) 359 (.agg #[h]) "Kind").run Tryz.prog w=.ok (311,h) w:=by kernel_rfl
theorem Tryz.methodElem (h:Value)(w:World):(Go.method (452+100) 359 (.agg #[h]) "Elem").run Tryz.prog w=.ok (337,.agg #[h]) w:=by kernel_rfl
theorem Tryz.methodImplements (h:Value)(w:World):(Go.method (452+100) 359 (.agg #[h]) "Implements").run Tryz.prog w=.ok (338,.agg #[h]) w:=by kernel_rfl
theorem Tryz.methodAssignableTo (h:Value)(w:World):(Go.method (452+100) 359 (.agg #[h]) "AssignableTo").run Tryz.prog w=.ok (335,.agg #[h]) w:=by kernel_rfl
theorem rlm (z:Sem Value)(f:TypeId→Addr→Nat→Nat→Sem Value)(v:Value) :
  ReflectliteValue.method z f #[v]=(do match ← ReflectliteValue.parts v with | none=>z | some (t,a,fl)=>f t a fl (fl % 32)):=rfl
theorem run_two {P:Program}{α β:Type}(x:Sem α)(y:Sem β){k:α→β→Sem Value}{m:Sem Value}{W:World}{r:Result Value}(e:m=(x >>= fun p=>y >>= fun q=>k p q))(h:(x >>= fun p=>y >>= fun q=>k p q).run P W=r):m.run P W=r:=by rw[e];exact h
theorem Tryz.valueOfPLong (t:Addr)(w:World):(ReflectliteValue.unpack (.iface 212 (.pointer (some t)))).run Tryz.prog w
  = .ok (.agg #[.pointer (some ⟨8,212,none⟩),.pointer (some ⟨w.heap.size,0,none⟩),.int .u64 150]) (w.alloc (.cells #[.pointer (some t)] 212)):=by kernel_rfl
theorem Tryz.typePLong (a:Addr)(w:World):(ReflectliteValue.methodAny (ReflectliteValue.valueError "reflectlite.Value.Type" 0) (fun t _ _ _=>ReflectliteType.toType t) #[.agg #[.pointer (some ⟨8,212,none⟩),.pointer (some a),.int .u64 150]]).run Tryz.prog w
  = .ok (.iface 359 (.agg #[.pointer (some ⟨8,212,none⟩)])) w:=by kernel_rfl
theorem Tryz.kindPLong (w:World):((ReflectliteType.abiMethod fun t=>Functor.map (fun a:Nat=>Value.int IntKind.u8 (a:Int)) (Rtype.kind t)) #[.pointer (some ⟨8,212,none⟩)]).run Tryz.prog w=.ok (.int .u8 22) w:=by kernel_rfl
theorem Tryz.kindLLong (w:World):((ReflectliteType.abiMethod fun t=>Functor.map (fun a:Nat=>Value.int IntKind.u8 (a:Int)) (Rtype.kind t)) #[.pointer (some ⟨8,133,none⟩)]).run Tryz.prog w=.ok (.int .u8 25) w:=by kernel_rfl
theorem Tryz.partsPLong (a:Addr)(w:World):(ReflectliteValue.parts (.agg #[.pointer (some ⟨8,212,none⟩),.pointer (some a),.int .u64 150])).run Tryz.prog w=.ok (some (212,a,150)) w:=by kernel_rfl
theorem Tryz.isNilPLong (a p:Addr)(W:World)(ha:W.cell? a=some (.pointer (some p))) :
  (ReflectliteValue.method (ReflectliteValue.valueError "reflectlite.Value.IsNil" 0) ReflectliteValue.isNil #[.agg #[.pointer (some ⟨8,212,none⟩),.pointer (some a),.int .u64 150]]).run Tryz.prog W=.ok (.bool false) W:=by
 rw[rlm]
 simp only[Sem.run_bind,Tryz.partsPLong,Result.andThen]
 simp[ReflectliteValue.isNil,loadVar,isAgg,underlying,Tryz.underlying212,ha,Result.andThen]
theorem Tryz.elemTPLong (w:World):(ReflectliteType.method ReflectliteType.elem #[.agg #[.pointer (some ⟨8,212,none⟩)]]).run Tryz.prog w=.ok (.iface 359 (.agg #[.pointer (some ⟨8,133,none⟩)])) w:=by kernel_rfl
theorem Tryz.implementsLLong (w:World):(ReflectliteType.relation "Implements" ReflectliteType.implements_ #[.agg #[.pointer (some ⟨8,133,none⟩)],.iface 359 (.agg #[.pointer (some ⟨8,69,none⟩)])]).run Tryz.prog w=.ok (.bool true) w:=by kernel_rfl
theorem Tryz.elemOfPLong (w:World):(Rtype.elem? 212).run Tryz.prog w=.ok (some 133) w:=by kernel_rfl
theorem Tryz.mkLLong (p:Addr)(w:World):(ReflectliteValue.mk 133 p ReflectliteValue.flagAddr).run Tryz.prog w=.ok (.agg #[.pointer (some ⟨8,133,none⟩),.pointer (some p),.int .u64 409]) w:=by kernel_rfl
theorem Tryz.elemVPLong (a p:Addr)(W:World)(ha:W.cell? a=some (.pointer (some p))) :
  (ReflectliteValue.method (ReflectliteValue.valueError "reflectlite.Value.Elem" 0) ReflectliteValue.elem #[.agg #[.pointer (some ⟨8,212,none⟩),.pointer (some a),.int .u64 150]]).run Tryz.prog W
   = .ok (.agg #[.pointer (some ⟨8,133,none⟩),.pointer (some p),.int .u64 409]) W:=by
 rw[rlm]
 simp only[Sem.run_bind,Tryz.partsPLong,Result.andThen]
 simp[ReflectliteValue.elem,loadVar,isAgg,underlying,Tryz.underlying212,ha,Result.andThen,Tryz.elemOfPLong,Tryz.mkLLong]
theorem Tryz.valueOfLLong (n:Int)(w:World):(ReflectliteValue.unpack (.iface 133 (.agg #[.int .i64 n]))).run Tryz.prog w
  = .ok (.agg #[.pointer (some ⟨8,133,none⟩),.pointer (some ⟨w.heap.size,0,none⟩),.int .u64 153]) (w.alloc (.cells #[.int .i64 n] 133)):=by kernel_rfl
theorem Tryz.partsLaLong (a:Addr)(w:World):(ReflectliteValue.parts (.agg #[.pointer (some ⟨8,133,none⟩),.pointer (some a),.int .u64 409])).run Tryz.prog w=.ok (some (133,a,409)) w:=by kernel_rfl
theorem Tryz.partsLLong (a:Addr)(w:World):(ReflectliteValue.parts (.agg #[.pointer (some ⟨8,133,none⟩),.pointer (some a),.int .u64 153])).run Tryz.prog w=.ok (some (133,a,153)) w:=by kernel_rfl
theorem Tryz.directLLong (w:World):(Rtype.directlyAssignable 133 133).run Tryz.prog w=.ok true w:=by kernel_rfl
theorem Tryz.valueOfPLate (t:Addr)(w:World):(ReflectliteValue.unpack (.iface 213 (.pointer (some t)))).run Tryz.prog w
  = .ok (.agg #[.pointer (some ⟨8,213,none⟩),.pointer (some ⟨w.heap.size,0,none⟩),.int .u64 150]) (w.alloc (.cells #[.pointer (some t)] 213)):=by kernel_rfl
theorem Tryz.typePLate (a:Addr)(w:World):(ReflectliteValue.methodAny (ReflectliteValue.valueError "reflectlite.Value.Type" 0) (fun t _ _ _=>ReflectliteType.toType t) #[.agg #[.pointer (some ⟨8,213,none⟩),.pointer (some a),.int .u64 150]]).run Tryz.prog w
  = .ok (.iface 359 (.agg #[.pointer (some ⟨8,213,none⟩)])) w:=by kernel_rfl
theorem Tryz.kindPLate (w:World):((ReflectliteType.abiMethod fun t=>Functor.map (fun a:Nat=>Value.int IntKind.u8 (a:Int)) (Rtype.kind t)) #[.pointer (some ⟨8,213,none⟩)]).run Tryz.prog w=.ok (.int .u8 22) w:=by kernel_rfl
theorem Tryz.kindLLate (w:World):((ReflectliteType.abiMethod fun t=>Functor.map (fun a:Nat=>Value.int IntKind.u8 (a:Int)) (Rtype.kind t)) #[.pointer (some ⟨8,135,none⟩)]).run Tryz.prog w=.ok (.int .u8 25) w:=by kernel_rfl
theorem Tryz.partsPLate (a:Addr)(w:World):(ReflectliteValue.parts (.agg #[.pointer (some ⟨8,213,none⟩),.pointer (some a),.int .u64 150])).run Tryz.prog w=.ok (some (213,a,150)) w:=by kernel_rfl
theorem Tryz.isNilPLate (a p:Addr)(W:World)(ha:W.cell? a=some (.pointer (some p))) :
  (ReflectliteValue.method (ReflectliteValue.valueError "reflectlite.Value.IsNil" 0) ReflectliteValue.isNil #[.agg #[.pointer (some ⟨8,213,none⟩),.pointer (some a),.int .u64 150]]).run Tryz.prog W=.ok (.bool false) W:=by
 rw[rlm]
 simp only[Sem.run_bind,Tryz.partsPLate,Result.andThen]
 simp[ReflectliteValue.isNil,loadVar,isAgg,underlying,Tryz.underlying213,ha,Result.andThen]
theorem Tryz.elemTPLate (w:World):(ReflectliteType.method ReflectliteType.elem #[.agg #[.pointer (some ⟨8,213,none⟩)]]).run Tryz.prog w=.ok (.iface 359 (.agg #[.pointer (some ⟨8,135,none⟩)])) w:=by kernel_rfl
theorem Tryz.implementsLLate (w:World):(ReflectliteType.relation "Implements" ReflectliteType.implements_ #[.agg #[.pointer (some ⟨8,135,none⟩)],.iface 359 (.agg #[.pointer (some ⟨8,69,none⟩)])]).run Tryz.prog w=.ok (.bool true) w:=by kernel_rfl
theorem Tryz.elemOfPLate (w:World):(Rtype.elem? 213).run Tryz.prog w=.ok (some 135) w:=by kernel_rfl
theorem Tryz.mkLLate (p:Addr)(w:World):(ReflectliteValue.mk 135 p ReflectliteValue.flagAddr).run Tryz.prog w=.ok (.agg #[.pointer (some ⟨8,135,none⟩),.pointer (some p),.int .u64 409]) w:=by kernel_rfl
theorem Tryz.elemVPLate (a p:Addr)(W:World)(ha:W.cell? a=some (.pointer (some p))) :
  (ReflectliteValue.method (ReflectliteValue.valueError "reflectlite.Value.Elem" 0) ReflectliteValue.elem #[.agg #[.pointer (some ⟨8,213,none⟩),.pointer (some a),.int .u64 150]]).run Tryz.prog W
   = .ok (.agg #[.pointer (some ⟨8,135,none⟩),.pointer (some p),.int .u64 409]) W:=by
 rw[rlm]
 simp only[Sem.run_bind,Tryz.partsPLate,Result.andThen]
 simp[ReflectliteValue.elem,loadVar,isAgg,underlying,Tryz.underlying213,ha,Result.andThen,Tryz.elemOfPLate,Tryz.mkLLate]
theorem Tryz.valueOfLLate (n m:Int)(w:World):(ReflectliteValue.unpack (.iface 135 (.agg #[.int .i64 n,.int .i64 m]))).run Tryz.prog w
  = .ok (.agg #[.pointer (some ⟨8,135,none⟩),.pointer (some ⟨w.heap.size,0,none⟩),.int .u64 153]) (w.alloc (.cells #[.int .i64 n,.int .i64 m] 135)):=by kernel_rfl
theorem Tryz.partsLaLate (a:Addr)(w:World):(ReflectliteValue.parts (.agg #[.pointer (some ⟨8,135,none⟩),.pointer (some a),.int .u64 409])).run Tryz.prog w=.ok (some (135,a,409)) w:=by kernel_rfl
theorem Tryz.partsLLate (a:Addr)(w:World):(ReflectliteValue.parts (.agg #[.pointer (some ⟨8,135,none⟩),.pointer (some a),.int .u64 153])).run Tryz.prog w=.ok (some (135,a,153)) w:=by kernel_rfl
theorem Tryz.directLLate (w:World):(Rtype.directlyAssignable 135 135).run Tryz.prog w=.ok true w:=by kernel_rfl
theorem Tryz.valueOfPFull (t:Addr)(w:World):(ReflectliteValue.unpack (.iface 214 (.pointer (some t)))).run Tryz.prog w
  = .ok (.agg #[.pointer (some ⟨8,214,none⟩),.pointer (some ⟨w.heap.size,0,none⟩),.int .u64 150]) (w.alloc (.cells #[.pointer (some t)] 214)):=by kernel_rfl
theorem Tryz.typePFull (a:Addr)(w:World):(ReflectliteValue.methodAny (ReflectliteValue.valueError "reflectlite.Value.Type" 0) (fun t _ _ _=>ReflectliteType.toType t) #[.agg #[.pointer (some ⟨8,214,none⟩),.pointer (some a),.int .u64 150]]).run Tryz.prog w
  = .ok (.iface 359 (.agg #[.pointer (some ⟨8,214,none⟩)])) w:=by kernel_rfl
theorem Tryz.kindPFull (w:World):((ReflectliteType.abiMethod fun t=>Functor.map (fun a:Nat=>Value.int IntKind.u8 (a:Int)) (Rtype.kind t)) #[.pointer (some ⟨8,214,none⟩)]).run Tryz.prog w=.ok (.int .u8 22) w:=by kernel_rfl
theorem Tryz.kindLFull (w:World):((ReflectliteType.abiMethod fun t=>Functor.map (fun a:Nat=>Value.int IntKind.u8 (a:Int)) (Rtype.kind t)) #[.pointer (some ⟨8,137,none⟩)]).run Tryz.prog w=.ok (.int .u8 25) w:=by kernel_rfl
theorem Tryz.partsPFull (a:Addr)(w:World):(ReflectliteValue.parts (.agg #[.pointer (some ⟨8,214,none⟩),.pointer (some a),.int .u64 150])).run Tryz.prog w=.ok (some (214,a,150)) w:=by kernel_rfl
theorem Tryz.isNilPFull (a p:Addr)(W:World)(ha:W.cell? a=some (.pointer (some p))) :
  (ReflectliteValue.method (ReflectliteValue.valueError "reflectlite.Value.IsNil" 0) ReflectliteValue.isNil #[.agg #[.pointer (some ⟨8,214,none⟩),.pointer (some a),.int .u64 150]]).run Tryz.prog W=.ok (.bool false) W:=by
 rw[rlm]
 simp only[Sem.run_bind,Tryz.partsPFull,Result.andThen]
 simp[ReflectliteValue.isNil,loadVar,isAgg,underlying,Tryz.underlying214,ha,Result.andThen]
theorem Tryz.elemTPFull (w:World):(ReflectliteType.method ReflectliteType.elem #[.agg #[.pointer (some ⟨8,214,none⟩)]]).run Tryz.prog w=.ok (.iface 359 (.agg #[.pointer (some ⟨8,137,none⟩)])) w:=by kernel_rfl
theorem Tryz.implementsLFull (w:World):(ReflectliteType.relation "Implements" ReflectliteType.implements_ #[.agg #[.pointer (some ⟨8,137,none⟩)],.iface 359 (.agg #[.pointer (some ⟨8,69,none⟩)])]).run Tryz.prog w=.ok (.bool true) w:=by kernel_rfl
theorem Tryz.elemOfPFull (w:World):(Rtype.elem? 214).run Tryz.prog w=.ok (some 137) w:=by kernel_rfl
theorem Tryz.mkLFull (p:Addr)(w:World):(ReflectliteValue.mk 137 p ReflectliteValue.flagAddr).run Tryz.prog w=.ok (.agg #[.pointer (some ⟨8,137,none⟩),.pointer (some p),.int .u64 409]) w:=by kernel_rfl
theorem Tryz.elemVPFull (a p:Addr)(W:World)(ha:W.cell? a=some (.pointer (some p))) :
  (ReflectliteValue.method (ReflectliteValue.valueError "reflectlite.Value.Elem" 0) ReflectliteValue.elem #[.agg #[.pointer (some ⟨8,214,none⟩),.pointer (some a),.int .u64 150]]).run Tryz.prog W
   = .ok (.agg #[.pointer (some ⟨8,137,none⟩),.pointer (some p),.int .u64 409]) W:=by
 rw[rlm]
 simp only[Sem.run_bind,Tryz.partsPFull,Result.andThen]
 simp[ReflectliteValue.elem,loadVar,isAgg,underlying,Tryz.underlying214,ha,Result.andThen,Tryz.elemOfPFull,Tryz.mkLFull]
theorem Tryz.valueOfLFull (s:ByteArray)(m:Int)(w:World):(ReflectliteValue.unpack (.iface 137 (.agg #[.string s,.int .i64 m]))).run Tryz.prog w
  = .ok (.agg #[.pointer (some ⟨8,137,none⟩),.pointer (some ⟨w.heap.size,0,none⟩),.int .u64 153]) (w.alloc (.cells #[.string s,.int .i64 m] 137)):=by kernel_rfl
theorem Tryz.partsLaFull (a:Addr)(w:World):(ReflectliteValue.parts (.agg #[.pointer (some ⟨8,137,none⟩),.pointer (some a),.int .u64 409])).run Tryz.prog w=.ok (some (137,a,409)) w:=by kernel_rfl
theorem Tryz.partsLFull (a:Addr)(w:World):(ReflectliteValue.parts (.agg #[.pointer (some ⟨8,137,none⟩),.pointer (some a),.int .u64 153])).run Tryz.prog w=.ok (some (137,a,153)) w:=by kernel_rfl
theorem Tryz.directLFull (w:World):(Rtype.directlyAssignable 137 137).run Tryz.prog w=.ok true w:=by kernel_rfl
theorem Tryz.valueOfPBytes (t:Addr)(w:World):(ReflectliteValue.unpack (.iface 215 (.pointer (some t)))).run Tryz.prog w
  = .ok (.agg #[.pointer (some ⟨8,215,none⟩),.pointer (some ⟨w.heap.size,0,none⟩),.int .u64 150]) (w.alloc (.cells #[.pointer (some t)] 215)):=by kernel_rfl
theorem Tryz.typePBytes (a:Addr)(w:World):(ReflectliteValue.methodAny (ReflectliteValue.valueError "reflectlite.Value.Type" 0) (fun t _ _ _=>ReflectliteType.toType t) #[.agg #[.pointer (some ⟨8,215,none⟩),.pointer (some a),.int .u64 150]]).run Tryz.prog w
  = .ok (.iface 359 (.agg #[.pointer (some ⟨8,215,none⟩)])) w:=by kernel_rfl
theorem Tryz.kindPBytes (w:World):((ReflectliteType.abiMethod fun t=>Functor.map (fun a:Nat=>Value.int IntKind.u8 (a:Int)) (Rtype.kind t)) #[.pointer (some ⟨8,215,none⟩)]).run Tryz.prog w=.ok (.int .u8 22) w:=by kernel_rfl
theorem Tryz.kindLBytes (w:World):((ReflectliteType.abiMethod fun t=>Functor.map (fun a:Nat=>Value.int IntKind.u8 (a:Int)) (Rtype.kind t)) #[.pointer (some ⟨8,139,none⟩)]).run Tryz.prog w=.ok (.int .u8 25) w:=by kernel_rfl
theorem Tryz.partsPBytes (a:Addr)(w:World):(ReflectliteValue.parts (.agg #[.pointer (some ⟨8,215,none⟩),.pointer (some a),.int .u64 150])).run Tryz.prog w=.ok (some (215,a,150)) w:=by kernel_rfl
theorem Tryz.isNilPBytes (a p:Addr)(W:World)(ha:W.cell? a=some (.pointer (some p))) :
  (ReflectliteValue.method (ReflectliteValue.valueError "reflectlite.Value.IsNil" 0) ReflectliteValue.isNil #[.agg #[.pointer (some ⟨8,215,none⟩),.pointer (some a),.int .u64 150]]).run Tryz.prog W=.ok (.bool false) W:=by
 rw[rlm]
 simp only[Sem.run_bind,Tryz.partsPBytes,Result.andThen]
 simp[ReflectliteValue.isNil,loadVar,isAgg,underlying,Tryz.underlying215,ha,Result.andThen]
theorem Tryz.elemTPBytes (w:World):(ReflectliteType.method ReflectliteType.elem #[.agg #[.pointer (some ⟨8,215,none⟩)]]).run Tryz.prog w=.ok (.iface 359 (.agg #[.pointer (some ⟨8,139,none⟩)])) w:=by kernel_rfl
theorem Tryz.implementsLBytes (w:World):(ReflectliteType.relation "Implements" ReflectliteType.implements_ #[.agg #[.pointer (some ⟨8,139,none⟩)],.iface 359 (.agg #[.pointer (some ⟨8,69,none⟩)])]).run Tryz.prog w=.ok (.bool true) w:=by kernel_rfl
theorem Tryz.elemOfPBytes (w:World):(Rtype.elem? 215).run Tryz.prog w=.ok (some 139) w:=by kernel_rfl
theorem Tryz.mkLBytes (p:Addr)(w:World):(ReflectliteValue.mk 139 p ReflectliteValue.flagAddr).run Tryz.prog w=.ok (.agg #[.pointer (some ⟨8,139,none⟩),.pointer (some p),.int .u64 409]) w:=by kernel_rfl
theorem Tryz.elemVPBytes (a p:Addr)(W:World)(ha:W.cell? a=some (.pointer (some p))) :
  (ReflectliteValue.method (ReflectliteValue.valueError "reflectlite.Value.Elem" 0) ReflectliteValue.elem #[.agg #[.pointer (some ⟨8,215,none⟩),.pointer (some a),.int .u64 150]]).run Tryz.prog W
   = .ok (.agg #[.pointer (some ⟨8,139,none⟩),.pointer (some p),.int .u64 409]) W:=by
 rw[rlm]
 simp only[Sem.run_bind,Tryz.partsPBytes,Result.andThen]
 simp[ReflectliteValue.elem,loadVar,isAgg,underlying,Tryz.underlying215,ha,Result.andThen,Tryz.elemOfPBytes,Tryz.mkLBytes]
theorem Tryz.valueOfLBytes (n:Int)(s:ByteArray)(w:World):(ReflectliteValue.unpack (.iface 139 (.agg #[.int .i64 n,.string s]))).run Tryz.prog w
  = .ok (.agg #[.pointer (some ⟨8,139,none⟩),.pointer (some ⟨w.heap.size,0,none⟩),.int .u64 153]) (w.alloc (.cells #[.int .i64 n,.string s] 139)):=by kernel_rfl
theorem Tryz.partsLaBytes (a:Addr)(w:World):(ReflectliteValue.parts (.agg #[.pointer (some ⟨8,139,none⟩),.pointer (some a),.int .u64 409])).run Tryz.prog w=.ok (some (139,a,409)) w:=by kernel_rfl
theorem Tryz.partsLBytes (a:Addr)(w:World):(ReflectliteValue.parts (.agg #[.pointer (some ⟨8,139,none⟩),.pointer (some a),.int .u64 153])).run Tryz.prog w=.ok (some (139,a,153)) w:=by kernel_rfl
theorem Tryz.directLBytes (w:World):(Rtype.directlyAssignable 139 139).run Tryz.prog w=.ok true w:=by kernel_rfl
theorem Tryz.valueOfPFault (t:Addr)(w:World):(ReflectliteValue.unpack (.iface 216 (.pointer (some t)))).run Tryz.prog w
  = .ok (.agg #[.pointer (some ⟨8,216,none⟩),.pointer (some ⟨w.heap.size,0,none⟩),.int .u64 150]) (w.alloc (.cells #[.pointer (some t)] 216)):=by kernel_rfl
theorem Tryz.typePFault (a:Addr)(w:World):(ReflectliteValue.methodAny (ReflectliteValue.valueError "reflectlite.Value.Type" 0) (fun t _ _ _=>ReflectliteType.toType t) #[.agg #[.pointer (some ⟨8,216,none⟩),.pointer (some a),.int .u64 150]]).run Tryz.prog w
  = .ok (.iface 359 (.agg #[.pointer (some ⟨8,216,none⟩)])) w:=by kernel_rfl
theorem Tryz.kindPFault (w:World):((ReflectliteType.abiMethod fun t=>Functor.map (fun a:Nat=>Value.int IntKind.u8 (a:Int)) (Rtype.kind t)) #[.pointer (some ⟨8,216,none⟩)]).run Tryz.prog w=.ok (.int .u8 22) w:=by kernel_rfl
theorem Tryz.kindLFault (w:World):((ReflectliteType.abiMethod fun t=>Functor.map (fun a:Nat=>Value.int IntKind.u8 (a:Int)) (Rtype.kind t)) #[.pointer (some ⟨8,141,none⟩)]).run Tryz.prog w=.ok (.int .u8 25) w:=by kernel_rfl
theorem Tryz.partsPFault (a:Addr)(w:World):(ReflectliteValue.parts (.agg #[.pointer (some ⟨8,216,none⟩),.pointer (some a),.int .u64 150])).run Tryz.prog w=.ok (some (216,a,150)) w:=by kernel_rfl
theorem Tryz.isNilPFault (a p:Addr)(W:World)(ha:W.cell? a=some (.pointer (some p))) :
  (ReflectliteValue.method (ReflectliteValue.valueError "reflectlite.Value.IsNil" 0) ReflectliteValue.isNil #[.agg #[.pointer (some ⟨8,216,none⟩),.pointer (some a),.int .u64 150]]).run Tryz.prog W=.ok (.bool false) W:=by
 rw[rlm]
 simp only[Sem.run_bind,Tryz.partsPFault,Result.andThen]
 simp[ReflectliteValue.isNil,loadVar,isAgg,underlying,Tryz.underlying216,ha,Result.andThen]
theorem Tryz.elemTPFault (w:World):(ReflectliteType.method ReflectliteType.elem #[.agg #[.pointer (some ⟨8,216,none⟩)]]).run Tryz.prog w=.ok (.iface 359 (.agg #[.pointer (some ⟨8,141,none⟩)])) w:=by kernel_rfl
theorem Tryz.implementsLFault (w:World):(ReflectliteType.relation "Implements" ReflectliteType.implements_ #[.agg #[.pointer (some ⟨8,141,none⟩)],.iface 359 (.agg #[.pointer (some ⟨8,69,none⟩)])]).run Tryz.prog w=.ok (.bool true) w:=by kernel_rfl
theorem Tryz.elemOfPFault (w:World):(Rtype.elem? 216).run Tryz.prog w=.ok (some 141) w:=by kernel_rfl
theorem Tryz.mkLFault (p:Addr)(w:World):(ReflectliteValue.mk 141 p ReflectliteValue.flagAddr).run Tryz.prog w=.ok (.agg #[.pointer (some ⟨8,141,none⟩),.pointer (some p),.int .u64 409]) w:=by kernel_rfl
theorem Tryz.elemVPFault (a p:Addr)(W:World)(ha:W.cell? a=some (.pointer (some p))) :
  (ReflectliteValue.method (ReflectliteValue.valueError "reflectlite.Value.Elem" 0) ReflectliteValue.elem #[.agg #[.pointer (some ⟨8,216,none⟩),.pointer (some a),.int .u64 150]]).run Tryz.prog W
   = .ok (.agg #[.pointer (some ⟨8,141,none⟩),.pointer (some p),.int .u64 409]) W:=by
 rw[rlm]
 simp only[Sem.run_bind,Tryz.partsPFault,Result.andThen]
 simp[ReflectliteValue.elem,loadVar,isAgg,underlying,Tryz.underlying216,ha,Result.andThen,Tryz.elemOfPFault,Tryz.mkLFault]
theorem Tryz.valueOfLFault (s:ByteArray)(w:World):(ReflectliteValue.unpack (.iface 141 (.agg #[.string s]))).run Tryz.prog w
  = .ok (.agg #[.pointer (some ⟨8,141,none⟩),.pointer (some ⟨w.heap.size,0,none⟩),.int .u64 153]) (w.alloc (.cells #[.string s] 141)):=by kernel_rfl
theorem Tryz.partsLaFault (a:Addr)(w:World):(ReflectliteValue.parts (.agg #[.pointer (some ⟨8,141,none⟩),.pointer (some a),.int .u64 409])).run Tryz.prog w=.ok (some (141,a,409)) w:=by kernel_rfl
theorem Tryz.partsLFault (a:Addr)(w:World):(ReflectliteValue.parts (.agg #[.pointer (some ⟨8,141,none⟩),.pointer (some a),.int .u64 153])).run Tryz.prog w=.ok (some (141,a,153)) w:=by kernel_rfl
theorem Tryz.directLFault (w:World):(Rtype.directlyAssignable 141 141).run Tryz.prog w=.ok true w:=by kernel_rfl
theorem Tryz.valueOfPOther (t:Addr)(w:World):(ReflectliteValue.unpack (.iface 217 (.pointer (some t)))).run Tryz.prog w
  = .ok (.agg #[.pointer (some ⟨8,217,none⟩),.pointer (some ⟨w.heap.size,0,none⟩),.int .u64 150]) (w.alloc (.cells #[.pointer (some t)] 217)):=by kernel_rfl
theorem Tryz.typePOther (a:Addr)(w:World):(ReflectliteValue.methodAny (ReflectliteValue.valueError "reflectlite.Value.Type" 0) (fun t _ _ _=>ReflectliteType.toType t) #[.agg #[.pointer (some ⟨8,217,none⟩),.pointer (some a),.int .u64 150]]).run Tryz.prog w
  = .ok (.iface 359 (.agg #[.pointer (some ⟨8,217,none⟩)])) w:=by kernel_rfl
theorem Tryz.kindPOther (w:World):((ReflectliteType.abiMethod fun t=>Functor.map (fun a:Nat=>Value.int IntKind.u8 (a:Int)) (Rtype.kind t)) #[.pointer (some ⟨8,217,none⟩)]).run Tryz.prog w=.ok (.int .u8 22) w:=by kernel_rfl
theorem Tryz.kindLOther (w:World):((ReflectliteType.abiMethod fun t=>Functor.map (fun a:Nat=>Value.int IntKind.u8 (a:Int)) (Rtype.kind t)) #[.pointer (some ⟨8,144,none⟩)]).run Tryz.prog w=.ok (.int .u8 25) w:=by kernel_rfl
theorem Tryz.partsPOther (a:Addr)(w:World):(ReflectliteValue.parts (.agg #[.pointer (some ⟨8,217,none⟩),.pointer (some a),.int .u64 150])).run Tryz.prog w=.ok (some (217,a,150)) w:=by kernel_rfl
theorem Tryz.isNilPOther (a p:Addr)(W:World)(ha:W.cell? a=some (.pointer (some p))) :
  (ReflectliteValue.method (ReflectliteValue.valueError "reflectlite.Value.IsNil" 0) ReflectliteValue.isNil #[.agg #[.pointer (some ⟨8,217,none⟩),.pointer (some a),.int .u64 150]]).run Tryz.prog W=.ok (.bool false) W:=by
 rw[rlm]
 simp only[Sem.run_bind,Tryz.partsPOther,Result.andThen]
 simp[ReflectliteValue.isNil,loadVar,isAgg,underlying,Tryz.underlying217,ha,Result.andThen]
theorem Tryz.elemTPOther (w:World):(ReflectliteType.method ReflectliteType.elem #[.agg #[.pointer (some ⟨8,217,none⟩)]]).run Tryz.prog w=.ok (.iface 359 (.agg #[.pointer (some ⟨8,144,none⟩)])) w:=by kernel_rfl
theorem Tryz.implementsLOther (w:World):(ReflectliteType.relation "Implements" ReflectliteType.implements_ #[.agg #[.pointer (some ⟨8,144,none⟩)],.iface 359 (.agg #[.pointer (some ⟨8,69,none⟩)])]).run Tryz.prog w=.ok (.bool true) w:=by kernel_rfl
theorem Tryz.elemOfPOther (w:World):(Rtype.elem? 217).run Tryz.prog w=.ok (some 144) w:=by kernel_rfl
theorem Tryz.mkLOther (p:Addr)(w:World):(ReflectliteValue.mk 144 p ReflectliteValue.flagAddr).run Tryz.prog w=.ok (.agg #[.pointer (some ⟨8,144,none⟩),.pointer (some p),.int .u64 409]) w:=by kernel_rfl
theorem Tryz.elemVPOther (a p:Addr)(W:World)(ha:W.cell? a=some (.pointer (some p))) :
  (ReflectliteValue.method (ReflectliteValue.valueError "reflectlite.Value.Elem" 0) ReflectliteValue.elem #[.agg #[.pointer (some ⟨8,217,none⟩),.pointer (some a),.int .u64 150]]).run Tryz.prog W
   = .ok (.agg #[.pointer (some ⟨8,144,none⟩),.pointer (some p),.int .u64 409]) W:=by
 rw[rlm]
 simp only[Sem.run_bind,Tryz.partsPOther,Result.andThen]
 simp[ReflectliteValue.elem,loadVar,isAgg,underlying,Tryz.underlying217,ha,Result.andThen,Tryz.elemOfPOther,Tryz.mkLOther]
theorem Tryz.valueOfLOther (n m:Int)(w:World):(ReflectliteValue.unpack (.iface 144 (.agg #[.int .u32 n,.int .u32 m]))).run Tryz.prog w
  = .ok (.agg #[.pointer (some ⟨8,144,none⟩),.pointer (some ⟨w.heap.size,0,none⟩),.int .u64 153]) (w.alloc (.cells #[.int .u32 n,.int .u32 m] 144)):=by kernel_rfl
theorem Tryz.partsLaOther (a:Addr)(w:World):(ReflectliteValue.parts (.agg #[.pointer (some ⟨8,144,none⟩),.pointer (some a),.int .u64 409])).run Tryz.prog w=.ok (some (144,a,409)) w:=by kernel_rfl
theorem Tryz.partsLOther (a:Addr)(w:World):(ReflectliteValue.parts (.agg #[.pointer (some ⟨8,144,none⟩),.pointer (some a),.int .u64 153])).run Tryz.prog w=.ok (some (144,a,153)) w:=by kernel_rfl
theorem Tryz.directLOther (w:World):(Rtype.directlyAssignable 144 144).run Tryz.prog w=.ok true w:=by kernel_rfl
theorem Tryz.typeOfLong (v:Value)(w:World):(ReflectliteType.typeOf #[.iface 133 v]).run Tryz.prog w=.ok (.iface 359 (.agg #[.pointer (some ⟨8,133,none⟩)])) w:=by kernel_rfl
theorem Tryz.noAsLong (v:Value)(x:TypeId)(w:World):(Instr.typeAssert (.iface 133 v) x 364 true).run Tryz.prog w=.ok (.tuple #[.nilIface,.bool false]) w:=run_typeAssert_lacksB Tryz.underlying364 (by kernel_rfl) (by kernel_rfl) v x w
theorem Tryz.noUnwrapLong (v:Value)(x:TypeId)(w:World):(Instr.typeAssert (.iface 133 v) x 367 true).run Tryz.prog w=.ok (.tuple #[.nilIface,.bool false]) w:=run_typeAssert_lacksB Tryz.underlying367 (by kernel_rfl) (by kernel_rfl) v x w
theorem Tryz.noUnwrapsLong (v:Value)(x:TypeId)(w:World):(Instr.typeAssert (.iface 133 v) x 369 true).run Tryz.prog w=.ok (.tuple #[.nilIface,.bool false]) w:=run_typeAssert_lacksB Tryz.underlying369 (by kernel_rfl) (by kernel_rfl) v x w
theorem Tryz.typeOfLate (v:Value)(w:World):(ReflectliteType.typeOf #[.iface 135 v]).run Tryz.prog w=.ok (.iface 359 (.agg #[.pointer (some ⟨8,135,none⟩)])) w:=by kernel_rfl
theorem Tryz.noAsLate (v:Value)(x:TypeId)(w:World):(Instr.typeAssert (.iface 135 v) x 364 true).run Tryz.prog w=.ok (.tuple #[.nilIface,.bool false]) w:=run_typeAssert_lacksB Tryz.underlying364 (by kernel_rfl) (by kernel_rfl) v x w
theorem Tryz.noUnwrapLate (v:Value)(x:TypeId)(w:World):(Instr.typeAssert (.iface 135 v) x 367 true).run Tryz.prog w=.ok (.tuple #[.nilIface,.bool false]) w:=run_typeAssert_lacksB Tryz.underlying367 (by kernel_rfl) (by kernel_rfl) v x w
theorem Tryz.noUnwrapsLate (v:Value)(x:TypeId)(w:World):(Instr.typeAssert (.iface 135 v) x 369 true).run Tryz.prog w=.ok (.tuple #[.nilIface,.bool false]) w:=run_typeAssert_lacksB Tryz.underlying369 (by kernel_rfl) (by kernel_rfl) v x w
theorem Tryz.typeOfFull (v:Value)(w:World):(ReflectliteType.typeOf #[.iface 137 v]).run Tryz.prog w=.ok (.iface 359 (.agg #[.pointer (some ⟨8,137,none⟩)])) w:=by kernel_rfl
theorem Tryz.noAsFull (v:Value)(x:TypeId)(w:World):(Instr.typeAssert (.iface 137 v) x 364 true).run Tryz.prog w=.ok (.tuple #[.nilIface,.bool false]) w:=run_typeAssert_lacksB Tryz.underlying364 (by kernel_rfl) (by kernel_rfl) v x w
theorem Tryz.noUnwrapFull (v:Value)(x:TypeId)(w:World):(Instr.typeAssert (.iface 137 v) x 367 true).run Tryz.prog w=.ok (.tuple #[.nilIface,.bool false]) w:=run_typeAssert_lacksB Tryz.underlying367 (by kernel_rfl) (by kernel_rfl) v x w
theorem Tryz.noUnwrapsFull (v:Value)(x:TypeId)(w:World):(Instr.typeAssert (.iface 137 v) x 369 true).run Tryz.prog w=.ok (.tuple #[.nilIface,.bool false]) w:=run_typeAssert_lacksB Tryz.underlying369 (by kernel_rfl) (by kernel_rfl) v x w
theorem Tryz.typeOfBytes (v:Value)(w:World):(ReflectliteType.typeOf #[.iface 139 v]).run Tryz.prog w=.ok (.iface 359 (.agg #[.pointer (some ⟨8,139,none⟩)])) w:=by kernel_rfl
theorem Tryz.noAsBytes (v:Value)(x:TypeId)(w:World):(Instr.typeAssert (.iface 139 v) x 364 true).run Tryz.prog w=.ok (.tuple #[.nilIface,.bool false]) w:=run_typeAssert_lacksB Tryz.underlying364 (by kernel_rfl) (by kernel_rfl) v x w
theorem Tryz.noUnwrapBytes (v:Value)(x:TypeId)(w:World):(Instr.typeAssert (.iface 139 v) x 367 true).run Tryz.prog w=.ok (.tuple #[.nilIface,.bool false]) w:=run_typeAssert_lacksB Tryz.underlying367 (by kernel_rfl) (by kernel_rfl) v x w
theorem Tryz.noUnwrapsBytes (v:Value)(x:TypeId)(w:World):(Instr.typeAssert (.iface 139 v) x 369 true).run Tryz.prog w=.ok (.tuple #[.nilIface,.bool false]) w:=run_typeAssert_lacksB Tryz.underlying369 (by kernel_rfl) (by kernel_rfl) v x w
theorem Tryz.typeOfFault (v:Value)(w:World):(ReflectliteType.typeOf #[.iface 141 v]).run Tryz.prog w=.ok (.iface 359 (.agg #[.pointer (some ⟨8,141,none⟩)])) w:=by kernel_rfl
theorem Tryz.noAsFault (v:Value)(x:TypeId)(w:World):(Instr.typeAssert (.iface 141 v) x 364 true).run Tryz.prog w=.ok (.tuple #[.nilIface,.bool false]) w:=run_typeAssert_lacksB Tryz.underlying364 (by kernel_rfl) (by kernel_rfl) v x w
theorem Tryz.noUnwrapFault (v:Value)(x:TypeId)(w:World):(Instr.typeAssert (.iface 141 v) x 367 true).run Tryz.prog w=.ok (.tuple #[.nilIface,.bool false]) w:=run_typeAssert_lacksB Tryz.underlying367 (by kernel_rfl) (by kernel_rfl) v x w
theorem Tryz.noUnwrapsFault (v:Value)(x:TypeId)(w:World):(Instr.typeAssert (.iface 141 v) x 369 true).run Tryz.prog w=.ok (.tuple #[.nilIface,.bool false]) w:=run_typeAssert_lacksB Tryz.underlying369 (by kernel_rfl) (by kernel_rfl) v x w
theorem Tryz.typeOfOther (v:Value)(w:World):(ReflectliteType.typeOf #[.iface 144 v]).run Tryz.prog w=.ok (.iface 359 (.agg #[.pointer (some ⟨8,144,none⟩)])) w:=by kernel_rfl
theorem Tryz.noAsOther (v:Value)(x:TypeId)(w:World):(Instr.typeAssert (.iface 144 v) x 364 true).run Tryz.prog w=.ok (.tuple #[.nilIface,.bool false]) w:=run_typeAssert_lacksB Tryz.underlying364 (by kernel_rfl) (by kernel_rfl) v x w
theorem Tryz.noUnwrapOther (v:Value)(x:TypeId)(w:World):(Instr.typeAssert (.iface 144 v) x 367 true).run Tryz.prog w=.ok (.tuple #[.nilIface,.bool false]) w:=run_typeAssert_lacksB Tryz.underlying367 (by kernel_rfl) (by kernel_rfl) v x w
theorem Tryz.noUnwrapsOther (v:Value)(x:TypeId)(w:World):(Instr.typeAssert (.iface 144 v) x 369 true).run Tryz.prog w=.ok (.tuple #[.nilIface,.bool false]) w:=run_typeAssert_lacksB Tryz.underlying369 (by kernel_rfl) (by kernel_rfl) v x w
theorem Tryz.assignableLongLate (w:World):(ReflectliteType.relation "AssignableTo" ReflectliteType.assignableTo #[.agg #[.pointer (some ⟨8,135,none⟩)],.iface 359 (.agg #[.pointer (some ⟨8,133,none⟩)])]).run Tryz.prog w=.ok (.bool false) w:=by kernel_rfl
theorem Tryz.assignableLongFull (w:World):(ReflectliteType.relation "AssignableTo" ReflectliteType.assignableTo #[.agg #[.pointer (some ⟨8,137,none⟩)],.iface 359 (.agg #[.pointer (some ⟨8,133,none⟩)])]).run Tryz.prog w=.ok (.bool false) w:=by kernel_rfl
theorem Tryz.assignableLateFull (w:World):(ReflectliteType.relation "AssignableTo" ReflectliteType.assignableTo #[.agg #[.pointer (some ⟨8,137,none⟩)],.iface 359 (.agg #[.pointer (some ⟨8,135,none⟩)])]).run Tryz.prog w=.ok (.bool false) w:=by kernel_rfl
theorem Tryz.assignableLongBytes (w:World):(ReflectliteType.relation "AssignableTo" ReflectliteType.assignableTo #[.agg #[.pointer (some ⟨8,139,none⟩)],.iface 359 (.agg #[.pointer (some ⟨8,133,none⟩)])]).run Tryz.prog w=.ok (.bool false) w:=by kernel_rfl
theorem Tryz.assignableLateBytes (w:World):(ReflectliteType.relation "AssignableTo" ReflectliteType.assignableTo #[.agg #[.pointer (some ⟨8,139,none⟩)],.iface 359 (.agg #[.pointer (some ⟨8,135,none⟩)])]).run Tryz.prog w=.ok (.bool false) w:=by kernel_rfl
theorem Tryz.assignableFullBytes (w:World):(ReflectliteType.relation "AssignableTo" ReflectliteType.assignableTo #[.agg #[.pointer (some ⟨8,139,none⟩)],.iface 359 (.agg #[.pointer (some ⟨8,137,none⟩)])]).run Tryz.prog w=.ok (.bool false) w:=by kernel_rfl
theorem Tryz.assignableLongFault (w:World):(ReflectliteType.relation "AssignableTo" ReflectliteType.assignableTo #[.agg #[.pointer (some ⟨8,141,none⟩)],.iface 359 (.agg #[.pointer (some ⟨8,133,none⟩)])]).run Tryz.prog w=.ok (.bool false) w:=by kernel_rfl
theorem Tryz.assignableLateFault (w:World):(ReflectliteType.relation "AssignableTo" ReflectliteType.assignableTo #[.agg #[.pointer (some ⟨8,141,none⟩)],.iface 359 (.agg #[.pointer (some ⟨8,135,none⟩)])]).run Tryz.prog w=.ok (.bool false) w:=by kernel_rfl
theorem Tryz.assignableFullFault (w:World):(ReflectliteType.relation "AssignableTo" ReflectliteType.assignableTo #[.agg #[.pointer (some ⟨8,141,none⟩)],.iface 359 (.agg #[.pointer (some ⟨8,137,none⟩)])]).run Tryz.prog w=.ok (.bool false) w:=by kernel_rfl
theorem Tryz.assignableBytesFault (w:World):(ReflectliteType.relation "AssignableTo" ReflectliteType.assignableTo #[.agg #[.pointer (some ⟨8,141,none⟩)],.iface 359 (.agg #[.pointer (some ⟨8,139,none⟩)])]).run Tryz.prog w=.ok (.bool false) w:=by kernel_rfl
theorem Tryz.assignableLongOther (w:World):(ReflectliteType.relation "AssignableTo" ReflectliteType.assignableTo #[.agg #[.pointer (some ⟨8,144,none⟩)],.iface 359 (.agg #[.pointer (some ⟨8,133,none⟩)])]).run Tryz.prog w=.ok (.bool false) w:=by kernel_rfl
theorem Tryz.assignableLateOther (w:World):(ReflectliteType.relation "AssignableTo" ReflectliteType.assignableTo #[.agg #[.pointer (some ⟨8,144,none⟩)],.iface 359 (.agg #[.pointer (some ⟨8,135,none⟩)])]).run Tryz.prog w=.ok (.bool false) w:=by kernel_rfl
theorem Tryz.assignableFullOther (w:World):(ReflectliteType.relation "AssignableTo" ReflectliteType.assignableTo #[.agg #[.pointer (some ⟨8,144,none⟩)],.iface 359 (.agg #[.pointer (some ⟨8,137,none⟩)])]).run Tryz.prog w=.ok (.bool false) w:=by kernel_rfl
theorem Tryz.assignableBytesOther (w:World):(ReflectliteType.relation "AssignableTo" ReflectliteType.assignableTo #[.agg #[.pointer (some ⟨8,144,none⟩)],.iface 359 (.agg #[.pointer (some ⟨8,139,none⟩)])]).run Tryz.prog w=.ok (.bool false) w:=by kernel_rfl
theorem Tryz.assignableFaultOther (w:World):(ReflectliteType.relation "AssignableTo" ReflectliteType.assignableTo #[.agg #[.pointer (some ⟨8,144,none⟩)],.iface 359 (.agg #[.pointer (some ⟨8,141,none⟩)])]).run Tryz.prog w=.ok (.bool false) w:=by kernel_rfl
theorem Tryz.assignableLongLong (w:World):(ReflectliteType.relation "AssignableTo" ReflectliteType.assignableTo #[.agg #[.pointer (some ⟨8,133,none⟩)],.iface 359 (.agg #[.pointer (some ⟨8,133,none⟩)])]).run Tryz.prog w=.ok (.bool true) w:=by kernel_rfl
theorem Tryz.assignableLateLate (w:World):(ReflectliteType.relation "AssignableTo" ReflectliteType.assignableTo #[.agg #[.pointer (some ⟨8,135,none⟩)],.iface 359 (.agg #[.pointer (some ⟨8,135,none⟩)])]).run Tryz.prog w=.ok (.bool true) w:=by kernel_rfl
theorem Tryz.assignableFullFull (w:World):(ReflectliteType.relation "AssignableTo" ReflectliteType.assignableTo #[.agg #[.pointer (some ⟨8,137,none⟩)],.iface 359 (.agg #[.pointer (some ⟨8,137,none⟩)])]).run Tryz.prog w=.ok (.bool true) w:=by kernel_rfl
theorem Tryz.assignableBytesBytes (w:World):(ReflectliteType.relation "AssignableTo" ReflectliteType.assignableTo #[.agg #[.pointer (some ⟨8,139,none⟩)],.iface 359 (.agg #[.pointer (some ⟨8,139,none⟩)])]).run Tryz.prog w=.ok (.bool true) w:=by kernel_rfl
theorem Tryz.assignableFaultFault (w:World):(ReflectliteType.relation "AssignableTo" ReflectliteType.assignableTo #[.agg #[.pointer (some ⟨8,141,none⟩)],.iface 359 (.agg #[.pointer (some ⟨8,141,none⟩)])]).run Tryz.prog w=.ok (.bool true) w:=by kernel_rfl
theorem Tryz.assignableOtherOther (w:World):(ReflectliteType.relation "AssignableTo" ReflectliteType.assignableTo #[.agg #[.pointer (some ⟨8,144,none⟩)],.iface 359 (.agg #[.pointer (some ⟨8,144,none⟩)])]).run Tryz.prog w=.ok (.bool true) w:=by kernel_rfl
def ErrType (w:World):Prop:=w.cell? ⟨4,0,none⟩=some (.iface 359 (.agg #[.pointer (some ⟨8,69,none⟩)]))
theorem ErrType.below {w w':World}(h:ErrType w)(hb:Below w.heap.size w w'):ErrType w':=by
 have hlt:4 < w.heap.size:=World.block_lt_of_cell? w ⟨4,0,none⟩ h
 unfold ErrType
 rw[World.cell?_of_block (a:=⟨4,0,none⟩) (hb.block _ hlt)]
 exact h
theorem ErrType.alloc {w:World}(h:ErrType w)(o:Obj):ErrType (w.alloc o):=h.below ((Below.refl _ w).alloc (Nat.le_refl _) o)
end Go.Proofs.YtfldcmdhneegmaaGreatDoor

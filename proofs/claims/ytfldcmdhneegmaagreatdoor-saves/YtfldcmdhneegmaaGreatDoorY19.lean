import Derived.Test.YtfldcmdhneegmaaGreatDoorY17
import Derived.Test.YtfldcmdhneegmaaGreatDoorY18
set_option maxHeartbeats 4000000
set_option maxRecDepth 1000000
namespace Go.Proofs.YtfldcmdhneegmaaGreatDoor
open Go.RowKit Go.Extern.Stop Go.Stop Go.Extern
theorem Tryz.typeOfSyntax (v:Value)(w:World):(ReflectliteType.typeOf #[.iface 238 v]).run Tryz.prog w=.ok (.iface 359 (.agg #[.pointer (some ⟨8,238,none⟩)])) w:=by kernel_rfl
theorem Tryz.noAsSyntax (v:Value)(x:TypeId)(w:World):(Instr.typeAssert (.iface 238 v) x 364 true).run Tryz.prog w=.ok (.tuple #[.nilIface,.bool false]) w:=run_typeAssert_lacksB Tryz.underlying364 (by kernel_rfl) (by kernel_rfl) v x w
theorem Tryz.noUnwrapSyntax (v:Value)(x:TypeId)(w:World):(Instr.typeAssert (.iface 238 v) x 367 true).run Tryz.prog w=.ok (.tuple #[.nilIface,.bool false]) w:=run_typeAssert_lacksB Tryz.underlying367 (by kernel_rfl) (by kernel_rfl) v x w
theorem Tryz.noUnwrapsSyntax (v:Value)(x:TypeId)(w:World):(Instr.typeAssert (.iface 238 v) x 369 true).run Tryz.prog w=.ok (.tuple #[.nilIface,.bool false]) w:=run_typeAssert_lacksB Tryz.underlying369 (by kernel_rfl) (by kernel_rfl) v x w
theorem Tryz.assignableLongSyntax (w:World):(ReflectliteType.relation "AssignableTo" ReflectliteType.assignableTo #[.agg #[.pointer (some ⟨8,238,none⟩)],.iface 359 (.agg #[.pointer (some ⟨8,133,none⟩)])]).run Tryz.prog w=.ok (.bool false) w:=by kernel_rfl
theorem Tryz.assignableLateSyntax (w:World):(ReflectliteType.relation "AssignableTo" ReflectliteType.assignableTo #[.agg #[.pointer (some ⟨8,238,none⟩)],.iface 359 (.agg #[.pointer (some ⟨8,135,none⟩)])]).run Tryz.prog w=.ok (.bool false) w:=by kernel_rfl
theorem Tryz.assignableFullSyntax (w:World):(ReflectliteType.relation "AssignableTo" ReflectliteType.assignableTo #[.agg #[.pointer (some ⟨8,238,none⟩)],.iface 359 (.agg #[.pointer (some ⟨8,137,none⟩)])]).run Tryz.prog w=.ok (.bool false) w:=by kernel_rfl
theorem Tryz.assignableBytesSyntax (w:World):(ReflectliteType.relation "AssignableTo" ReflectliteType.assignableTo #[.agg #[.pointer (some ⟨8,238,none⟩)],.iface 359 (.agg #[.pointer (some ⟨8,139,none⟩)])]).run Tryz.prog w=.ok (.bool false) w:=by kernel_rfl
theorem Tryz.assignableFaultSyntax (w:World):(ReflectliteType.relation "AssignableTo" ReflectliteType.assignableTo #[.agg #[.pointer (some ⟨8,238,none⟩)],.iface 359 (.agg #[.pointer (some ⟨8,141,none⟩)])]).run Tryz.prog w=.ok (.bool false) w:=by kernel_rfl
theorem Tryz.assignableOtherSyntax (w:World):(ReflectliteType.relation "AssignableTo" ReflectliteType.assignableTo #[.agg #[.pointer (some ⟨8,238,none⟩)],.iface 359 (.agg #[.pointer (some ⟨8,144,none⟩)])]).run Tryz.prog w=.ok (.bool false) w:=by kernel_rfl
theorem Tryz.setLong (ta b:Addr)(n:Int)(old:Value)(W:World)(hb:W.cell? b=some (.int .i64 n))(ht:W.cell? ta=some old)(hf:W.frozen? ta=false) :
  (ReflectliteValue.set #[.agg #[.pointer (some ⟨8,133,none⟩),.pointer (some ta),.int .u64 409],.agg #[.pointer (some ⟨8,133,none⟩),.pointer (some b),.int .u64 153]]).run Tryz.prog W
   = .ok (.tuple #[]) (W.setCell ta (.int .i64 n)):=by
 have hl:(loadCells b 1).run Tryz.prog W=.ok #[.int .i64 n] W:=by simp[loadCells,loadCellsFrom,hb,Addr.add]
 refine run_two (ReflectliteValue.parts (.agg #[.pointer (some ⟨8,133,none⟩),.pointer (some ta),.int .u64 409])) (ReflectliteValue.parts (.agg #[.pointer (some ⟨8,133,none⟩),.pointer (some b),.int .u64 153])) rfl ?_
 simp only[Sem.run_bind,Tryz.partsLaLong,Tryz.partsLLong,Result.andThen]
 simp[ReflectliteValue.flagAddr,loadVar,isAgg,underlying,Tryz.underlying133,hl,Result.andThen,Tryz.directLLong,storeVar,Value.cells,storeCells,Addr.add]
 rw[run_store Tryz.prog W ta _ _ (by rfl)]
 simp[ht,hf]
theorem as_hitLong (n:Int)(t:Addr)(old:Value)(w:World)(hg:w.cell? ⟨4,0,none⟩=some (.iface 359 (.agg #[.pointer (some ⟨8,69,none⟩)])))(ht0:w.cell? t=some old)(hf0:w.frozen? t=false) :
  Calls Tryz.prog 119 #[.iface 133 (.agg #[.int .i64 n]),.iface 212 (.pointer (some t))] w fun ev w'=>ev=.returned (.bool true)∧w'=((((w.alloc (.cells #[.pointer (some t)] 212)).alloc (.cells #[.pointer (some ⟨8,212,none⟩),.pointer (some ⟨w.heap.size,0,none⟩),.int .u64 150] 306)).alloc (.cells #[.pointer (some ⟨8,212,none⟩),.pointer (some ⟨w.heap.size,0,none⟩),.int .u64 150] 306)).alloc (.cells #[.int .i64 n] 133)).setCell t (.int .i64 n):=by
 have x28:=@run_callFunc_extern Tryz.prog 190 _ (fun args=>ReflectliteValue.unpack (args.getD 0 (.tuple #[]))) Tryz.func190 (by kernel_rfl) (by kernel_rfl) (by kernel_rfl) (by kernel_rfl)
 have x29:=@run_callFunc_extern Tryz.prog 191 _ (ReflectliteValue.methodAny (ReflectliteValue.valueError "reflectlite.Value.Type" 0) (fun t _ _ _=>ReflectliteType.toType t)) Tryz.func191 (by kernel_rfl) (by kernel_rfl) (by kernel_rfl) (by kernel_rfl)
 have x30:=@run_callFunc_extern Tryz.prog 192 _ (ReflectliteValue.method (ReflectliteValue.valueError "reflectlite.Value.IsNil" 0) ReflectliteValue.isNil) Tryz.func192 (by kernel_rfl) (by kernel_rfl) (by kernel_rfl) (by kernel_rfl)
 have x70:=@run_callFunc_extern Tryz.prog 311 _ (ReflectliteType.abiMethod fun t=>do pure (.int .u8 (← Rtype.kind t))) Tryz.func311 (by kernel_rfl) (by kernel_rfl) (by kernel_rfl) (by kernel_rfl)
 have x83:=@run_callFunc_extern Tryz.prog 337 _ (ReflectliteType.method ReflectliteType.elem) Tryz.func337 (by kernel_rfl) (by kernel_rfl) (by kernel_rfl) (by kernel_rfl)
 have x84:=@run_callFunc_extern Tryz.prog 338 _ (ReflectliteType.relation "Implements" ReflectliteType.implements_) Tryz.func338 (by kernel_rfl) (by kernel_rfl) (by kernel_rfl) (by kernel_rfl)
 have x40:=@run_callFunc_extern Tryz.prog 235 _ ReflectliteType.typeOf Tryz.func235 (by kernel_rfl) (by kernel_rfl) (by kernel_rfl) (by kernel_rfl)
 have x81:=@run_callFunc_extern Tryz.prog 335 _ (ReflectliteType.relation "AssignableTo" ReflectliteType.assignableTo) Tryz.func335 (by kernel_rfl) (by kernel_rfl) (by kernel_rfl) (by kernel_rfl)
 have x41:=@run_callFunc_extern Tryz.prog 236 _ (ReflectliteValue.method (ReflectliteValue.valueError "reflectlite.Value.Elem" 0) ReflectliteValue.elem) Tryz.func236 (by kernel_rfl) (by kernel_rfl) (by kernel_rfl) (by kernel_rfl)
 have x42:=@run_callFunc_extern Tryz.prog 237 _ ReflectliteValue.set Tryz.func237 (by kernel_rfl) (by kernel_rfl) (by kernel_rfl) (by kernel_rfl)
 have f28:=Tryz.valueOfPLong
 have f29:=Tryz.typePLong
 have mK:=Tryz.methodKind
 have mE:=Tryz.methodElem
 have mI:=Tryz.methodImplements
 have mA:=Tryz.methodAssignableTo
 have kP:=Tryz.kindPLong
 have kL:=Tryz.kindLLong
 have eP:=Tryz.elemTPLong
 have iL:=Tryz.implementsLLong
 have hlt:4 < w.heap.size:=World.block_lt_of_cell? w ⟨4,0,none⟩ hg
 have n30:=Tryz.isNilPLong ⟨w.heap.size,0,none⟩ t ((w.alloc (.cells #[.pointer (some t)] 212)).alloc (.cells #[.pointer (some ⟨8,212,none⟩),.pointer (some ⟨w.heap.size,0,none⟩),.int .u64 150] 306)) (by simp)
 have hg2:((w.alloc (.cells #[.pointer (some t)] 212)).alloc (.cells #[.pointer (some ⟨8,212,none⟩),.pointer (some ⟨w.heap.size,0,none⟩),.int .u64 150] 306)).cell? ⟨4,0,none⟩=some (.iface 359 (.agg #[.pointer (some ⟨8,69,none⟩)])):=by
  rw[World.cell?_alloc_lt _ _ ⟨4,0,none⟩ (by simp<;>omega),World.cell?_alloc_lt _ _ ⟨4,0,none⟩ hlt];exact hg
 have tO:=Tryz.typeOfLong
 have aL:=Tryz.assignableLongLong
 have vL:=Tryz.valueOfLLong
 have htl:t.block < w.heap.size:=World.block_lt_of_cell? w t ht0
 have el:=Tryz.elemVPLong ⟨w.heap.size,0,none⟩ t (((w.alloc (.cells #[.pointer (some t)] 212)).alloc (.cells #[.pointer (some ⟨8,212,none⟩),.pointer (some ⟨w.heap.size,0,none⟩),.int .u64 150] 306)).alloc (.cells #[.pointer (some ⟨8,212,none⟩),.pointer (some ⟨w.heap.size,0,none⟩),.int .u64 150] 306)) (by rw[World.cell?_alloc_lt _ _ ⟨w.heap.size,0,none⟩ (by simp<;>omega)];simp)
 have st:=Tryz.setLong t ⟨w.heap.size+1+1+1,0,none⟩ n old ((((w.alloc (.cells #[.pointer (some t)] 212)).alloc (.cells #[.pointer (some ⟨8,212,none⟩),.pointer (some ⟨w.heap.size,0,none⟩),.int .u64 150] 306)).alloc (.cells #[.pointer (some ⟨8,212,none⟩),.pointer (some ⟨w.heap.size,0,none⟩),.int .u64 150] 306)).alloc (.cells #[.int .i64 n] 133))
  (by rw[World.cell?_alloc_at _ _ _ _ (by simp)];rfl)
  (by rw[World.cell?_alloc_lt _ _ t (by simp<;>omega),World.cell?_alloc_lt _ _ t (by simp<;>omega),World.cell?_alloc_lt _ _ t (by simp<;>omega),World.cell?_alloc_lt _ _ t htl];exact ht0)
  (by rw[World.frozen?_alloc_old _ _ t (by simp<;>omega),World.frozen?_alloc_old _ _ t (by simp<;>omega),World.frozen?_alloc_old _ _ t (by simp<;>omega),World.frozen?_alloc_old _ _ t (Nat.ne_of_lt htl)];exact hf0)
 go_enter Tryz.func119,Tryz.ntmps119
 go_wp2
 refine wp_loop_rounds 1 ?_
 rw[rounds_succ]
 go_wp2
 go_ret
 exact⟨rfl,rfl⟩
theorem as_missLongSyntax (v:Value)(t:Addr)(w:World)(hg:w.cell? ⟨4,0,none⟩=some (.iface 359 (.agg #[.pointer (some ⟨8,69,none⟩)]))) :
  Calls Tryz.prog 119 #[.iface 238 v,.iface 212 (.pointer (some t))] w fun ev w'=>ev=.returned (.bool false)∧w'=((w.alloc (.cells #[.pointer (some t)] 212)).alloc (.cells #[.pointer (some ⟨8,212,none⟩),.pointer (some ⟨w.heap.size,0,none⟩),.int .u64 150] 306)).alloc (.cells #[.pointer (some ⟨8,212,none⟩),.pointer (some ⟨w.heap.size,0,none⟩),.int .u64 150] 306):=by
 have x28:=@run_callFunc_extern Tryz.prog 190 _ (fun args=>ReflectliteValue.unpack (args.getD 0 (.tuple #[]))) Tryz.func190 (by kernel_rfl) (by kernel_rfl) (by kernel_rfl) (by kernel_rfl)
 have x29:=@run_callFunc_extern Tryz.prog 191 _ (ReflectliteValue.methodAny (ReflectliteValue.valueError "reflectlite.Value.Type" 0) (fun t _ _ _=>ReflectliteType.toType t)) Tryz.func191 (by kernel_rfl) (by kernel_rfl) (by kernel_rfl) (by kernel_rfl)
 have x30:=@run_callFunc_extern Tryz.prog 192 _ (ReflectliteValue.method (ReflectliteValue.valueError "reflectlite.Value.IsNil" 0) ReflectliteValue.isNil) Tryz.func192 (by kernel_rfl) (by kernel_rfl) (by kernel_rfl) (by kernel_rfl)
 have x70:=@run_callFunc_extern Tryz.prog 311 _ (ReflectliteType.abiMethod fun t=>do pure (.int .u8 (← Rtype.kind t))) Tryz.func311 (by kernel_rfl) (by kernel_rfl) (by kernel_rfl) (by kernel_rfl)
 have x83:=@run_callFunc_extern Tryz.prog 337 _ (ReflectliteType.method ReflectliteType.elem) Tryz.func337 (by kernel_rfl) (by kernel_rfl) (by kernel_rfl) (by kernel_rfl)
 have x84:=@run_callFunc_extern Tryz.prog 338 _ (ReflectliteType.relation "Implements" ReflectliteType.implements_) Tryz.func338 (by kernel_rfl) (by kernel_rfl) (by kernel_rfl) (by kernel_rfl)
 have x40:=@run_callFunc_extern Tryz.prog 235 _ ReflectliteType.typeOf Tryz.func235 (by kernel_rfl) (by kernel_rfl) (by kernel_rfl) (by kernel_rfl)
 have x81:=@run_callFunc_extern Tryz.prog 335 _ (ReflectliteType.relation "AssignableTo" ReflectliteType.assignableTo) Tryz.func335 (by kernel_rfl) (by kernel_rfl) (by kernel_rfl) (by kernel_rfl)
 have x41:=@run_callFunc_extern Tryz.prog 236 _ (ReflectliteValue.method (ReflectliteValue.valueError "reflectlite.Value.Elem" 0) ReflectliteValue.elem) Tryz.func236 (by kernel_rfl) (by kernel_rfl) (by kernel_rfl) (by kernel_rfl)
 have x42:=@run_callFunc_extern Tryz.prog 237 _ ReflectliteValue.set Tryz.func237 (by kernel_rfl) (by kernel_rfl) (by kernel_rfl) (by kernel_rfl)
 have f28:=Tryz.valueOfPLong
 have f29:=Tryz.typePLong
 have mK:=Tryz.methodKind
 have mE:=Tryz.methodElem
 have mI:=Tryz.methodImplements
 have mA:=Tryz.methodAssignableTo
 have kP:=Tryz.kindPLong
 have kL:=Tryz.kindLLong
 have eP:=Tryz.elemTPLong
 have iL:=Tryz.implementsLLong
 have hlt:4 < w.heap.size:=World.block_lt_of_cell? w ⟨4,0,none⟩ hg
 have n30:=Tryz.isNilPLong ⟨w.heap.size,0,none⟩ t ((w.alloc (.cells #[.pointer (some t)] 212)).alloc (.cells #[.pointer (some ⟨8,212,none⟩),.pointer (some ⟨w.heap.size,0,none⟩),.int .u64 150] 306)) (by simp)
 have hg2:((w.alloc (.cells #[.pointer (some t)] 212)).alloc (.cells #[.pointer (some ⟨8,212,none⟩),.pointer (some ⟨w.heap.size,0,none⟩),.int .u64 150] 306)).cell? ⟨4,0,none⟩=some (.iface 359 (.agg #[.pointer (some ⟨8,69,none⟩)])):=by
  rw[World.cell?_alloc_lt _ _ ⟨4,0,none⟩ (by simp<;>omega),World.cell?_alloc_lt _ _ ⟨4,0,none⟩ hlt];exact hg
 have tO:=Tryz.typeOfSyntax
 have aL:=Tryz.assignableLongSyntax
 have a1:=Tryz.noAsSyntax
 have a2:=Tryz.noUnwrapSyntax
 have a3:=Tryz.noUnwrapsSyntax
 go_enter Tryz.func119,Tryz.ntmps119
 go_wp2
 refine wp_loop_rounds 1 ?_
 rw[rounds_succ]
 go_wp2
 go_ret
 exact⟨rfl,rfl⟩
theorem as_missLateSyntax (v:Value)(t:Addr)(w:World)(hg:w.cell? ⟨4,0,none⟩=some (.iface 359 (.agg #[.pointer (some ⟨8,69,none⟩)]))) :
  Calls Tryz.prog 119 #[.iface 238 v,.iface 213 (.pointer (some t))] w fun ev w'=>ev=.returned (.bool false)∧w'=((w.alloc (.cells #[.pointer (some t)] 213)).alloc (.cells #[.pointer (some ⟨8,213,none⟩),.pointer (some ⟨w.heap.size,0,none⟩),.int .u64 150] 306)).alloc (.cells #[.pointer (some ⟨8,213,none⟩),.pointer (some ⟨w.heap.size,0,none⟩),.int .u64 150] 306):=by
 have x28:=@run_callFunc_extern Tryz.prog 190 _ (fun args=>ReflectliteValue.unpack (args.getD 0 (.tuple #[]))) Tryz.func190 (by kernel_rfl) (by kernel_rfl) (by kernel_rfl) (by kernel_rfl)
 have x29:=@run_callFunc_extern Tryz.prog 191 _ (ReflectliteValue.methodAny (ReflectliteValue.valueError "reflectlite.Value.Type" 0) (fun t _ _ _=>ReflectliteType.toType t)) Tryz.func191 (by kernel_rfl) (by kernel_rfl) (by kernel_rfl) (by kernel_rfl)
 have x30:=@run_callFunc_extern Tryz.prog 192 _ (ReflectliteValue.method (ReflectliteValue.valueError "reflectlite.Value.IsNil" 0) ReflectliteValue.isNil) Tryz.func192 (by kernel_rfl) (by kernel_rfl) (by kernel_rfl) (by kernel_rfl)
 have x70:=@run_callFunc_extern Tryz.prog 311 _ (ReflectliteType.abiMethod fun t=>do pure (.int .u8 (← Rtype.kind t))) Tryz.func311 (by kernel_rfl) (by kernel_rfl) (by kernel_rfl) (by kernel_rfl)
 have x83:=@run_callFunc_extern Tryz.prog 337 _ (ReflectliteType.method ReflectliteType.elem) Tryz.func337 (by kernel_rfl) (by kernel_rfl) (by kernel_rfl) (by kernel_rfl)
 have x84:=@run_callFunc_extern Tryz.prog 338 _ (ReflectliteType.relation "Implements" ReflectliteType.implements_) Tryz.func338 (by kernel_rfl) (by kernel_rfl) (by kernel_rfl) (by kernel_rfl)
 have x40:=@run_callFunc_extern Tryz.prog 235 _ ReflectliteType.typeOf Tryz.func235 (by kernel_rfl) (by kernel_rfl) (by kernel_rfl) (by kernel_rfl)
 have x81:=@run_callFunc_extern Tryz.prog 335 _ (ReflectliteType.relation "AssignableTo" ReflectliteType.assignableTo) Tryz.func335 (by kernel_rfl) (by kernel_rfl) (by kernel_rfl) (by kernel_rfl)
 have x41:=@run_callFunc_extern Tryz.prog 236 _ (ReflectliteValue.method (ReflectliteValue.valueError "reflectlite.Value.Elem" 0) ReflectliteValue.elem) Tryz.func236 (by kernel_rfl) (by kernel_rfl) (by kernel_rfl) (by kernel_rfl)
 have x42:=@run_callFunc_extern Tryz.prog 237 _ ReflectliteValue.set Tryz.func237 (by kernel_rfl) (by kernel_rfl) (by kernel_rfl) (by kernel_rfl)
 have f28:=Tryz.valueOfPLate
 have f29:=Tryz.typePLate
 have mK:=Tryz.methodKind
 have mE:=Tryz.methodElem
 have mI:=Tryz.methodImplements
 have mA:=Tryz.methodAssignableTo
 have kP:=Tryz.kindPLate
 have kL:=Tryz.kindLLate
 have eP:=Tryz.elemTPLate
 have iL:=Tryz.implementsLLate
 have hlt:4 < w.heap.size:=World.block_lt_of_cell? w ⟨4,0,none⟩ hg
 have n30:=Tryz.isNilPLate ⟨w.heap.size,0,none⟩ t ((w.alloc (.cells #[.pointer (some t)] 213)).alloc (.cells #[.pointer (some ⟨8,213,none⟩),.pointer (some ⟨w.heap.size,0,none⟩),.int .u64 150] 306)) (by simp)
 have hg2:((w.alloc (.cells #[.pointer (some t)] 213)).alloc (.cells #[.pointer (some ⟨8,213,none⟩),.pointer (some ⟨w.heap.size,0,none⟩),.int .u64 150] 306)).cell? ⟨4,0,none⟩=some (.iface 359 (.agg #[.pointer (some ⟨8,69,none⟩)])):=by
  rw[World.cell?_alloc_lt _ _ ⟨4,0,none⟩ (by simp<;>omega),World.cell?_alloc_lt _ _ ⟨4,0,none⟩ hlt];exact hg
 have tO:=Tryz.typeOfSyntax
 have aL:=Tryz.assignableLateSyntax
 have a1:=Tryz.noAsSyntax
 have a2:=Tryz.noUnwrapSyntax
 have a3:=Tryz.noUnwrapsSyntax
 go_enter Tryz.func119,Tryz.ntmps119
 go_wp2
 refine wp_loop_rounds 1 ?_
 rw[rounds_succ]
 go_wp2
 go_ret
 exact⟨rfl,rfl⟩
theorem as_missFullSyntax (v:Value)(t:Addr)(w:World)(hg:w.cell? ⟨4,0,none⟩=some (.iface 359 (.agg #[.pointer (some ⟨8,69,none⟩)]))) :
  Calls Tryz.prog 119 #[.iface 238 v,.iface 214 (.pointer (some t))] w fun ev w'=>ev=.returned (.bool false)∧w'=((w.alloc (.cells #[.pointer (some t)] 214)).alloc (.cells #[.pointer (some ⟨8,214,none⟩),.pointer (some ⟨w.heap.size,0,none⟩),.int .u64 150] 306)).alloc (.cells #[.pointer (some ⟨8,214,none⟩),.pointer (some ⟨w.heap.size,0,none⟩),.int .u64 150] 306):=by
 have x28:=@run_callFunc_extern Tryz.prog 190 _ (fun args=>ReflectliteValue.unpack (args.getD 0 (.tuple #[]))) Tryz.func190 (by kernel_rfl) (by kernel_rfl) (by kernel_rfl) (by kernel_rfl)
 have x29:=@run_callFunc_extern Tryz.prog 191 _ (ReflectliteValue.methodAny (ReflectliteValue.valueError "reflectlite.Value.Type" 0) (fun t _ _ _=>ReflectliteType.toType t)) Tryz.func191 (by kernel_rfl) (by kernel_rfl) (by kernel_rfl) (by kernel_rfl)
 have x30:=@run_callFunc_extern Tryz.prog 192 _ (ReflectliteValue.method (ReflectliteValue.valueError "reflectlite.Value.IsNil" 0) ReflectliteValue.isNil) Tryz.func192 (by kernel_rfl) (by kernel_rfl) (by kernel_rfl) (by kernel_rfl)
 have x70:=@run_callFunc_extern Tryz.prog 311 _ (ReflectliteType.abiMethod fun t=>do pure (.int .u8 (← Rtype.kind t))) Tryz.func311 (by kernel_rfl) (by kernel_rfl) (by kernel_rfl) (by kernel_rfl)
 have x83:=@run_callFunc_extern Tryz.prog 337 _ (ReflectliteType.method ReflectliteType.elem) Tryz.func337 (by kernel_rfl) (by kernel_rfl) (by kernel_rfl) (by kernel_rfl)
 have x84:=@run_callFunc_extern Tryz.prog 338 _ (ReflectliteType.relation "Implements" ReflectliteType.implements_) Tryz.func338 (by kernel_rfl) (by kernel_rfl) (by kernel_rfl) (by kernel_rfl)
 have x40:=@run_callFunc_extern Tryz.prog 235 _ ReflectliteType.typeOf Tryz.func235 (by kernel_rfl) (by kernel_rfl) (by kernel_rfl) (by kernel_rfl)
 have x81:=@run_callFunc_extern Tryz.prog 335 _ (ReflectliteType.relation "AssignableTo" ReflectliteType.assignableTo) Tryz.func335 (by kernel_rfl) (by kernel_rfl) (by kernel_rfl) (by kernel_rfl)
 have x41:=@run_callFunc_extern Tryz.prog 236 _ (ReflectliteValue.method (ReflectliteValue.valueError "reflectlite.Value.Elem" 0) ReflectliteValue.elem) Tryz.func236 (by kernel_rfl) (by kernel_rfl) (by kernel_rfl) (by kernel_rfl)
 have x42:=@run_callFunc_extern Tryz.prog 237 _ ReflectliteValue.set Tryz.func237 (by kernel_rfl) (by kernel_rfl) (by kernel_rfl) (by kernel_rfl)
 have f28:=Tryz.valueOfPFull
 have f29:=Tryz.typePFull
 have mK:=Tryz.methodKind
 have mE:=Tryz.methodElem
 have mI:=Tryz.methodImplements
 have mA:=Tryz.methodAssignableTo
 have kP:=Tryz.kindPFull
 have kL:=Tryz.kindLFull
 have eP:=Tryz.elemTPFull
 have iL:=Tryz.implementsLFull
 have hlt:4 < w.heap.size:=World.block_lt_of_cell? w ⟨4,0,none⟩ hg
 have n30:=Tryz.isNilPFull ⟨w.heap.size,0,none⟩ t ((w.alloc (.cells #[.pointer (some t)] 214)).alloc (.cells #[.pointer (some ⟨8,214,none⟩),.pointer (some ⟨w.heap.size,0,none⟩),.int .u64 150] 306)) (by simp)
 have hg2:((w.alloc (.cells #[.pointer (some t)] 214)).alloc (.cells #[.pointer (some ⟨8,214,none⟩),.pointer (some ⟨w.heap.size,0,none⟩),.int .u64 150] 306)).cell? ⟨4,0,none⟩=some (.iface 359 (.agg #[.pointer (some ⟨8,69,none⟩)])):=by
  rw[World.cell?_alloc_lt _ _ ⟨4,0,none⟩ (by simp<;>omega),World.cell?_alloc_lt _ _ ⟨4,0,none⟩ hlt];exact hg
 have tO:=Tryz.typeOfSyntax
 have aL:=Tryz.assignableFullSyntax
 have a1:=Tryz.noAsSyntax
 have a2:=Tryz.noUnwrapSyntax
 have a3:=Tryz.noUnwrapsSyntax
 go_enter Tryz.func119,Tryz.ntmps119
 go_wp2
 refine wp_loop_rounds 1 ?_
 rw[rounds_succ]
 go_wp2
 go_ret
 exact⟨rfl,rfl⟩
theorem as_missBytesSyntax (v:Value)(t:Addr)(w:World)(hg:w.cell? ⟨4,0,none⟩=some (.iface 359 (.agg #[.pointer (some ⟨8,69,none⟩)]))) :
  Calls Tryz.prog 119 #[.iface 238 v,.iface 215 (.pointer (some t))] w fun ev w'=>ev=.returned (.bool false)∧w'=((w.alloc (.cells #[.pointer (some t)] 215)).alloc (.cells #[.pointer (some ⟨8,215,none⟩),.pointer (some ⟨w.heap.size,0,none⟩),.int .u64 150] 306)).alloc (.cells #[.pointer (some ⟨8,215,none⟩),.pointer (some ⟨w.heap.size,0,none⟩),.int .u64 150] 306):=by
 have x28:=@run_callFunc_extern Tryz.prog 190 _ (fun args=>ReflectliteValue.unpack (args.getD 0 (.tuple #[]))) Tryz.func190 (by kernel_rfl) (by kernel_rfl) (by kernel_rfl) (by kernel_rfl)
 have x29:=@run_callFunc_extern Tryz.prog 191 _ (ReflectliteValue.methodAny (ReflectliteValue.valueError "reflectlite.Value.Type" 0) (fun t _ _ _=>ReflectliteType.toType t)) Tryz.func191 (by kernel_rfl) (by kernel_rfl) (by kernel_rfl) (by kernel_rfl)
 have x30:=@run_callFunc_extern Tryz.prog 192 _ (ReflectliteValue.method (ReflectliteValue.valueError "reflectlite.Value.IsNil" 0) ReflectliteValue.isNil) Tryz.func192 (by kernel_rfl) (by kernel_rfl) (by kernel_rfl) (by kernel_rfl)
 have x70:=@run_callFunc_extern Tryz.prog 311 _ (ReflectliteType.abiMethod fun t=>do pure (.int .u8 (← Rtype.kind t))) Tryz.func311 (by kernel_rfl) (by kernel_rfl) (by kernel_rfl) (by kernel_rfl)
 have x83:=@run_callFunc_extern Tryz.prog 337 _ (ReflectliteType.method ReflectliteType.elem) Tryz.func337 (by kernel_rfl) (by kernel_rfl) (by kernel_rfl) (by kernel_rfl)
 have x84:=@run_callFunc_extern Tryz.prog 338 _ (ReflectliteType.relation "Implements" ReflectliteType.implements_) Tryz.func338 (by kernel_rfl) (by kernel_rfl) (by kernel_rfl) (by kernel_rfl)
 have x40:=@run_callFunc_extern Tryz.prog 235 _ ReflectliteType.typeOf Tryz.func235 (by kernel_rfl) (by kernel_rfl) (by kernel_rfl) (by kernel_rfl)
 have x81:=@run_callFunc_extern Tryz.prog 335 _ (ReflectliteType.relation "AssignableTo" ReflectliteType.assignableTo) Tryz.func335 (by kernel_rfl) (by kernel_rfl) (by kernel_rfl) (by kernel_rfl)
 have x41:=@run_callFunc_extern Tryz.prog 236 _ (ReflectliteValue.method (ReflectliteValue.valueError "reflectlite.Value.Elem" 0) ReflectliteValue.elem) Tryz.func236 (by kernel_rfl) (by kernel_rfl) (by kernel_rfl) (by kernel_rfl)
 have x42:=@run_callFunc_extern Tryz.prog 237 _ ReflectliteValue.set Tryz.func237 (by kernel_rfl) (by kernel_rfl) (by kernel_rfl) (by kernel_rfl)
 have f28:=Tryz.valueOfPBytes
 have f29:=Tryz.typePBytes
 have mK:=Tryz.methodKind
 have mE:=Tryz.methodElem
 have mI:=Tryz.methodImplements
 have mA:=Tryz.methodAssignableTo
 have kP:=Tryz.kindPBytes
 have kL:=Tryz.kindLBytes
 have eP:=Tryz.elemTPBytes
 have iL:=Tryz.implementsLBytes
 have hlt:4 < w.heap.size:=World.block_lt_of_cell? w ⟨4,0,none⟩ hg
 have n30:=Tryz.isNilPBytes ⟨w.heap.size,0,none⟩ t ((w.alloc (.cells #[.pointer (some t)] 215)).alloc (.cells #[.pointer (some ⟨8,215,none⟩),.pointer (some ⟨w.heap.size,0,none⟩),.int .u64 150] 306)) (by simp)
 have hg2:((w.alloc (.cells #[.pointer (some t)] 215)).alloc (.cells #[.pointer (some ⟨8,215,none⟩),.pointer (some ⟨w.heap.size,0,none⟩),.int .u64 150] 306)).cell? ⟨4,0,none⟩=some (.iface 359 (.agg #[.pointer (some ⟨8,69,none⟩)])):=by
  rw[World.cell?_alloc_lt _ _ ⟨4,0,none⟩ (by simp<;>omega),World.cell?_alloc_lt _ _ ⟨4,0,none⟩ hlt];exact hg
 have tO:=Tryz.typeOfSyntax
 have aL:=Tryz.assignableBytesSyntax
 have a1:=Tryz.noAsSyntax
 have a2:=Tryz.noUnwrapSyntax
 have a3:=Tryz.noUnwrapsSyntax
 go_enter Tryz.func119,Tryz.ntmps119
 go_wp2
 refine wp_loop_rounds 1 ?_
 rw[rounds_succ]
 go_wp2
 go_ret
 exact⟨rfl,rfl⟩
theorem as_missFaultSyntax (v:Value)(t:Addr)(w:World)(hg:w.cell? ⟨4,0,none⟩=some (.iface 359 (.agg #[.pointer (some ⟨8,69,none⟩)]))) :
  Calls Tryz.prog 119 #[.iface 238 v,.iface 216 (.pointer (some t))] w fun ev w'=>ev=.returned (.bool false)∧w'=((w.alloc (.cells #[.pointer (some t)] 216)).alloc (.cells #[.pointer (some ⟨8,216,none⟩),.pointer (some ⟨w.heap.size,0,none⟩),.int .u64 150] 306)).alloc (.cells #[.pointer (some ⟨8,216,none⟩),.pointer (some ⟨w.heap.size,0,none⟩),.int .u64 150] 306):=by
 have x28:=@run_callFunc_extern Tryz.prog 190 _ (fun args=>ReflectliteValue.unpack (args.getD 0 (.tuple #[]))) Tryz.func190 (by kernel_rfl) (by kernel_rfl) (by kernel_rfl) (by kernel_rfl)
 have x29:=@run_callFunc_extern Tryz.prog 191 _ (ReflectliteValue.methodAny (ReflectliteValue.valueError "reflectlite.Value.Type" 0) (fun t _ _ _=>ReflectliteType.toType t)) Tryz.func191 (by kernel_rfl) (by kernel_rfl) (by kernel_rfl) (by kernel_rfl)
 have x30:=@run_callFunc_extern Tryz.prog 192 _ (ReflectliteValue.method (ReflectliteValue.valueError "reflectlite.Value.IsNil" 0) ReflectliteValue.isNil) Tryz.func192 (by kernel_rfl) (by kernel_rfl) (by kernel_rfl) (by kernel_rfl)
 have x70:=@run_callFunc_extern Tryz.prog 311 _ (ReflectliteType.abiMethod fun t=>do pure (.int .u8 (← Rtype.kind t))) Tryz.func311 (by kernel_rfl) (by kernel_rfl) (by kernel_rfl) (by kernel_rfl)
 have x83:=@run_callFunc_extern Tryz.prog 337 _ (ReflectliteType.method ReflectliteType.elem) Tryz.func337 (by kernel_rfl) (by kernel_rfl) (by kernel_rfl) (by kernel_rfl)
 have x84:=@run_callFunc_extern Tryz.prog 338 _ (ReflectliteType.relation "Implements" ReflectliteType.implements_) Tryz.func338 (by kernel_rfl) (by kernel_rfl) (by kernel_rfl) (by kernel_rfl)
 have x40:=@run_callFunc_extern Tryz.prog 235 _ ReflectliteType.typeOf Tryz.func235 (by kernel_rfl) (by kernel_rfl) (by kernel_rfl) (by kernel_rfl)
 have x81:=@run_callFunc_extern Tryz.prog 335 _ (ReflectliteType.relation "AssignableTo" ReflectliteType.assignableTo) Tryz.func335 (by kernel_rfl) (by kernel_rfl) (by kernel_rfl) (by kernel_rfl)
 have x41:=@run_callFunc_extern Tryz.prog 236 _ (ReflectliteValue.method (ReflectliteValue.valueError "reflectlite.Value.Elem" 0) ReflectliteValue.elem) Tryz.func236 (by kernel_rfl) (by kernel_rfl) (by kernel_rfl) (by kernel_rfl)
 have x42:=@run_callFunc_extern Tryz.prog 237 _ ReflectliteValue.set Tryz.func237 (by kernel_rfl) (by kernel_rfl) (by kernel_rfl) (by kernel_rfl)
 have f28:=Tryz.valueOfPFault
 have f29:=Tryz.typePFault
 have mK:=Tryz.methodKind
 have mE:=Tryz.methodElem
 have mI:=Tryz.methodImplements
 have mA:=Tryz.methodAssignableTo
 have kP:=Tryz.kindPFault
 have kL:=Tryz.kindLFault
 have eP:=Tryz.elemTPFault
 have iL:=Tryz.implementsLFault
 have hlt:4 < w.heap.size:=World.block_lt_of_cell? w ⟨4,0,none⟩ hg
 have n30:=Tryz.isNilPFault ⟨w.heap.size,0,none⟩ t ((w.alloc (.cells #[.pointer (some t)] 216)).alloc (.cells #[.pointer (some ⟨8,216,none⟩),.pointer (some ⟨w.heap.size,0,none⟩),.int .u64 150] 306)) (by simp)
 have hg2:((w.alloc (.cells #[.pointer (some t)] 216)).alloc (.cells #[.pointer (some ⟨8,216,none⟩),.pointer (some ⟨w.heap.size,0,none⟩),.int .u64 150] 306)).cell? ⟨4,0,none⟩=some (.iface 359 (.agg #[.pointer (some ⟨8,69,none⟩)])):=by
  rw[World.cell?_alloc_lt _ _ ⟨4,0,none⟩ (by simp<;>omega),World.cell?_alloc_lt _ _ ⟨4,0,none⟩ hlt];exact hg
 have tO:=Tryz.typeOfSyntax
 have aL:=Tryz.assignableFaultSyntax
 have a1:=Tryz.noAsSyntax
 have a2:=Tryz.noUnwrapSyntax
 have a3:=Tryz.noUnwrapsSyntax
 go_enter Tryz.func119,Tryz.ntmps119
 go_wp2
 refine wp_loop_rounds 1 ?_
 rw[rounds_succ]
 go_wp2
 go_ret
 exact⟨rfl,rfl⟩
theorem as_missOtherSyntax (v:Value)(t:Addr)(w:World)(hg:w.cell? ⟨4,0,none⟩=some (.iface 359 (.agg #[.pointer (some ⟨8,69,none⟩)]))) :
  Calls Tryz.prog 119 #[.iface 238 v,.iface 217 (.pointer (some t))] w fun ev w'=>ev=.returned (.bool false)∧w'=((w.alloc (.cells #[.pointer (some t)] 217)).alloc (.cells #[.pointer (some ⟨8,217,none⟩),.pointer (some ⟨w.heap.size,0,none⟩),.int .u64 150] 306)).alloc (.cells #[.pointer (some ⟨8,217,none⟩),.pointer (some ⟨w.heap.size,0,none⟩),.int .u64 150] 306):=by
 have x28:=@run_callFunc_extern Tryz.prog 190 _ (fun args=>ReflectliteValue.unpack (args.getD 0 (.tuple #[]))) Tryz.func190 (by kernel_rfl) (by kernel_rfl) (by kernel_rfl) (by kernel_rfl)
 have x29:=@run_callFunc_extern Tryz.prog 191 _ (ReflectliteValue.methodAny (ReflectliteValue.valueError "reflectlite.Value.Type" 0) (fun t _ _ _=>ReflectliteType.toType t)) Tryz.func191 (by kernel_rfl) (by kernel_rfl) (by kernel_rfl) (by kernel_rfl)
 have x30:=@run_callFunc_extern Tryz.prog 192 _ (ReflectliteValue.method (ReflectliteValue.valueError "reflectlite.Value.IsNil" 0) ReflectliteValue.isNil) Tryz.func192 (by kernel_rfl) (by kernel_rfl) (by kernel_rfl) (by kernel_rfl)
 have x70:=@run_callFunc_extern Tryz.prog 311 _ (ReflectliteType.abiMethod fun t=>do pure (.int .u8 (← Rtype.kind t))) Tryz.func311 (by kernel_rfl) (by kernel_rfl) (by kernel_rfl) (by kernel_rfl)
 have x83:=@run_callFunc_extern Tryz.prog 337 _ (ReflectliteType.method ReflectliteType.elem) Tryz.func337 (by kernel_rfl) (by kernel_rfl) (by kernel_rfl) (by kernel_rfl)
 have x84:=@run_callFunc_extern Tryz.prog 338 _ (ReflectliteType.relation "Implements" ReflectliteType.implements_) Tryz.func338 (by kernel_rfl) (by kernel_rfl) (by kernel_rfl) (by kernel_rfl)
 have x40:=@run_callFunc_extern Tryz.prog 235 _ ReflectliteType.typeOf Tryz.func235 (by kernel_rfl) (by kernel_rfl) (by kernel_rfl) (by kernel_rfl)
 have x81:=@run_callFunc_extern Tryz.prog 335 _ (ReflectliteType.relation "AssignableTo" ReflectliteType.assignableTo) Tryz.func335 (by kernel_rfl) (by kernel_rfl) (by kernel_rfl) (by kernel_rfl)
 have x41:=@run_callFunc_extern Tryz.prog 236 _ (ReflectliteValue.method (ReflectliteValue.valueError "reflectlite.Value.Elem" 0) ReflectliteValue.elem) Tryz.func236 (by kernel_rfl) (by kernel_rfl) (by kernel_rfl) (by kernel_rfl)
 have x42:=@run_callFunc_extern Tryz.prog 237 _ ReflectliteValue.set Tryz.func237 (by kernel_rfl) (by kernel_rfl) (by kernel_rfl) (by kernel_rfl)
 have f28:=Tryz.valueOfPOther
 have f29:=Tryz.typePOther
 have mK:=Tryz.methodKind
 have mE:=Tryz.methodElem
 have mI:=Tryz.methodImplements
 have mA:=Tryz.methodAssignableTo
 have kP:=Tryz.kindPOther
 have kL:=Tryz.kindLOther
 have eP:=Tryz.elemTPOther
 have iL:=Tryz.implementsLOther
 have hlt:4 < w.heap.size:=World.block_lt_of_cell? w ⟨4,0,none⟩ hg
 have n30:=Tryz.isNilPOther ⟨w.heap.size,0,none⟩ t ((w.alloc (.cells #[.pointer (some t)] 217)).alloc (.cells #[.pointer (some ⟨8,217,none⟩),.pointer (some ⟨w.heap.size,0,none⟩),.int .u64 150] 306)) (by simp)
 have hg2:((w.alloc (.cells #[.pointer (some t)] 217)).alloc (.cells #[.pointer (some ⟨8,217,none⟩),.pointer (some ⟨w.heap.size,0,none⟩),.int .u64 150] 306)).cell? ⟨4,0,none⟩=some (.iface 359 (.agg #[.pointer (some ⟨8,69,none⟩)])):=by
  rw[World.cell?_alloc_lt _ _ ⟨4,0,none⟩ (by simp<;>omega),World.cell?_alloc_lt _ _ ⟨4,0,none⟩ hlt];exact hg
 have tO:=Tryz.typeOfSyntax
 have aL:=Tryz.assignableOtherSyntax
 have a1:=Tryz.noAsSyntax
 have a2:=Tryz.noUnwrapSyntax
 have a3:=Tryz.noUnwrapsSyntax
 go_enter Tryz.func119,Tryz.ntmps119
 go_wp2
 refine wp_loop_rounds 1 ?_
 rw[rounds_succ]
 go_wp2
 go_ret
 exact⟨rfl,rfl⟩
theorem isLong_Long (n:Int)(w:World)(hg:ErrType w) :
  Calls Tryz.prog 63 #[.iface 133 (.agg #[.int .i64 n])] w fun e w'=>e=.returned (.bool true)∧Below w.heap.size w w':=by
 have hA:=hid (as_hitLong n ⟨w.heap.size,0,none⟩ (.int .i64 0) (w.alloc (.cells #[.int .i64 0] 133)) (hg.alloc _) (by simp) (by simp))
 clear hg
 go_enter Tryz.func63,Tryz.ntmps63
 go_wp2_with (go_at_call 119;refine hA.out.mono ?_;rintro e w' ⟨rfl,hw⟩;have HW:=hid hw;clear hw)
 go_ret
 refine⟨rfl,?_⟩
 rw[HW.out]
 exact ((((((Below.refl _ w).alloc (Nat.le_refl _) _).alloc (by simp) _).alloc (by simp<;>omega) _).alloc (by simp<;>omega) _).alloc (by simp<;>omega) _).setCell (Nat.le_refl _) _
theorem isLong_Syntax (v:Value)(w:World)(hg:ErrType w) :
  Calls Tryz.prog 63 #[.iface 238 v] w fun e w'=>e=.returned (.bool false)∧Below w.heap.size w w':=by
 have hA:=hid (fun o=>as_missLongSyntax v ⟨w.heap.size,0,none⟩ (w.alloc o) (hg.alloc o))
 clear hg
 go_enter Tryz.func63,Tryz.ntmps63
 go_wp2_with (go_at_call 119;refine (hA.out _).mono ?_;rintro e w' ⟨rfl,hw⟩;have HW:=hid hw;clear hw)
 go_ret
 refine⟨rfl,?_⟩
 rw[HW.out]
 exact ((((Below.refl _ w).alloc (Nat.le_refl _) _).alloc (by simp) _).alloc (by simp<;>omega) _).alloc (by simp<;>omega) _
theorem isLate_Syntax (v:Value)(w:World)(hg:ErrType w) :
  Calls Tryz.prog 64 #[.iface 238 v] w fun e w'=>e=.returned (.bool false)∧Below w.heap.size w w':=by
 have hA:=hid (fun o=>as_missLateSyntax v ⟨w.heap.size,0,none⟩ (w.alloc o) (hg.alloc o))
 clear hg
 go_enter Tryz.func64,Tryz.ntmps64
 go_wp2_with (go_at_call 119;refine (hA.out _).mono ?_;rintro e w' ⟨rfl,hw⟩;have HW:=hid hw;clear hw)
 go_ret
 refine⟨rfl,?_⟩
 rw[HW.out]
 exact ((((Below.refl _ w).alloc (Nat.le_refl _) _).alloc (by simp) _).alloc (by simp<;>omega) _).alloc (by simp<;>omega) _
theorem isFull_Syntax (v:Value)(w:World)(hg:ErrType w) :
  Calls Tryz.prog 65 #[.iface 238 v] w fun e w'=>e=.returned (.bool false)∧Below w.heap.size w w':=by
 have hA:=hid (fun o=>as_missFullSyntax v ⟨w.heap.size,0,none⟩ (w.alloc o) (hg.alloc o))
 clear hg
 go_enter Tryz.func65,Tryz.ntmps65
 go_wp2_with (go_at_call 119;refine (hA.out _).mono ?_;rintro e w' ⟨rfl,hw⟩;have HW:=hid hw;clear hw)
 go_ret
 refine⟨rfl,?_⟩
 rw[HW.out]
 exact ((((Below.refl _ w).alloc (Nat.le_refl _) _).alloc (by simp) _).alloc (by simp<;>omega) _).alloc (by simp<;>omega) _
theorem isBytes_Syntax (v:Value)(w:World)(hg:ErrType w) :
  Calls Tryz.prog 66 #[.iface 238 v] w fun e w'=>e=.returned (.bool false)∧Below w.heap.size w w':=by
 have hA:=hid (fun o=>as_missBytesSyntax v ⟨w.heap.size,0,none⟩ (w.alloc o) (hg.alloc o))
 clear hg
 go_enter Tryz.func66,Tryz.ntmps66
 go_wp2_with (go_at_call 119;refine (hA.out _).mono ?_;rintro e w' ⟨rfl,hw⟩;have HW:=hid hw;clear hw)
 go_ret
 refine⟨rfl,?_⟩
 rw[HW.out]
 exact ((((Below.refl _ w).alloc (Nat.le_refl _) _).alloc (by simp) _).alloc (by simp<;>omega) _).alloc (by simp<;>omega) _
theorem isFault_Syntax (v:Value)(w:World)(hg:ErrType w) :
  Calls Tryz.prog 67 #[.iface 238 v] w fun e w'=>e=.returned (.bool false)∧Below w.heap.size w w':=by
 have hA:=hid (fun o=>as_missFaultSyntax v ⟨w.heap.size,0,none⟩ (w.alloc o) (hg.alloc o))
 clear hg
 go_enter Tryz.func67,Tryz.ntmps67
 go_wp2_with (go_at_call 119;refine (hA.out _).mono ?_;rintro e w' ⟨rfl,hw⟩;have HW:=hid hw;clear hw)
 go_ret
 refine⟨rfl,?_⟩
 rw[HW.out]
 exact ((((Below.refl _ w).alloc (Nat.le_refl _) _).alloc (by simp) _).alloc (by simp<;>omega) _).alloc (by simp<;>omega) _
theorem isOther_Syntax (v:Value)(w:World)(hg:ErrType w) :
  Calls Tryz.prog 68 #[.iface 238 v] w fun e w'=>e=.returned (.bool false)∧Below w.heap.size w w':=by
 have hA:=hid (fun o=>as_missOtherSyntax v ⟨w.heap.size,0,none⟩ (w.alloc o) (hg.alloc o))
 clear hg
 go_enter Tryz.func68,Tryz.ntmps68
 go_wp2_with (go_at_call 119;refine (hA.out _).mono ?_;rintro e w' ⟨rfl,hw⟩;have HW:=hid hw;clear hw)
 go_ret
 refine⟨rfl,?_⟩
 rw[HW.out]
 exact ((((Below.refl _ w).alloc (Nat.le_refl _) _).alloc (by simp) _).alloc (by simp<;>omega) _).alloc (by simp<;>omega) _
theorem pnum_long (n:Int)(w:World)(hg:ErrType w) :
  Calls Tryz.prog 33 #[.iface 133 (.agg #[.int .i64 n])] w fun e w'=>e=.returned (.int .i64 1)∧Below w.heap.size w w':=by
 have HG:=hid hg
 clear hg
 go_enter Tryz.func33,Tryz.ntmps33
 go_wp2_with (first
  | (go_at_call 63;refine (isLong_Long _ _ HG.out).mono ?_;rintro e w1 ⟨rfl,hw⟩;have HW1:=hid hw;clear hw))
 go_ret
 exact⟨rfl,HW1.out⟩
theorem pnum_syn (n:Int)(w:World)(hg:ErrType w) :
  Calls Tryz.prog 33 #[.iface 238 (.agg #[.int .i64 n])] w fun e w'=>e=.returned (.int .i64 2)∧Below w.heap.size w w':=by
 have HG:=hid hg
 clear hg
 go_enter Tryz.func33,Tryz.ntmps33
 go_wp2_with (first
  | (go_at_call 63;refine (isLong_Syntax _ _ HG.out).mono ?_;rintro e w1 ⟨rfl,hw⟩;have HW1:=hid hw;have HG1:=hid (HG.out.below hw);clear hw)
  | (go_at_call 64;refine (isLate_Syntax _ _ HG1.out).mono ?_;rintro e w2 ⟨rfl,hw⟩;have HW2:=hid hw;have HG2:=hid (HG1.out.below hw);clear hw)
  | (go_at_call 65;refine (isFull_Syntax _ _ HG2.out).mono ?_;rintro e w3 ⟨rfl,hw⟩;have HW3:=hid hw;have HG3:=hid (HG2.out.below hw);clear hw)
  | (go_at_call 66;refine (isBytes_Syntax _ _ HG3.out).mono ?_;rintro e w4 ⟨rfl,hw⟩;have HW4:=hid hw;have HG4:=hid (HG3.out.below hw);clear hw)
  | (go_at_call 67;refine (isFault_Syntax _ _ HG4.out).mono ?_;rintro e w5 ⟨rfl,hw⟩;have HW5:=hid hw;have HG5:=hid (HG4.out.below hw);clear hw)
  | (go_at_call 68;refine (isOther_Syntax _ _ HG5.out).mono ?_;rintro e w6 ⟨rfl,hw⟩;have HW6:=hid hw;clear hw))
 go_ret
 exact⟨rfl,HW1.out.trans ((HW2.out.trans ((HW3.out.trans ((HW4.out.trans ((HW5.out.trans ((HW6.out).mono HW5.out.size)).mono HW4.out.size)).mono HW3.out.size)).mono HW2.out.size)).mono HW1.out.size)⟩
end Go.Proofs.YtfldcmdhneegmaaGreatDoor
namespace Go.Proofs.YtfldcmdhneegmaaGreatDoor
open Go.RowKit Go.Lib
structure EnvG (w:World):Prop where
 letters:Letters w
 err:ErrType w
theorem EnvG.below {w w':World}(h:EnvG w)(hb:Below w.heap.size w w'):EnvG w' where
 letters:=fun c W h1 h2 h3=>h.letters c W h1 h2 (hb.trans (h3.mono hb.size))
 err:=h.err.below hb
structure SNewAt (w w':World)(sb eb:Nat)(v:Value)(l:List (Int × Bool))(win:Int):Prop where
 blk:w'.heap[sb]?=some (.cells #[.pointer (some ⟨eb,0,none⟩)] 74 (0,0))
 eng:w'.heap[eb]?=some (.cells #[v,.int .i64 win,.int .i64 (-9223372036854775808),.int .i64 0,.slice none 0 0,.slice none 0 0] 159 (0,0))
 own:w'.ownsRow w.heap.size 225 2 v l.length (stepCells l)
 lsb:w.heap.size≤sb
 leb:w.heap.size≤eb
 ne:sb≠eb
 bel:Below w.heap.size w w'
def SNewEnd (s:ByteArray)(w:World)(e:Ending)(w':World):Prop:=
 if 60 < s.size then e=.returned (.tuple #[.pointer none,.int .i64 1])∧Below w.heap.size w w' else match Pl.parse s with
  | none=>e=.returned (.tuple #[.pointer none,.int .i64 2])∧Below w.heap.size w w'
  | some (l,win)=>∃sb eb v,e=.returned (.tuple #[.pointer (some ⟨sb,0,none⟩),.int .i64 0])∧SNewAt w w' sb eb v l win
theorem engineOf_long (s:ByteArray)(w:World)(h60:60 < s.size)(hm:s.size≤9223372036854775807) :
  Calls Tryz.prog 41 #[.string s] w fun e w'=>e=.returned (.tuple #[.pointer none,.iface 133 (.agg #[.int .i64 (s.size:Int)])])∧Below w.heap.size w w':=by
 have HP:=hid (pParse_long s w h60 hm)
 clear h60
 go_enter Tryz.func41,Tryz.ntmps41
 go_wp2_with (go_at_call 83;refine HP.out.mono ?_)
 rintro e w1 ⟨rfl,b1⟩
 have HB:=hid b1
 clear b1
 go_wp2
 go_ret2
 exact⟨rfl,by repeat (first | exact HB.out | refine Below.drew ?_ | refine Below.alloc ?_ (by have:=HB.out.size;simp;try omega) _)⟩
theorem engineOf_bad (s:ByteArray)(w:World)(h60:s.size≤60)(hL:Letters w)(hp:Pl.parse s=none) :
  Calls Tryz.prog 41 #[.string s] w fun e w'=>(∃k:Int,e=.returned (.tuple #[.pointer none,.iface 238 (.agg #[.int .i64 k])]))∧Below w.heap.size w w':=by
 have HP:=hid (pParse_any s w h60 hL)
 unfold ParseEnd at HP
 rw[hp] at HP
 have HP':Hid (Calls Tryz.prog 83 #[.string s] w fun e w'=>(∃k:Int,e=.returned (.tuple #[.agg #[.slice none 0 0,.int .i64 0],.iface 238 (.agg #[.int .i64 k])]))∧Below w.heap.size w w'):=HP
 clear h60 HP hL hp
 go_enter Tryz.func41,Tryz.ntmps41
 go_wp2_with (go_at_call 83;refine HP'.out.mono ?_)
 rintro e w1 ⟨⟨k,rfl⟩,b1⟩
 have HB:=hid b1
 clear b1
 go_wp2
 go_ret2
 exact⟨⟨k,rfl⟩,by repeat (first | exact HB.out | refine Below.drew ?_ | refine Below.alloc ?_ (by have:=HB.out.size;simp;try omega) _)⟩
theorem engineOf_ok (s:ByteArray)(w:World)(h60:s.size≤60)(hL:Letters w)(l:List (Int × Bool))(win:Int)(hp:Pl.parse s=some (l,win)) :
  Calls Tryz.prog 41 #[.string s] w fun e w'=>∃eb v,e=.returned (.tuple #[.pointer (some ⟨eb,0,none⟩),.nilIface])∧w.heap.size≤eb∧w'.heap[eb]?=some (.cells #[v,.int .i64 win,.int .i64 (-9223372036854775808),.int .i64 0,.slice none 0 0,.slice none 0 0] 159 (0,0))∧w'.ownsRow w.heap.size 225 2 v l.length (stepCells l)∧Below w.heap.size w w':=by
 have HP:=hid (pParse_any s w h60 hL)
 unfold ParseEnd at HP
 rw[hp] at HP
 have HP':Hid (Calls Tryz.prog 83 #[.string s] w fun e w'=>∃ao cap,e=.returned (.tuple #[.agg #[.slice ao l.length cap,.int .i64 win],.nilIface])∧w'.ownsRow w.heap.size 225 2 (.slice ao l.length cap) l.length (stepCells l)∧Below w.heap.size w w'):=HP.out.mono fun e w' ⟨v,he,own1,b1⟩=>by
  obtain⟨ao,cap,rfl⟩:=own_slice own1
  exact⟨ao,cap,he,own1,b1⟩
 clear h60 HP hL hp
 go_enter Tryz.func41,Tryz.ntmps41
 go_wp2_with (go_at_call 83;refine HP'.out.mono ?_)
 rintro e w1 ⟨ao,cap,rfl,own1,b1⟩
 have hal:=(Below.refl w1.heap.size w1).alloc (Nat.le_refl _) (.cells #[.slice ao l.length cap,.int .i64 win] 154)
 have HB:=hid (And.intro own1 (And.intro b1 hal))
 clear b1 own1 hal
 go_wp2_with (go_at_call 84;refine (eNew_any ao l.length cap win _).mono ?_;rintro e w2 ⟨eb,rfl,h1,h2,h3⟩;have H2:=hid (And.intro h1 (And.intro h2 h3));clear h1 h2 h3)
 go_ret2
 have hb2:=HB.out.2.2.trans (H2.out.2.2.mono HB.out.2.2.size)
 exact⟨eb,_,rfl,Nat.le_trans HB.out.2.1.size (Nat.le_trans HB.out.2.2.size H2.out.1),H2.out.2.1,own_below HB.out.1 hb2,HB.out.2.1.trans (hb2.mono HB.out.2.1.size)⟩
theorem sNew_any (s:ByteArray)(w:World)(hE:EnvG w)(hm:s.size≤9223372036854775807) :
  Calls Tryz.prog 25 #[.string s] w (SNewEnd s w):=by
 unfold SNewEnd
 by_cases h60:60 < s.size
 ·simp only[if_pos h60]
  have HP:=hid (engineOf_long s w h60 hm)
  have HE:=hid hE
  clear hE h60
  go_enter Tryz.func25,Tryz.ntmps25
  go_wp2_with (go_at_call 41;refine HP.out.mono ?_;rintro e w1 ⟨rfl,b1⟩;have HN:=hid (pnum_long s.size w1 (HE.out.below b1).err);have HB:=hid b1;clear b1)
  refine HN.out.mono ?_
  rintro e w2 ⟨rfl,b2⟩
  have HB2:=hid b2
  clear b2
  go_wp2
  go_ret2
  exact⟨rfl,HB.out.trans (HB2.out.mono HB.out.size)⟩
 ·simp only[if_neg h60]
  cases hq:Pl.parse s with
  | none=>
   show Calls _ _ _ _ fun e w'=>e=.returned (.tuple #[.pointer none,.int .i64 2])∧Below w.heap.size w w'
   have HP:=hid (engineOf_bad s w (by omega) hE.letters hq)
   have HE:=hid hE
   clear hE h60 hq
   go_enter Tryz.func25,Tryz.ntmps25
   go_wp2_with (go_at_call 41;refine HP.out.mono ?_;rintro e w1 ⟨⟨k,rfl⟩,b1⟩;have HN:=hid (pnum_syn k w1 (HE.out.below b1).err);have HB:=hid b1;clear b1)
   refine HN.out.mono ?_
   rintro e w2 ⟨rfl,b2⟩
   have HB2:=hid b2
   clear b2
   go_wp2
   go_ret2
   exact⟨rfl,HB.out.trans (HB2.out.mono HB.out.size)⟩
  | some q=>
   obtain⟨l,win⟩:=q
   show Calls _ _ _ _ fun e w'=>∃sb eb v,e=.returned (.tuple #[.pointer (some ⟨sb,0,none⟩),.int .i64 0])∧SNewAt w w' sb eb v l win
   have HP:=hid (engineOf_ok s w (by omega) hE.letters l win hq)
   clear hE h60 hq
   go_enter Tryz.func25,Tryz.ntmps25
   go_wp2_with (go_at_call 41;refine HP.out.mono ?_;rintro e w1 ⟨eb,v,rfl,h1,h2,h3,h4⟩;have H1:=hid (And.intro h1 (And.intro h2 (And.intro h3 h4)));clear h1 h2 h3 h4)
   go_ret2
   have hal:=(Below.refl w1.heap.size w1).alloc (Nat.le_refl _) (.cells #[.pointer (some ⟨eb,0,none⟩)] 74)
   have leb:=lt_of_block H1.out.2.1
   refine⟨w1.heap.size,eb,v,rfl,?_,?_,?_,H1.out.2.2.2.size,H1.out.1,by omega,?_⟩
   ·exact heap_alloc_new w1 _
   ·exact (hal.block _ leb).trans H1.out.2.1
   ·exact own_below H1.out.2.2.1 hal
   ·exact H1.out.2.2.2.trans (hal.mono H1.out.2.2.2.size)
end Go.Proofs.YtfldcmdhneegmaaGreatDoor

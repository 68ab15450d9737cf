import Derived.Test.YtfldcmdhneegmaaGreatDoorX15
set_option maxHeartbeats 4000000
set_option maxRecDepth 1000000
namespace Go.Proofs.YtfldcmdhneegmaaGreatDoor
open Go.RowKit Go.Extern.Stop Go.Stop Go.Extern
theorem as_missLongBytes (v:Value)(t:Addr)(w:World)(hg:w.cell? ⟨4,0,none⟩=some (.iface 359 (.agg #[.pointer (some ⟨8,69,none⟩)]))) :
  Calls Tryz.prog 119 #[.iface 139 v,.iface 212 (.pointer (some t))] w fun ev w'=>ev=.returned (.bool false)∧w'=((w.alloc (.cells #[.pointer (some t)] 212)).alloc (.cells #[.pointer (some ⟨8,212,none⟩),.pointer (some ⟨w.heap.size,0,none⟩),.int .u64 150] 306)).alloc (.cells #[.pointer (some ⟨8,212,none⟩),.pointer (some ⟨w.heap.size,0,none⟩),.int .u64 150] 306):=by
 have x28:=@run_callFunc_extern Tryz.prog 190 _ (fun args=>ReflectliteValue.unpack (args.getD 0 (.tuple #[]))) Tryz.func190 (by kernel_rfl) (by kernel_rfl) (by kernel_rfl) (by kernel_rfl)
 have x29:=@run_callFunc_extern Tryz.prog 191 _ (ReflectliteValue.methodAny (ReflectliteValue.valueError "reflectlite.Value.Type" 0) (fun t _ _ _=>ReflectliteType.toType t)) Tryz.func191 (by kernel_rfl) (by kernel_rfl) (by kernel_rfl) (by kernel_rfl)
 have x30:=@run_callFunc_extern Tryz.prog 192 _ (ReflectliteValue.method (ReflectliteValue.valueError "reflectlite.Value.IsNil" 0) ReflectliteValue.isNil) Tryz.func192 (by kernel_rfl) (by kernel_rfl) (by kernel_rfl) (by kernel_rfl)
 have x70:=@run_callFunc_extern Tryz.prog 311 _ (ReflectliteType.abiMethod fun t=>do pure (.int .u8 (← Rtype.kind t))) Tryz.func311 (by kernel_rfl) (by kernel_rfl) (by kernel_rfl) (by kernel_rfl)
 have x83:=@run_callFunc_extern Tryz.prog 337 _ (ReflectliteType.method ReflectliteType.elem) Tryz.func337 (by kernel_rfl) (by kernel_rfl) (by kernel_rfl) (by kernel_rfl)
 have x84:=@run_callFunc_extern Tryz.prog 338 _ (ReflectliteType.relation "Implements" ReflectliteType.implements_) Tryz.func338 (by kernel_rfl) (by kernel_rfl) (by kernel_rfl) (by kernel_rfl)
 have x40:=@run_callFunc_extern Tryz.prog 235 _ ReflectliteType.typeOf Tryz.func235 (by kernel_rfl) (by kernel_rfl) (by kernel_rfl) (by kernel_rfl)
 have x81:=@run_callFunc_extern Tryz.prog 335 _ (ReflectliteType.relation "AssignableTo" ReflectliteType.assignableTo) Tryz.func335 (by kernel_rfl) (by kernel_rfl) (by kernel_rfl) (by kernel_rfl)
 have x41:=@run_callFunc_extern Tryz.prog 236 _ (ReflectliteValue.method (ReflectliteValue.valueError "reflectlite.Value.Elem" 0) ReflectliteValue.elem) Tryz.func236 (by kernel_rfl) (by kernel_rfl) (by kernel_rfl) (by kernel_rfl)
 have x42:=@run_callFunc_extern Tryz.prog 237 _ ReflectliteValue.set Tryz.func237 (by kernel_rfl) (by kernel_rfl) (by kernel_rfl) (by kernel_rfl)
 have f28:=Tryz.valueOfPLong
 have f29:=Tryz.typePLong
 have mK:=Tryz.methodKind
 have mE:=Tryz.methodElem
 have mI:=Tryz.methodImplements
 have mA:=Tryz.methodAssignableTo
 have kP:=Tryz.kindPLong
 have kL:=Tryz.kindLLong
 have eP:=Tryz.elemTPLong
 have iL:=Tryz.implementsLLong
 have hlt:4 < w.heap.size:=World.block_lt_of_cell? w ⟨4,0,none⟩ hg
 have n30:=Tryz.isNilPLong ⟨w.heap.size,0,none⟩ t ((w.alloc (.cells #[.pointer (some t)] 212)).alloc (.cells #[.pointer (some ⟨8,212,none⟩),.pointer (some ⟨w.heap.size,0,none⟩),.int .u64 150] 306)) (by simp)
 have hg2:((w.alloc (.cells #[.pointer (some t)] 212)).alloc (.cells #[.pointer (some ⟨8,212,none⟩),.pointer (some ⟨w.heap.size,0,none⟩),.int .u64 150] 306)).cell? ⟨4,0,none⟩=some (.iface 359 (.agg #[.pointer (some ⟨8,69,none⟩)])):=by
  rw[World.cell?_alloc_lt _ _ ⟨4,0,none⟩ (by simp<;>omega),World.cell?_alloc_lt _ _ ⟨4,0,none⟩ hlt];exact hg
 have tO:=Tryz.typeOfBytes
 have aL:=Tryz.assignableLongBytes
 have a1:=Tryz.noAsBytes
 have a2:=Tryz.noUnwrapBytes
 have a3:=Tryz.noUnwrapsBytes
 go_enter Tryz.func119,Tryz.ntmps119
 go_wp2
 refine wp_loop_rounds 1 ?_
 rw[rounds_succ]
 go_wp2
 go_ret
 exact⟨rfl,rfl⟩
theorem as_missLateBytes (v:Value)(t:Addr)(w:World)(hg:w.cell? ⟨4,0,none⟩=some (.iface 359 (.agg #[.pointer (some ⟨8,69,none⟩)]))) :
  Calls Tryz.prog 119 #[.iface 139 v,.iface 213 (.pointer (some t))] w fun ev w'=>ev=.returned (.bool false)∧w'=((w.alloc (.cells #[.pointer (some t)] 213)).alloc (.cells #[.pointer (some ⟨8,213,none⟩),.pointer (some ⟨w.heap.size,0,none⟩),.int .u64 150] 306)).alloc (.cells #[.pointer (some ⟨8,213,none⟩),.pointer (some ⟨w.heap.size,0,none⟩),.int .u64 150] 306):=by
 have x28:=@run_callFunc_extern Tryz.prog 190 _ (fun args=>ReflectliteValue.unpack (args.getD 0 (.tuple #[]))) Tryz.func190 (by kernel_rfl) (by kernel_rfl) (by kernel_rfl) (by kernel_rfl)
 have x29:=@run_callFunc_extern Tryz.prog 191 _ (ReflectliteValue.methodAny (ReflectliteValue.valueError "reflectlite.Value.Type" 0) (fun t _ _ _=>ReflectliteType.toType t)) Tryz.func191 (by kernel_rfl) (by kernel_rfl) (by kernel_rfl) (by kernel_rfl)
 have x30:=@run_callFunc_extern Tryz.prog 192 _ (ReflectliteValue.method (ReflectliteValue.valueError "reflectlite.Value.IsNil" 0) ReflectliteValue.isNil) Tryz.func192 (by kernel_rfl) (by kernel_rfl) (by kernel_rfl) (by kernel_rfl)
 have x70:=@run_callFunc_extern Tryz.prog 311 _ (ReflectliteType.abiMethod fun t=>do pure (.int .u8 (← Rtype.kind t))) Tryz.func311 (by kernel_rfl) (by kernel_rfl) (by kernel_rfl) (by kernel_rfl)
 have x83:=@run_callFunc_extern Tryz.prog 337 _ (ReflectliteType.method ReflectliteType.elem) Tryz.func337 (by kernel_rfl) (by kernel_rfl) (by kernel_rfl) (by kernel_rfl)
 have x84:=@run_callFunc_extern Tryz.prog 338 _ (ReflectliteType.relation "Implements" ReflectliteType.implements_) Tryz.func338 (by kernel_rfl) (by kernel_rfl) (by kernel_rfl) (by kernel_rfl)
 have x40:=@run_callFunc_extern Tryz.prog 235 _ ReflectliteType.typeOf Tryz.func235 (by kernel_rfl) (by kernel_rfl) (by kernel_rfl) (by kernel_rfl)
 have x81:=@run_callFunc_extern Tryz.prog 335 _ (ReflectliteType.relation "AssignableTo" ReflectliteType.assignableTo) Tryz.func335 (by kernel_rfl) (by kernel_rfl) (by kernel_rfl) (by kernel_rfl)
 have x41:=@run_callFunc_extern Tryz.prog 236 _ (ReflectliteValue.method (ReflectliteValue.valueError "reflectlite.Value.Elem" 0) ReflectliteValue.elem) Tryz.func236 (by kernel_rfl) (by kernel_rfl) (by kernel_rfl) (by kernel_rfl)
 have x42:=@run_callFunc_extern Tryz.prog 237 _ ReflectliteValue.set Tryz.func237 (by kernel_rfl) (by kernel_rfl) (by kernel_rfl) (by kernel_rfl)
 have f28:=Tryz.valueOfPLate
 have f29:=Tryz.typePLate
 have mK:=Tryz.methodKind
 have mE:=Tryz.methodElem
 have mI:=Tryz.methodImplements
 have mA:=Tryz.methodAssignableTo
 have kP:=Tryz.kindPLate
 have kL:=Tryz.kindLLate
 have eP:=Tryz.elemTPLate
 have iL:=Tryz.implementsLLate
 have hlt:4 < w.heap.size:=World.block_lt_of_cell? w ⟨4,0,none⟩ hg
 have n30:=Tryz.isNilPLate ⟨w.heap.size,0,none⟩ t ((w.alloc (.cells #[.pointer (some t)] 213)).alloc (.cells #[.pointer (some ⟨8,213,none⟩),.pointer (some ⟨w.heap.size,0,none⟩),.int .u64 150] 306)) (by simp)
 have hg2:((w.alloc (.cells #[.pointer (some t)] 213)).alloc (.cells #[.pointer (some ⟨8,213,none⟩),.pointer (some ⟨w.heap.size,0,none⟩),.int .u64 150] 306)).cell? ⟨4,0,none⟩=some (.iface 359 (.agg #[.pointer (some ⟨8,69,none⟩)])):=by
  rw[World.cell?_alloc_lt _ _ ⟨4,0,none⟩ (by simp<;>omega),World.cell?_alloc_lt _ _ ⟨4,0,none⟩ hlt];exact hg
 have tO:=Tryz.typeOfBytes
 have aL:=Tryz.assignableLateBytes
 have a1:=Tryz.noAsBytes
 have a2:=Tryz.noUnwrapBytes
 have a3:=Tryz.noUnwrapsBytes
 go_enter Tryz.func119,Tryz.ntmps119
 go_wp2
 refine wp_loop_rounds 1 ?_
 rw[rounds_succ]
 go_wp2
 go_ret
 exact⟨rfl,rfl⟩
theorem as_missFullBytes (v:Value)(t:Addr)(w:World)(hg:w.cell? ⟨4,0,none⟩=some (.iface 359 (.agg #[.pointer (some ⟨8,69,none⟩)]))) :
  Calls Tryz.prog 119 #[.iface 139 v,.iface 214 (.pointer (some t))] w fun ev w'=>ev=.returned (.bool false)∧w'=((w.alloc (.cells #[.pointer (some t)] 214)).alloc (.cells #[.pointer (some ⟨8,214,none⟩),.pointer (some ⟨w.heap.size,0,none⟩),.int .u64 150] 306)).alloc (.cells #[.pointer (some ⟨8,214,none⟩),.pointer (some ⟨w.heap.size,0,none⟩),.int .u64 150] 306):=by
 have x28:=@run_callFunc_extern Tryz.prog 190 _ (fun args=>ReflectliteValue.unpack (args.getD 0 (.tuple #[]))) Tryz.func190 (by kernel_rfl) (by kernel_rfl) (by kernel_rfl) (by kernel_rfl)
 have x29:=@run_callFunc_extern Tryz.prog 191 _ (ReflectliteValue.methodAny (ReflectliteValue.valueError "reflectlite.Value.Type" 0) (fun t _ _ _=>ReflectliteType.toType t)) Tryz.func191 (by kernel_rfl) (by kernel_rfl) (by kernel_rfl) (by kernel_rfl)
 have x30:=@run_callFunc_extern Tryz.prog 192 _ (ReflectliteValue.method (ReflectliteValue.valueError "reflectlite.Value.IsNil" 0) ReflectliteValue.isNil) Tryz.func192 (by kernel_rfl) (by kernel_rfl) (by kernel_rfl) (by kernel_rfl)
 have x70:=@run_callFunc_extern Tryz.prog 311 _ (ReflectliteType.abiMethod fun t=>do pure (.int .u8 (← Rtype.kind t))) Tryz.func311 (by kernel_rfl) (by kernel_rfl) (by kernel_rfl) (by kernel_rfl)
 have x83:=@run_callFunc_extern Tryz.prog 337 _ (ReflectliteType.method ReflectliteType.elem) Tryz.func337 (by kernel_rfl) (by kernel_rfl) (by kernel_rfl) (by kernel_rfl)
 have x84:=@run_callFunc_extern Tryz.prog 338 _ (ReflectliteType.relation "Implements" ReflectliteType.implements_) Tryz.func338 (by kernel_rfl) (by kernel_rfl) (by kernel_rfl) (by kernel_rfl)
 have x40:=@run_callFunc_extern Tryz.prog 235 _ ReflectliteType.typeOf Tryz.func235 (by kernel_rfl) (by kernel_rfl) (by kernel_rfl) (by kernel_rfl)
 have x81:=@run_callFunc_extern Tryz.prog 335 _ (ReflectliteType.relation "AssignableTo" ReflectliteType.assignableTo) Tryz.func335 (by kernel_rfl) (by kernel_rfl) (by kernel_rfl) (by kernel_rfl)
 have x41:=@run_callFunc_extern Tryz.prog 236 _ (ReflectliteValue.method (ReflectliteValue.valueError "reflectlite.Value.Elem" 0) ReflectliteValue.elem) Tryz.func236 (by kernel_rfl) (by kernel_rfl) (by kernel_rfl) (by kernel_rfl)
 have x42:=@run_callFunc_extern Tryz.prog 237 _ ReflectliteValue.set Tryz.func237 (by kernel_rfl) (by kernel_rfl) (by kernel_rfl) (by kernel_rfl)
 have f28:=Tryz.valueOfPFull
 have f29:=Tryz.typePFull
 have mK:=Tryz.methodKind
 have mE:=Tryz.methodElem
 have mI:=Tryz.methodImplements
 have mA:=Tryz.methodAssignableTo
 have kP:=Tryz.kindPFull
 have kL:=Tryz.kindLFull
 have eP:=Tryz.elemTPFull
 have iL:=Tryz.implementsLFull
 have hlt:4 < w.heap.size:=World.block_lt_of_cell? w ⟨4,0,none⟩ hg
 have n30:=Tryz.isNilPFull ⟨w.heap.size,0,none⟩ t ((w.alloc (.cells #[.pointer (some t)] 214)).alloc (.cells #[.pointer (some ⟨8,214,none⟩),.pointer (some ⟨w.heap.size,0,none⟩),.int .u64 150] 306)) (by simp)
 have hg2:((w.alloc (.cells #[.pointer (some t)] 214)).alloc (.cells #[.pointer (some ⟨8,214,none⟩),.pointer (some ⟨w.heap.size,0,none⟩),.int .u64 150] 306)).cell? ⟨4,0,none⟩=some (.iface 359 (.agg #[.pointer (some ⟨8,69,none⟩)])):=by
  rw[World.cell?_alloc_lt _ _ ⟨4,0,none⟩ (by simp<;>omega),World.cell?_alloc_lt _ _ ⟨4,0,none⟩ hlt];exact hg
 have tO:=Tryz.typeOfBytes
 have aL:=Tryz.assignableFullBytes
 have a1:=Tryz.noAsBytes
 have a2:=Tryz.noUnwrapBytes
 have a3:=Tryz.noUnwrapsBytes
 go_enter Tryz.func119,Tryz.ntmps119
 go_wp2
 refine wp_loop_rounds 1 ?_
 rw[rounds_succ]
 go_wp2
 go_ret
 exact⟨rfl,rfl⟩
theorem Tryz.setBytes (tb bb:Nat)(n:Int)(s:ByteArray)(o0 o1:Value)(W:World)(hb0:W.cell? ⟨bb,0,none⟩=some (.int .i64 n))(hb1:W.cell? ⟨bb,1,none⟩=some (.string s))(ht0:W.cell? ⟨tb,0,none⟩=some o0)(ht1:W.cell? ⟨tb,1,none⟩=some o1)(hf0:W.frozen? ⟨tb,0,none⟩=false)(hf1:W.frozen? ⟨tb,1,none⟩=false) :
  (ReflectliteValue.set #[.agg #[.pointer (some ⟨8,139,none⟩),.pointer (some ⟨tb,0,none⟩),.int .u64 409],.agg #[.pointer (some ⟨8,139,none⟩),.pointer (some ⟨bb,0,none⟩),.int .u64 153]]).run Tryz.prog W
   = .ok (.tuple #[]) ((W.setCell ⟨tb,0,none⟩ (.int .i64 n)).setCell ⟨tb,1,none⟩ (.string s)):=by
 have hl:(loadCells ⟨bb,0,none⟩ 2).run Tryz.prog W=.ok #[.int .i64 n,.string s] W:=by simp[loadCells,loadCellsFrom,hb0,hb1,Addr.add]
 have h1:(W.setCell ⟨tb,0,none⟩ (.int .i64 n)).cell? ⟨tb,1,none⟩=some o1:=(World.cell?_setCell_other W ⟨tb,0,none⟩ ⟨tb,1,none⟩ _ (fun e=>by cases e)).trans ht1
 have h2:(W.setCell ⟨tb,0,none⟩ (.int .i64 n)).frozen? ⟨tb,1,none⟩=false:=by simpa using hf1
 refine run_two (ReflectliteValue.parts (.agg #[.pointer (some ⟨8,139,none⟩),.pointer (some ⟨tb,0,none⟩),.int .u64 409])) (ReflectliteValue.parts (.agg #[.pointer (some ⟨8,139,none⟩),.pointer (some ⟨bb,0,none⟩),.int .u64 153])) rfl ?_
 simp only[Sem.run_bind,Tryz.partsLaBytes,Tryz.partsLBytes,Result.andThen]
 simp[ReflectliteValue.flagAddr,loadVar,isAgg,underlying,Tryz.underlying139,hl,Result.andThen,Tryz.directLBytes,storeVar,Value.cells,storeCells,Addr.add]
 rw[run_store Tryz.prog W _ _ _ (by rfl)]
 simp[ht0,hf0]
 rw[run_store Tryz.prog _ _ _ _ (by rfl)]
 simp[h1,h2]
theorem as_hitBytes (n:Int)(s:ByteArray)(tb:Nat)(o0 o1:Value)(w:World)(hg:w.cell? ⟨4,0,none⟩=some (.iface 359 (.agg #[.pointer (some ⟨8,69,none⟩)])))(ht0:w.cell? ⟨tb,0,none⟩=some o0)(ht1:w.cell? ⟨tb,1,none⟩=some o1)(hf0:w.frozen? ⟨tb,0,none⟩=false)(hf1:w.frozen? ⟨tb,1,none⟩=false) :
  Calls Tryz.prog 119 #[.iface 139 (.agg #[.int .i64 n,.string s]),.iface 215 (.pointer (some ⟨tb,0,none⟩))] w fun ev w'=>ev=.returned (.bool true)∧w'=(((((w.alloc (.cells #[.pointer (some ⟨tb,0,none⟩)] 215)).alloc (.cells #[.pointer (some ⟨8,215,none⟩),.pointer (some ⟨w.heap.size,0,none⟩),.int .u64 150] 306)).alloc (.cells #[.pointer (some ⟨8,215,none⟩),.pointer (some ⟨w.heap.size,0,none⟩),.int .u64 150] 306)).alloc (.cells #[.int .i64 n,.string s] 139)).setCell ⟨tb,0,none⟩ (.int .i64 n)).setCell ⟨tb,1,none⟩ (.string s):=by
 have x28:=@run_callFunc_extern Tryz.prog 190 _ (fun args=>ReflectliteValue.unpack (args.getD 0 (.tuple #[]))) Tryz.func190 (by kernel_rfl) (by kernel_rfl) (by kernel_rfl) (by kernel_rfl)
 have x29:=@run_callFunc_extern Tryz.prog 191 _ (ReflectliteValue.methodAny (ReflectliteValue.valueError "reflectlite.Value.Type" 0) (fun t _ _ _=>ReflectliteType.toType t)) Tryz.func191 (by kernel_rfl) (by kernel_rfl) (by kernel_rfl) (by kernel_rfl)
 have x30:=@run_callFunc_extern Tryz.prog 192 _ (ReflectliteValue.method (ReflectliteValue.valueError "reflectlite.Value.IsNil" 0) ReflectliteValue.isNil) Tryz.func192 (by kernel_rfl) (by kernel_rfl) (by kernel_rfl) (by kernel_rfl)
 have x70:=@run_callFunc_extern Tryz.prog 311 _ (ReflectliteType.abiMethod fun t=>do pure (.int .u8 (← Rtype.kind t))) Tryz.func311 (by kernel_rfl) (by kernel_rfl) (by kernel_rfl) (by kernel_rfl)
 have x83:=@run_callFunc_extern Tryz.prog 337 _ (ReflectliteType.method ReflectliteType.elem) Tryz.func337 (by kernel_rfl) (by kernel_rfl) (by kernel_rfl) (by kernel_rfl)
 have x84:=@run_callFunc_extern Tryz.prog 338 _ (ReflectliteType.relation "Implements" ReflectliteType.implements_) Tryz.func338 (by kernel_rfl) (by kernel_rfl) (by kernel_rfl) (by kernel_rfl)
 have x40:=@run_callFunc_extern Tryz.prog 235 _ ReflectliteType.typeOf Tryz.func235 (by kernel_rfl) (by kernel_rfl) (by kernel_rfl) (by kernel_rfl)
 have x81:=@run_callFunc_extern Tryz.prog 335 _ (ReflectliteType.relation "AssignableTo" ReflectliteType.assignableTo) Tryz.func335 (by kernel_rfl) (by kernel_rfl) (by kernel_rfl) (by kernel_rfl)
 have x41:=@run_callFunc_extern Tryz.prog 236 _ (ReflectliteValue.method (ReflectliteValue.valueError "reflectlite.Value.Elem" 0) ReflectliteValue.elem) Tryz.func236 (by kernel_rfl) (by kernel_rfl) (by kernel_rfl) (by kernel_rfl)
 have x42:=@run_callFunc_extern Tryz.prog 237 _ ReflectliteValue.set Tryz.func237 (by kernel_rfl) (by kernel_rfl) (by kernel_rfl) (by kernel_rfl)
 have f28:=Tryz.valueOfPBytes
 have f29:=Tryz.typePBytes
 have mK:=Tryz.methodKind
 have mE:=Tryz.methodElem
 have mI:=Tryz.methodImplements
 have mA:=Tryz.methodAssignableTo
 have kP:=Tryz.kindPBytes
 have kL:=Tryz.kindLBytes
 have eP:=Tryz.elemTPBytes
 have iL:=Tryz.implementsLBytes
 have hlt:4 < w.heap.size:=World.block_lt_of_cell? w ⟨4,0,none⟩ hg
 have n30:=Tryz.isNilPBytes ⟨w.heap.size,0,none⟩ ⟨tb,0,none⟩ ((w.alloc (.cells #[.pointer (some ⟨tb,0,none⟩)] 215)).alloc (.cells #[.pointer (some ⟨8,215,none⟩),.pointer (some ⟨w.heap.size,0,none⟩),.int .u64 150] 306)) (by simp)
 have hg2:((w.alloc (.cells #[.pointer (some ⟨tb,0,none⟩)] 215)).alloc (.cells #[.pointer (some ⟨8,215,none⟩),.pointer (some ⟨w.heap.size,0,none⟩),.int .u64 150] 306)).cell? ⟨4,0,none⟩=some (.iface 359 (.agg #[.pointer (some ⟨8,69,none⟩)])):=by
  rw[World.cell?_alloc_lt _ _ ⟨4,0,none⟩ (by simp<;>omega),World.cell?_alloc_lt _ _ ⟨4,0,none⟩ hlt];exact hg
 have tO:=Tryz.typeOfBytes
 have aL:=Tryz.assignableBytesBytes
 have vL:=Tryz.valueOfLBytes
 have htl:tb < w.heap.size:=World.block_lt_of_cell? w ⟨tb,0,none⟩ ht0
 have el:=Tryz.elemVPBytes ⟨w.heap.size,0,none⟩ ⟨tb,0,none⟩ (((w.alloc (.cells #[.pointer (some ⟨tb,0,none⟩)] 215)).alloc (.cells #[.pointer (some ⟨8,215,none⟩),.pointer (some ⟨w.heap.size,0,none⟩),.int .u64 150] 306)).alloc (.cells #[.pointer (some ⟨8,215,none⟩),.pointer (some ⟨w.heap.size,0,none⟩),.int .u64 150] 306)) (by rw[World.cell?_alloc_lt _ _ ⟨w.heap.size,0,none⟩ (by simp<;>omega)];simp)
 have st:=Tryz.setBytes tb (w.heap.size+1+1+1) n s o0 o1 ((((w.alloc (.cells #[.pointer (some ⟨tb,0,none⟩)] 215)).alloc (.cells #[.pointer (some ⟨8,215,none⟩),.pointer (some ⟨w.heap.size,0,none⟩),.int .u64 150] 306)).alloc (.cells #[.pointer (some ⟨8,215,none⟩),.pointer (some ⟨w.heap.size,0,none⟩),.int .u64 150] 306)).alloc (.cells #[.int .i64 n,.string s] 139))
  (by rw[World.cell?_alloc_at _ _ _ _ (by simp)];rfl)
  (by rw[World.cell?_alloc_at _ _ _ _ (by simp)];rfl)
  (by rw[World.cell?_alloc_lt _ _ ⟨tb,0,none⟩ (by simp<;>omega),World.cell?_alloc_lt _ _ ⟨tb,0,none⟩ (by simp<;>omega),World.cell?_alloc_lt _ _ ⟨tb,0,none⟩ (by simp<;>omega),World.cell?_alloc_lt _ _ ⟨tb,0,none⟩ htl];exact ht0)
  (by rw[World.cell?_alloc_lt _ _ ⟨tb,1,none⟩ (by simp<;>omega),World.cell?_alloc_lt _ _ ⟨tb,1,none⟩ (by simp<;>omega),World.cell?_alloc_lt _ _ ⟨tb,1,none⟩ (by simp<;>omega),World.cell?_alloc_lt _ _ ⟨tb,1,none⟩ htl];exact ht1)
  (by rw[World.frozen?_alloc_old _ _ ⟨tb,0,none⟩ (by simp<;>omega),World.frozen?_alloc_old _ _ ⟨tb,0,none⟩ (by simp<;>omega),World.frozen?_alloc_old _ _ ⟨tb,0,none⟩ (by simp<;>omega),World.frozen?_alloc_old _ _ ⟨tb,0,none⟩ (Nat.ne_of_lt htl)];exact hf0)
  (by rw[World.frozen?_alloc_old _ _ ⟨tb,1,none⟩ (by simp<;>omega),World.frozen?_alloc_old _ _ ⟨tb,1,none⟩ (by simp<;>omega),World.frozen?_alloc_old _ _ ⟨tb,1,none⟩ (by simp<;>omega),World.frozen?_alloc_old _ _ ⟨tb,1,none⟩ (Nat.ne_of_lt htl)];exact hf1)
 go_enter Tryz.func119,Tryz.ntmps119
 go_wp2
 refine wp_loop_rounds 1 ?_
 rw[rounds_succ]
 go_wp2
 go_ret
 exact⟨rfl,rfl⟩
theorem isLong_Bytes (v:Value)(w:World)(hg:ErrType w) :
  Calls Tryz.prog 63 #[.iface 139 v] w fun e w'=>e=.returned (.bool false)∧Below w.heap.size w w':=by
 have hA:=hid (fun o=>as_missLongBytes v ⟨w.heap.size,0,none⟩ (w.alloc o) (hg.alloc o))
 clear hg
 go_enter Tryz.func63,Tryz.ntmps63
 go_wp2_with (go_at_call 119;refine (hA.out _).mono ?_;rintro e w' ⟨rfl,hw⟩;have HW:=hid hw;clear hw)
 go_ret
 refine⟨rfl,?_⟩
 rw[HW.out]
 exact ((((Below.refl _ w).alloc (Nat.le_refl _) _).alloc (by simp) _).alloc (by simp<;>omega) _).alloc (by simp<;>omega) _
theorem isLate_Bytes (v:Value)(w:World)(hg:ErrType w) :
  Calls Tryz.prog 64 #[.iface 139 v] w fun e w'=>e=.returned (.bool false)∧Below w.heap.size w w':=by
 have hA:=hid (fun o=>as_missLateBytes v ⟨w.heap.size,0,none⟩ (w.alloc o) (hg.alloc o))
 clear hg
 go_enter Tryz.func64,Tryz.ntmps64
 go_wp2_with (go_at_call 119;refine (hA.out _).mono ?_;rintro e w' ⟨rfl,hw⟩;have HW:=hid hw;clear hw)
 go_ret
 refine⟨rfl,?_⟩
 rw[HW.out]
 exact ((((Below.refl _ w).alloc (Nat.le_refl _) _).alloc (by simp) _).alloc (by simp<;>omega) _).alloc (by simp<;>omega) _
theorem isFull_Bytes (v:Value)(w:World)(hg:ErrType w) :
  Calls Tryz.prog 65 #[.iface 139 v] w fun e w'=>e=.returned (.bool false)∧Below w.heap.size w w':=by
 have hA:=hid (fun o=>as_missFullBytes v ⟨w.heap.size,0,none⟩ (w.alloc o) (hg.alloc o))
 clear hg
 go_enter Tryz.func65,Tryz.ntmps65
 go_wp2_with (go_at_call 119;refine (hA.out _).mono ?_;rintro e w' ⟨rfl,hw⟩;have HW:=hid hw;clear hw)
 go_ret
 refine⟨rfl,?_⟩
 rw[HW.out]
 exact ((((Below.refl _ w).alloc (Nat.le_refl _) _).alloc (by simp) _).alloc (by simp<;>omega) _).alloc (by simp<;>omega) _
theorem isBytes_Bytes (n:Int)(s:ByteArray)(w:World)(hg:ErrType w) :
  Calls Tryz.prog 66 #[.iface 139 (.agg #[.int .i64 n,.string s])] w fun e w'=>e=.returned (.bool true)∧Below w.heap.size w w':=by
 have hA:=hid (as_hitBytes n s w.heap.size (.int .i64 0) (.string ⟨#[]⟩) (w.alloc (.cells #[.int .i64 0,.string ⟨#[]⟩] 139)) (hg.alloc _) (by simp) (by simp) (by simp) (by simp))
 clear hg
 go_enter Tryz.func66,Tryz.ntmps66
 go_wp2_with (go_at_call 119;refine hA.out.mono ?_;rintro e w' ⟨rfl,hw⟩;have HW:=hid hw;clear hw)
 go_ret
 refine⟨rfl,?_⟩
 rw[HW.out]
 exact (((((((Below.refl _ w).alloc (Nat.le_refl _) _).alloc (by simp) _).alloc (by simp<;>omega) _).alloc (by simp<;>omega) _).alloc (by simp<;>omega) _).setCell (Nat.le_refl _) _).setCell (Nat.le_refl _) _
theorem number_bytes (n:Int)(s:ByteArray)(w:World)(hg:ErrType w) :
  Calls Tryz.prog 33 #[.iface 139 (.agg #[.int .i64 n,.string s])] w fun e w'=>e=.returned (.int .i64 5)∧Below w.heap.size w w':=by
 have HG:=hid hg
 clear hg
 go_enter Tryz.func33,Tryz.ntmps33
 go_wp2_with (first
  | (go_at_call 63;refine (isLong_Bytes _ _ HG.out).mono ?_;rintro e w1 ⟨rfl,hw⟩;have HW1:=hid hw;have HG1:=hid (HG.out.below hw);clear hw)
  | (go_at_call 64;refine (isLate_Bytes _ _ HG1.out).mono ?_;rintro e w2 ⟨rfl,hw⟩;have HW2:=hid hw;have HG2:=hid (HG1.out.below hw);clear hw)
  | (go_at_call 65;refine (isFull_Bytes _ _ HG2.out).mono ?_;rintro e w3 ⟨rfl,hw⟩;have HW3:=hid hw;have HG3:=hid (HG2.out.below hw);clear hw)
  | (go_at_call 66;refine (isBytes_Bytes _ _ _ HG3.out).mono ?_;rintro e w4 ⟨rfl,hw⟩;have HW4:=hid hw;clear hw))
 go_ret
 exact⟨rfl,HW1.out.trans ((HW2.out.trans ((HW3.out.trans ((HW4.out).mono HW3.out.size)).mono HW2.out.size)).mono HW1.out.size)⟩
end Go.Proofs.YtfldcmdhneegmaaGreatDoor

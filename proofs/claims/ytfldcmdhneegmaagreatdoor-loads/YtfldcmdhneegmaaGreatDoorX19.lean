import Derived.Test.YtfldcmdhneegmaaGreatDoorX17
import Derived.Test.YtfldcmdhneegmaaGreatDoorX18
set_option maxHeartbeats 4000000
set_option maxRecDepth 1000000
namespace Go.Proofs.YtfldcmdhneegmaaGreatDoor
open Go.RowKit Go.Extern.Stop Go.Stop Go.Extern
theorem Tryz.typeOfSyntax (v:Value)(w:World):(ReflectliteType.typeOf #[.iface 238 v]).run Tryz.prog w=.ok (.iface 359 (.agg #[.pointer (some ⟨8,238,none⟩)])) w:=by kernel_rfl
theorem Tryz.noAsSyntax (v:Value)(x:TypeId)(w:World):(Instr.typeAssert (.iface 238 v) x 364 true).run Tryz.prog w=.ok (.tuple #[.nilIface,.bool false]) w:=run_typeAssert_lacksB Tryz.underlying364 (by kernel_rfl) (by kernel_rfl) v x w
theorem Tryz.noUnwrapSyntax (v:Value)(x:TypeId)(w:World):(Instr.typeAssert (.iface 238 v) x 367 true).run Tryz.prog w=.ok (.tuple #[.nilIface,.bool false]) w:=run_typeAssert_lacksB Tryz.underlying367 (by kernel_rfl) (by kernel_rfl) v x w
theorem Tryz.noUnwrapsSyntax (v:Value)(x:TypeId)(w:World):(Instr.typeAssert (.iface 238 v) x 369 true).run Tryz.prog w=.ok (.tuple #[.nilIface,.bool false]) w:=run_typeAssert_lacksB Tryz.underlying369 (by kernel_rfl) (by kernel_rfl) v x w
theorem Tryz.assignableLongSyntax (w:World):(ReflectliteType.relation "AssignableTo" ReflectliteType.assignableTo #[.agg #[.pointer (some ⟨8,238,none⟩)],.iface 359 (.agg #[.pointer (some ⟨8,133,none⟩)])]).run Tryz.prog w=.ok (.bool false) w:=by kernel_rfl
theorem Tryz.assignableLateSyntax (w:World):(ReflectliteType.relation "AssignableTo" ReflectliteType.assignableTo #[.agg #[.pointer (some ⟨8,238,none⟩)],.iface 359 (.agg #[.pointer (some ⟨8,135,none⟩)])]).run Tryz.prog w=.ok (.bool false) w:=by kernel_rfl
theorem Tryz.assignableFullSyntax (w:World):(ReflectliteType.relation "AssignableTo" ReflectliteType.assignableTo #[.agg #[.pointer (some ⟨8,238,none⟩)],.iface 359 (.agg #[.pointer (some ⟨8,137,none⟩)])]).run Tryz.prog w=.ok (.bool false) w:=by kernel_rfl
theorem Tryz.assignableBytesSyntax (w:World):(ReflectliteType.relation "AssignableTo" ReflectliteType.assignableTo #[.agg #[.pointer (some ⟨8,238,none⟩)],.iface 359 (.agg #[.pointer (some ⟨8,139,none⟩)])]).run Tryz.prog w=.ok (.bool false) w:=by kernel_rfl
theorem Tryz.assignableFaultSyntax (w:World):(ReflectliteType.relation "AssignableTo" ReflectliteType.assignableTo #[.agg #[.pointer (some ⟨8,238,none⟩)],.iface 359 (.agg #[.pointer (some ⟨8,141,none⟩)])]).run Tryz.prog w=.ok (.bool false) w:=by kernel_rfl
theorem Tryz.assignableOtherSyntax (w:World):(ReflectliteType.relation "AssignableTo" ReflectliteType.assignableTo #[.agg #[.pointer (some ⟨8,238,none⟩)],.iface 359 (.agg #[.pointer (some ⟨8,144,none⟩)])]).run Tryz.prog w=.ok (.bool false) w:=by kernel_rfl
theorem Tryz.setLong (ta b:Addr)(n:Int)(old:Value)(W:World)(hb:W.cell? b=some (.int .i64 n))(ht:W.cell? ta=some old)(hf:W.frozen? ta=false) :
  (ReflectliteValue.set #[.agg #[.pointer (some ⟨8,133,none⟩),.pointer (some ta),.int .u64 409],.agg #[.pointer (some ⟨8,133,none⟩),.pointer (some b),.int .u64 153]]).run Tryz.prog W
   = .ok (.tuple #[]) (W.setCell ta (.int .i64 n)):=by
 have hl:(loadCells b 1).run Tryz.prog W=.ok #[.int .i64 n] W:=by simp[loadCells,loadCellsFrom,hb,Addr.add]
 refine run_two (ReflectliteValue.parts (.agg #[.pointer (some ⟨8,133,none⟩),.pointer (some ta),.int .u64 409])) (ReflectliteValue.parts (.agg #[.pointer (some ⟨8,133,none⟩),.pointer (some b),.int .u64 153])) rfl ?_
 simp only[Sem.run_bind,Tryz.partsLaLong,Tryz.partsLLong,Result.andThen]
 simp[ReflectliteValue.flagAddr,loadVar,isAgg,underlying,Tryz.underlying133,hl,Result.andThen,Tryz.directLLong,storeVar,Value.cells,storeCells,Addr.add]
 rw[run_store Tryz.prog W ta _ _ (by rfl)]
 simp[ht,hf]
end Go.Proofs.YtfldcmdhneegmaaGreatDoor
namespace Go.Proofs.YtfldcmdhneegmaaGreatDoor
open Go.RowKit Go.Lib
structure EnvG (w:World):Prop where
 letters:Letters w
 err:ErrType w
theorem EnvG.below {w w':World}(h:EnvG w)(hb:Below w.heap.size w w'):EnvG w' where
 letters:=fun c W h1 h2 h3=>h.letters c W h1 h2 (hb.trans (h3.mono hb.size))
 err:=h.err.below hb
structure SNewAt (w w':World)(sb eb:Nat)(v:Value)(l:List (Int × Bool))(win:Int):Prop where
 blk:w'.heap[sb]?=some (.cells #[.pointer (some ⟨eb,0,none⟩)] 74 (0,0))
 eng:w'.heap[eb]?=some (.cells #[v,.int .i64 win,.int .i64 (-9223372036854775808),.int .i64 0,.slice none 0 0,.slice none 0 0] 159 (0,0))
 own:w'.ownsRow w.heap.size 225 2 v l.length (stepCells l)
 lsb:w.heap.size≤sb
 leb:w.heap.size≤eb
 ne:sb≠eb
 bel:Below w.heap.size w w'
def SNewEnd (s:ByteArray)(w:World)(e:Ending)(w':World):Prop:=
 if 60 < s.size then e=.returned (.tuple #[.pointer none,.int .i64 1])∧Below w.heap.size w w' else match Pl.parse s with
  | none=>e=.returned (.tuple #[.pointer none,.int .i64 2])∧Below w.heap.size w w'
  | some (l,win)=>∃sb eb v,e=.returned (.tuple #[.pointer (some ⟨sb,0,none⟩),.int .i64 0])∧SNewAt w w' sb eb v l win
end Go.Proofs.YtfldcmdhneegmaaGreatDoor

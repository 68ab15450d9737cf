import Derived.Test.YtfldcmdhneegmaaGreatDoorX15
set_option maxHeartbeats 4000000
set_option maxRecDepth 1000000
namespace Go.Proofs.YtfldcmdhneegmaaGreatDoor
open Go.RowKit Go.Extern.Stop Go.Stop Go.Extern
theorem Tryz.setLate (tb bb:Nat)(n m:Int)(o0 o1:Value)(W:World)(hb0:W.cell? ⟨bb,0,none⟩=some (.int .i64 n))(hb1:W.cell? ⟨bb,1,none⟩=some (.int .i64 m))(ht0:W.cell? ⟨tb,0,none⟩=some o0)(ht1:W.cell? ⟨tb,1,none⟩=some o1)(hf0:W.frozen? ⟨tb,0,none⟩=false)(hf1:W.frozen? ⟨tb,1,none⟩=false) :
  (ReflectliteValue.set #[.agg #[.pointer (some ⟨8,135,none⟩),.pointer (some ⟨tb,0,none⟩),.int .u64 409],.agg #[.pointer (some ⟨8,135,none⟩),.pointer (some ⟨bb,0,none⟩),.int .u64 153]]).run Tryz.prog W
   = .ok (.tuple #[]) ((W.setCell ⟨tb,0,none⟩ (.int .i64 n)).setCell ⟨tb,1,none⟩ (.int .i64 m)):=by
 have hl:(loadCells ⟨bb,0,none⟩ 2).run Tryz.prog W=.ok #[.int .i64 n,.int .i64 m] W:=by simp[loadCells,loadCellsFrom,hb0,hb1,Addr.add]
 have h1:(W.setCell ⟨tb,0,none⟩ (.int .i64 n)).cell? ⟨tb,1,none⟩=some o1:=(World.cell?_setCell_other W ⟨tb,0,none⟩ ⟨tb,1,none⟩ _ (fun e=>by cases e)).trans ht1
 have h2:(W.setCell ⟨tb,0,none⟩ (.int .i64 n)).frozen? ⟨tb,1,none⟩=false:=by simpa using hf1
 refine run_two (ReflectliteValue.parts (.agg #[.pointer (some ⟨8,135,none⟩),.pointer (some ⟨tb,0,none⟩),.int .u64 409])) (ReflectliteValue.parts (.agg #[.pointer (some ⟨8,135,none⟩),.pointer (some ⟨bb,0,none⟩),.int .u64 153])) rfl ?_
 simp only[Sem.run_bind,Tryz.partsLaLate,Tryz.partsLLate,Result.andThen]
 simp[ReflectliteValue.flagAddr,loadVar,isAgg,underlying,Tryz.underlying135,hl,Result.andThen,Tryz.directLLate,storeVar,Value.cells,storeCells,Addr.add]
 rw[run_store Tryz.prog W _ _ _ (by rfl)]
 simp[ht0,hf0]
 rw[run_store Tryz.prog _ _ _ _ (by rfl)]
 simp[h1,h2]
theorem Tryz.setFull (tb bb:Nat)(s:ByteArray)(m:Int)(o0 o1:Value)(W:World)(hb0:W.cell? ⟨bb,0,none⟩=some (.string s))(hb1:W.cell? ⟨bb,1,none⟩=some (.int .i64 m))(ht0:W.cell? ⟨tb,0,none⟩=some o0)(ht1:W.cell? ⟨tb,1,none⟩=some o1)(hf0:W.frozen? ⟨tb,0,none⟩=false)(hf1:W.frozen? ⟨tb,1,none⟩=false) :
  (ReflectliteValue.set #[.agg #[.pointer (some ⟨8,137,none⟩),.pointer (some ⟨tb,0,none⟩),.int .u64 409],.agg #[.pointer (some ⟨8,137,none⟩),.pointer (some ⟨bb,0,none⟩),.int .u64 153]]).run Tryz.prog W
   = .ok (.tuple #[]) ((W.setCell ⟨tb,0,none⟩ (.string s)).setCell ⟨tb,1,none⟩ (.int .i64 m)):=by
 have hl:(loadCells ⟨bb,0,none⟩ 2).run Tryz.prog W=.ok #[.string s,.int .i64 m] W:=by simp[loadCells,loadCellsFrom,hb0,hb1,Addr.add]
 have h1:(W.setCell ⟨tb,0,none⟩ (.string s)).cell? ⟨tb,1,none⟩=some o1:=(World.cell?_setCell_other W ⟨tb,0,none⟩ ⟨tb,1,none⟩ _ (fun e=>by cases e)).trans ht1
 have h2:(W.setCell ⟨tb,0,none⟩ (.string s)).frozen? ⟨tb,1,none⟩=false:=by simpa using hf1
 refine run_two (ReflectliteValue.parts (.agg #[.pointer (some ⟨8,137,none⟩),.pointer (some ⟨tb,0,none⟩),.int .u64 409])) (ReflectliteValue.parts (.agg #[.pointer (some ⟨8,137,none⟩),.pointer (some ⟨bb,0,none⟩),.int .u64 153])) rfl ?_
 simp only[Sem.run_bind,Tryz.partsLaFull,Tryz.partsLFull,Result.andThen]
 simp[ReflectliteValue.flagAddr,loadVar,isAgg,underlying,Tryz.underlying137,hl,Result.andThen,Tryz.directLFull,storeVar,Value.cells,storeCells,Addr.add]
 rw[run_store Tryz.prog W _ _ _ (by rfl)]
 simp[ht0,hf0]
 rw[run_store Tryz.prog _ _ _ _ (by rfl)]
 simp[h1,h2]
end Go.Proofs.YtfldcmdhneegmaaGreatDoor

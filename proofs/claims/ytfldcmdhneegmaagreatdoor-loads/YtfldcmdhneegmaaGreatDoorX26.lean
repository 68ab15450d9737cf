import Derived.Test.YtfldcmdhneegmaaGreatDoorX19
import Derived.Test.YtfldcmdhneegmaaGreatDoorRows
import Derived.LaidHandle
import Derived.Stop.LaidErr
import Derived.Stop.Joined
import Derived.Lib.LaidRTab
import Derived.PinnedBridge
import Derived.SizedLaws
import Derived.Lib.LaidU8T
import Derived.Test.YtfldcmdhneegmaaGreatDoorX25
set_option maxHeartbeats 4000000
set_option maxRecDepth 1000000
namespace Go.Proofs.YtfldcmdhneegmaaGreatDoor
open Go.RowKit Go.Lib Go.Shelf
theorem Tryz.own:ownKnob Tryz.prog.godebug=none:=by kernel_rfl
theorem Tryz.gErr:Tryz.prog.globalNamed "errors.errorType" = some 4:=by kernel_rfl
theorem Tryz.rt:(Tryz.prog.cutTypes.find? (·.1 == "internal/reflectlite.rtype")).map (·.2)=some 359:=by kernel_rfl
theorem Tryz.oneRow:((List.range 452).filter fun t=>Tryz.prog.rowNamed t [101,114,114,111,114])=[69]:=by kernel_rfl
theorem Tryz.typesSize:Tryz.prog.types.size=452:=by kernel_rfl
theorem Tryz.xL:RExtra Tryz.prog Tryz.lays200_ren:=⟨by kernel_rfl,by kernel_rfl,by kernel_rfl,by kernel_rfl,by kernel_rfl,by kernel_rfl,by kernel_rfl,by kernel_rfl⟩
theorem Tryz.cellsU8:Tryz.prog.cellsOf 5=1:=by kernel_rfl
theorem Tryz.cellsProps:Tryz.prog.cellsOf 184=256:=by kernel_rfl
theorem err_of_handles {W:World}(h:handlesMet Tryz.prog [("errors.errorType",Rows.laid_errors_errorType)] W):ErrType W:=by
 obtain⟨name,u,ty,e1,e2,e3,e4,e5⟩:=h _ (List.mem_singleton.2 rfl)
 have en:name=[101,114,114,111,114]:=(Option.some.inj e1).symm
 subst en
 obtain rfl:=Option.some.inj (Tryz.rt.symm.trans e2)
 have hm:ty∈(List.range 452).filter fun t=>Tryz.prog.rowNamed t [101,114,114,111,114]:=List.mem_filter.2 ⟨List.mem_range.2 (by rw[← Tryz.typesSize];exact e3),e4⟩
 rw[Tryz.oneRow] at hm
 obtain rfl:=List.mem_singleton.1 hm
 have hh:typeHandle Tryz.prog 69=.pointer (some ⟨8,69,none⟩):=by kernel_rfl
 rw[hh] at e5
 have h0:=World.var?_cell Tryz.gErr e5 0
 unfold ErrType
 simpa using h0
theorem props_eq:Rows.laid_unicode_properties=(tabData .u8 propertiesTab:DataW Unit):=by kernel_rfl
theorem props_of_head {W:World}{rest:List (String × DataW Unit)}(h:laidMet Tryz.prog (("unicode.properties",Rows.laid_unicode_properties)::rest) W):TabIs Tryz.prog W "unicode.properties" .u8 propertiesTab:=
 tabIs_of_head (g:=0) (t:=184) (e:=5) (zs:=propertiesTab) (by kernel_rfl) (by kernel_rfl) Tryz.underlying184 Tryz.underlying5 Tryz.cellsU8 Tryz.cellsProps (by rw[← props_eq];exact h)
theorem letter_of_reads {W:World}(h:VarReads Tryz.prog W "unicode.Letter" Rows.laid_unicode_Letter):RVar 1 letterT W:=by
 have h':VarReads Tryz.prog W "unicode.Letter" (rtabData letterT):=by rw[← Pinned.letter_eq];exact h
 exact rvar_of_reads { Tryz.lays200 with } Tryz.xL (by kernel_rfl) (by kernel_rfl) h'
theorem letters_of {W:World}(hp:TabIs Tryz.prog W "unicode.properties" .u8 propertiesTab)(hv:RVar 1 letterT W):Letters W:=
 fun c W' h1 h2 hb=>Tryz.unicode_IsLetter_all c W' h1 h2 (TabIs_below (g:=0) (by kernel_rfl) hp hb) (RVar_below hv hb)
def putVar (h:Array Obj)(g:Nat)(cs:Array Value):Array Obj:=h.modify g fun
 | .cells _ t frozen=>.cells cs t frozen
 | o=>o
def letterBlocks (N:Nat):Array Obj:=#[
 .cells (rgCells .u16 letterT.r16) 262,.cells (rgCells .u32 letterT.r32) 265,
 .cells #[.slice (some ⟨N,0,none⟩) letterT.r16.size letterT.r16.size,.slice (some ⟨N+1,0,none⟩) letterT.r32.size letterT.r32.size,.int .i64 letterT.off] 259]
def layAll (N:Nat)(w:World):World:=
 let h0:=putVar w.heap 0 (propertiesTab.map fun z=>Value.int .u8 z).toArray
 let h1:=putVar h0 1 #[.pointer (some ⟨N+2,0,none⟩)]
 let h2:=putVar h1 4 #[.iface 359 (.agg #[.pointer (some ⟨8,69,none⟩)])]
 let h3:=putVar h2 2 (firstTab.map fun z=>Value.int .u8 z).toArray
 let h4:=putVar h3 3 ((List.range 16).flatMap fun i=>[Value.int .u8 (accLo i),Value.int .u8 (accHi i)]).toArray
 let h5:=putVar h4 5 (pow10Tab.map fun z=>Value.int .u64 z).toArray
 let h6:=putVar h5 6 #[.int .u8 0,.int .u8 1,.int .u8 28,.int .u8 2,.int .u8 29,.int .u8 14,.int .u8 24,.int .u8 3,.int .u8 30,.int .u8 22,.int .u8 20,.int .u8 15,.int .u8 25,.int .u8 17,.int .u8 4,.int .u8 8,.int .u8 31,.int .u8 27,.int .u8 13,.int .u8 23,.int .u8 21,.int .u8 19,.int .u8 16,.int .u8 7,.int .u8 26,.int .u8 12,.int .u8 18,.int .u8 6,.int .u8 11,.int .u8 5,.int .u8 10,.int .u8 9]
 let h7:=putVar h6 7 #[.int .u8 0,.int .u8 1,.int .u8 56,.int .u8 2,.int .u8 57,.int .u8 49,.int .u8 28,.int .u8 3,.int .u8 61,.int .u8 58,.int .u8 42,.int .u8 50,.int .u8 38,.int .u8 29,.int .u8 17,.int .u8 4,.int .u8 62,.int .u8 47,.int .u8 59,.int .u8 36,.int .u8 45,.int .u8 43,.int .u8 51,.int .u8 22,.int .u8 53,.int .u8 39,.int .u8 33,.int .u8 30,.int .u8 24,.int .u8 18,.int .u8 12,.int .u8 5,.int .u8 63,.int .u8 55,.int .u8 48,.int .u8 27,.int .u8 60,.int .u8 41,.int .u8 37,.int .u8 16,.int .u8 46,.int .u8 35,.int .u8 44,.int .u8 21,.int .u8 52,.int .u8 32,.int .u8 23,.int .u8 11,.int .u8 54,.int .u8 26,.int .u8 40,.int .u8 15,.int .u8 34,.int .u8 20,.int .u8 31,.int .u8 10,.int .u8 25,.int .u8 14,.int .u8 19,.int .u8 9,.int .u8 13,.int .u8 8,.int .u8 7,.int .u8 6]
 { w with heap:=h7 }
theorem Tryz.cellsU64:Tryz.prog.cellsOf 80=1:=by kernel_rfl
theorem Tryz.cellsPow:Tryz.prog.cellsOf 400=20:=by kernel_rfl
theorem pow_eq:Rows.laid_internal_strconv_uint64pow10=(tabData .u64 pow10Tab:DataW Unit):=by kernel_rfl
theorem pow_of_head {W:World}{rest:List (String × DataW Unit)}(h:laidMet Tryz.prog (("internal/strconv.uint64pow10",Rows.laid_internal_strconv_uint64pow10)::rest) W):Pow10 W:=
 tabIs_of_head (g:=5) (t:=400) (e:=80) (zs:=pow10Tab) (by kernel_rfl) (by kernel_rfl) Tryz.underlying400 Tryz.underlying80 Tryz.cellsU64 Tryz.cellsPow (by rw[← pow_eq];exact h)
end Go.Proofs.YtfldcmdhneegmaaGreatDoor

import Derived.ProofKit
import Derived.OpenShut
import Derived.Deep.Slices
import Derived.Test.YtfldcmdhneegmaaGreatDoorY48
import Derived.Deep.DeepHandedRow
import Derived.Deep.DeepWitnessRowRef
import Derived.Carry
set_option maxHeartbeats 4000000
set_option maxRecDepth 1000000
namespace Go.Proofs.YtfldcmdhneegmaaGreatDoor
open Go.ChangeShapes Go.WideShapes Go.RowKit Go.Lib Go.Deep
theorem list_four {α:Type}{l:List α}(h:l.length=4):∃a b c d,l=[a,b,c,d]:=by
 match l,h with
 | [a,b,c,d],_=>exact⟨a,b,c,d,rfl⟩
theorem Tryz.cellsOp:Tryz.prog.cellsOf 65=4:=by kernel_rfl
theorem Tryz.cellsOi:Tryz.prog.cellsOf 3=1:=by kernel_rfl
theorem Tryz.cellsOb:Tryz.prog.cellsOf 4=1:=by kernel_rfl
theorem Tryz.cellsOr:Tryz.prog.cellsOf 21=1:=by kernel_rfl
theorem Tryz.cellsOl:Tryz.prog.cellsOf 2=1:=by kernel_rfl
theorem op_cells {H:Type}{enc:TypeId × Value→H}{W:World}{n:Nat}{cs:List Value}{x:DataW H × List MemPlace}(h:DataW.trod enc Tryz.prog W 0 (fun _=>true) true n 65 cs=some x) :
  ∃y:OpV,cs=[.int .i64 y.1,.bool y.2.1,.int .i32 y.2.2.1,.int .i64 y.2.2.2]∧y.2.2.2≤9223372036854775807:=by
 obtain⟨xs,k,-,-,hl,hxl,hf⟩:=DataW.trod_struct Tryz.underlying65 h
 rw[Tryz.cellsOp] at hl
 obtain⟨v0,v1,v2,v3,rfl⟩:=list_four hl
 obtain⟨y0,y1,y2,y3,rfl⟩:=list_four (l:=xs) (by rw[hxl];rfl)
 have g0:DataW.trod enc Tryz.prog W 0 (fun _=>true) true k 3 [v0]=some y0:=by
  have:=hf 0 _ rfl
  simpa [Tryz.cellsOi] using this
 have g1:DataW.trod enc Tryz.prog W 0 (fun _=>true) true k 4 [v1]=some y1:=by
  have:=hf 1 _ rfl
  simpa [Tryz.cellsOb] using this
 have g2:DataW.trod enc Tryz.prog W 0 (fun _=>true) true k 21 [v2]=some y2:=by
  have:=hf 2 _ rfl
  simpa [Tryz.cellsOr] using this
 have g3:DataW.trod enc Tryz.prog W 0 (fun _=>true) true k 2 [v3]=some y3:=by
  have:=hf 3 _ rfl
  simpa [Tryz.cellsOl] using this
 obtain⟨n0,e0,-,-⟩:=DataW.trod_int Tryz.underlying3 g0
 obtain⟨n1,e1,-⟩:=DataW.trod_bool Tryz.underlying4 g1
 obtain⟨n2,e2,-,-⟩:=DataW.trod_int Tryz.underlying21 g2
 obtain⟨n3,e3,-,w3⟩:=DataW.trod_int Tryz.underlying2 g3
 simp only[List.cons.injEq,and_true] at e0 e1 e2 e3
 subst e0 e1 e2 e3
 refine⟨(n0,n1,n2,n3),rfl,?_⟩
 have e:IntKind.i64.max=9223372036854775807:=by rfl
 simp[Lit.wf] at w3
 show n3≤_
 rw[← e]
 exact w3.2
theorem ops_in {H:Type}{enc:TypeId × Value→H}{W:World}{a0:Option Addr}{len cap:Nat}{d:DataW H}{ps:List MemPlace}(h:DataW.Trod enc Tryz.prog W 0 (fun _=>true) true 22 (.slice a0 len cap) d ps) :
  ∃l:List OpV,l.length=len∧OpsIn W (.slice a0 len cap) l∧∀x∈l,x.2.2.2≤9223372036854775807:=by
 obtain⟨fuel,hf⟩:=h
 rcases open_slice Tryz.underlying22 hf with ⟨hcs,hx⟩ | ⟨a,len',cap',m,n,D,Pl,hcs,-,hl,hm,hmm,hx,hall⟩
 ·simp[Value.cells] at hcs
  obtain⟨rfl,rfl,rfl⟩:=hcs
  exact⟨[],rfl,⟨⟨_,_,rfl⟩,fun i hi=>by simp at hi⟩,by simp⟩
 ·simp[Value.cells] at hcs
  obtain⟨rfl,rfl,rfl⟩:=hcs
  simp only[if_true] at hmm
  subst hmm
  rw[Tryz.cellsOp] at hall
  have each:∀i,i < len→∃y:OpV,(W.cell? (a.add (i * 4))=some (.int .i64 y.1)∧W.cell? (a.add (i * 4+1))=some (.bool y.2.1)∧W.cell? (a.add (i * 4+2))=some (.int .i32 y.2.2.1)∧W.cell? (a.add (i * 4+3))=some (.int .i64 y.2.2.2))∧y.2.2.2≤9223372036854775807:=fun i hi=>by
   obtain⟨cs',k1,k2⟩:=hall i (by omega)
   obtain⟨y,rfl,hy⟩:=op_cells k2
   obtain⟨-,-,hc⟩:=World.cells?_some k1
   have e0:=hc 0 (by omega)
   have e1:=hc 1 (by omega)
   have e2:=hc 2 (by omega)
   have e3:=hc 3 (by omega)
   rw[add_add] at e0 e1 e2 e3
   exact⟨y,⟨by simpa using e0,by simpa using e1,by simpa using e2,by simpa using e3⟩,hy⟩
  obtain⟨f,hf⟩:=choose_lt each
  refine⟨(List.range len).map f,by simp,⟨⟨some a,m,by simp⟩,fun i hi=>?_⟩,fun x hx=>?_⟩
  ·have hi':i < len:=by simpa using hi
   obtain⟨⟨c0,c1,c2,c3⟩,-⟩:=hf i hi'
   obtain⟨b,off,spot⟩:=a
   have hspot:spot=none:=by
    have:=World.cell?_spot (hf 0 (by omega)).1.1
    simpa [Addr.add] using this
   subst hspot
   have hb:b < W.heap.size:=World.block_lt_of_cell? W _ (by rw[Go.WideShapes.add_plain] at c0;exact c0)
   rw[Go.WideShapes.add_plain] at c0 c1 c2 c3
   refine⟨b,off,m,by simp,hb,?_⟩
   simp only[List.getElem_map,List.getElem_range]
   exact⟨c0,by rw[← Nat.add_assoc] at c1;exact c1,by rw[← Nat.add_assoc] at c2;exact c2,by rw[← Nat.add_assoc] at c3;exact c3⟩
  ·obtain⟨i,hi,rfl⟩:=List.mem_map.1 hx
   exact (hf i (by simpa using hi)).2
end Go.Proofs.YtfldcmdhneegmaaGreatDoor
namespace Go.Proofs.YtfldcmdhneegmaaGreatDoor
open Go.ChangeShapes Go.WideShapes Go.ChangeAt Go.RowKit Go.Lib Go.Shelf
open Go.ChangeMaps (open_string shut_string)
theorem Tryz.laidOutS:laidOutB Tryz.prog=true:=by kernel_rfl
theorem env_saves {W:World}(h:laidMetH Tryz.prog Rows.savesRow.laid W):EnvS W∧Pow10 W:=by
 obtain⟨h1,h2⟩:=h
 exact⟨env_list h1 h2,pow_of_head h1.tail.tail⟩
theorem saves_contract (H:Type)(enc:TypeId × Value→H)(W:World)(base:Nat)(args:Array Value)(ds gs:List (DataW H))(before:List MemPlace)
  (hval:∀(j:Nat) t v,Tryz.f4.params[j]?=some t→args[j]?=some v→Value.okWide Tryz.prog W .any base t v)
  (hW:DataW.Whole enc Tryz.prog Tryz.f4.params.toList Rows.savesSpec.vars false W args.toList ds gs before) (hL:laidMetH Tryz.prog Rows.savesRow.laid W) :
  Calls Tryz.prog 4 args W fun e W'=>∃v,e=.returned v∧Rows.savesSpec.post enc Tryz.prog Tryz.f4 false true false false W args v W':=by
 have hW':=hW
 obtain⟨p,q,hA0,hV,rfl,hfz,hnd⟩:=hW
 have hA:DataW.TrodAll enc Tryz.prog W 0 (fun _=>true) true Tryz.f4.params.toList args.toList ds p:=hA0
 rw[Tryz.params4] at hA hval
 obtain⟨v0,v1,v2,d0,d1,d2,p0,p1,p2,rfl,rfl,rfl,h0,h1,h2⟩:=trodAll_three hA
 obtain⟨rfl,rfl⟩:=trodVars_none hV
 obtain⟨s,rfl,rfl,rfl,ws⟩:=open_string Tryz.underlying9 (hval 0 9 v0 rfl rfl) h0
 obtain⟨s',rfl,rfl,rfl,ws'⟩:=open_string Tryz.underlying9 (hval 1 9 v1 rfl rfl) h1
 obtain⟨a0,len,cap,rfl⟩:=okWide_slice Tryz.underlying22 (hval 2 22 v2 rfl rfl)
 have hlt:∀x∈p2,x.block < W.heap.size:=fun x hx=>by
  have:=hW'.lt x (by simp[hx])
  simpa using this
 obtain⟨l,hlen,hl,ht⟩:=ops_in h2
 clear hA0 hV hval
 have hm:s.size≤9223372036854775807:=by
  have h:=ws
  unfold maxLen at h
  omega
 have hm':s'.size≤9223372036854775807:=by
  have h:=ws'
  unfold maxLen at h
  omega
 subst hlen
 refine (saves_any s s' a0 cap l W (env_saves hL).1 (env_saves hL).2 hm hm' hl ht).mono ?_
 rintro e W' ⟨rfl,bel⟩
 have e1:Rows.savesSpec.fn H ([.lit (.string s.data.toList),.lit (.string s'.data.toList),d2]++[])={ results:=[.lit (.bool true)],args:=[.lit (.string s.data.toList),.lit (.string s'.data.toList),d2] }:=rfl
 refine⟨_,rfl,_,_,_,[],[]++([]++p2),[],hW',?_,?_,?_,bel.frame _,fun h=>by cases h⟩
 ·rw[e1];exact trodAll_mk1 (shut_bool Tryz.underlying4 true)
 ·rw[e1];exact trodAll_mk3 (shut_string Tryz.underlying9 ws) (shut_string Tryz.underlying9 ws') (Below.trod Tryz.laidOutS (by kernel_rfl) (of_decide_eq_true (by kernel_rfl)) h2 bel hlt)
 ·rw[e1];rfl
theorem saves_letter (os:Os):LaidIn Tryz.prog ((layAll (World.settled Tryz.prog os).heap.size (World.holding Tryz.prog os ⟨letterBlocks (World.settled Tryz.prog os).heap.size,#[],[]⟩)).forCall (fun _ _=>0) ⟨#[],#[.string ⟨#[]⟩,.string ⟨#[]⟩,.slice none 0 0],[]⟩).memory [("unicode.Letter",rtabData letterT)] [1,(World.settled Tryz.prog default).heap.size+2,(World.settled Tryz.prog default).heap.size,(World.settled Tryz.prog default).heap.size+1]:=
 laidIn_rtab (ρ:=Tryz.lays200_ren) { Tryz.lays200 with } Tryz.xL (by kernel_rfl) (by kernel_rfl) letterT ((World.settled Tryz.prog default).heap.size+2) (World.settled Tryz.prog default).heap.size ((World.settled Tryz.prog default).heap.size+1) 262 265
  (by kernel_rfl) (by kernel_rfl) (by kernel_rfl) (by kernel_rfl) (by kernel_rfl) (of_decide_eq_true (by kernel_rfl)) (of_decide_eq_true (by kernel_rfl)) (of_decide_eq_true (by kernel_rfl))
theorem saves_five (os:Os):LaidIn Tryz.prog ((layAll (World.settled Tryz.prog os).heap.size (World.holding Tryz.prog os ⟨letterBlocks (World.settled Tryz.prog os).heap.size,#[],[]⟩)).forCall (fun _ _=>0) ⟨#[],#[.string ⟨#[]⟩,.string ⟨#[]⟩,.slice none 0 0],[]⟩).memory [("math/bits.deBruijn32tab",Rows.laid_math_bits_deBruijn32tab),("math/bits.deBruijn64tab",Rows.laid_math_bits_deBruijn64tab),("internal/strconv.uint64pow10",Rows.laid_internal_strconv_uint64pow10),("unicode/utf8.acceptRanges",Rows.laid_unicode_utf8_acceptRanges),("unicode.properties",Rows.laid_unicode_properties)] [6,7,5,3,0]:=
 LaidIn.of_run [6,7,5,3,0] 8 (by kernel_rfl) (by kernel_rfl) (by kernel_rfl) (by kernel_rfl)
theorem saves_first (os:Os):LaidIn Tryz.prog ((layAll (World.settled Tryz.prog os).heap.size (World.holding Tryz.prog os ⟨letterBlocks (World.settled Tryz.prog os).heap.size,#[],[]⟩)).forCall (fun _ _=>0) ⟨#[],#[.string ⟨#[]⟩,.string ⟨#[]⟩,.slice none 0 0],[]⟩).memory [("unicode/utf8.first",Rows.laid_unicode_utf8_first)] [2]:=
 LaidIn.of_run [2] 8 (by kernel_rfl) (by kernel_rfl) (by kernel_rfl) (by kernel_rfl)
theorem saves_met (os:Os):laidMetH Tryz.prog Rows.savesRow.laid ((layAll (World.settled Tryz.prog os).heap.size (World.holding Tryz.prog os ⟨letterBlocks (World.settled Tryz.prog os).heap.size,#[],[]⟩)).forCall (fun _ _=>0) ⟨#[],#[.string ⟨#[]⟩,.string ⟨#[]⟩,.slice none 0 0],[]⟩).memory:=by
 refine laidMetH_of_parts ?_ (by kernel_rfl)
 have h:=(((saves_five os).append (saves_letter os) (by kernel_rfl)).append (saves_first os) (by kernel_rfl)).met
 rw[← Pinned.letter_eq] at h
 exact h
theorem saves_witness (os:Os){H:Type}(enc:TypeId × Value→H) :
  (OpenSpec.ofChange Rows.savesSpec).preRow enc Tryz.prog Tryz.f4 Rows.savesRow.domain false Rows.savesRow.laid ((layAll (World.settled Tryz.prog os).heap.size (World.holding Tryz.prog os ⟨letterBlocks (World.settled Tryz.prog os).heap.size,#[],[]⟩)).forCall (fun _ _=>0) ⟨#[],#[.string ⟨#[]⟩,.string ⟨#[]⟩,.slice none 0 0],[]⟩).memory #[.string ⟨#[]⟩,.string ⟨#[]⟩,.slice none 0 0]:=by
 have hw:(DataW.whole enc Tryz.prog ((layAll (World.settled Tryz.prog os).heap.size (World.holding Tryz.prog os ⟨letterBlocks (World.settled Tryz.prog os).heap.size,#[],[]⟩)).forCall (fun _ _=>0) ⟨#[],#[.string ⟨#[]⟩,.string ⟨#[]⟩,.slice none 0 0],[]⟩).memory Tryz.f4.params.toList Rows.savesSpec.vars false #[Value.string ⟨#[]⟩,Value.string ⟨#[]⟩,Value.slice none 0 0].toList 8).map (fun x=>(x.1,x.2.1))=some ([.lit (.string []),.lit (.string []),.nil],[]):=by kernel_rfl
 obtain⟨⟨x1,x2,x3⟩,hx,hx1⟩:=Option.map_eq_some_iff.1 hw
 simp only[Prod.mk.injEq] at hx1
 obtain⟨rfl,rfl⟩:=hx1
 exact OpenSpec.preRow_of_cond 8 hx (by kernel_rfl) (fun k hk=>by cases hk) (by kernel_rfl) (saves_met os)
theorem saves_lifted (os:Os)(started:os.Started)(H:Type)(enc:TypeId × Value→H)(F:Stop.Interp) :
  ReturnsInHanded {} Tryz.checked os 4 .any ((OpenSpec.ofChange Rows.savesSpec).preRow enc Tryz.prog Tryz.f4 Rows.savesRow.domain false Rows.savesRow.laid) (((OpenSpec.ofChange Rows.savesSpec).at F).post enc Tryz.prog Tryz.f4 false true false false):=by
 refine returnsInHanded_of_row (C:=Tryz.checked) (s:=OpenSpec.ofChange Rows.savesSpec) Tryz.own started (by kernel_rfl) Tryz.func4
  (witness_row_atRef (enc:=enc) (C:=Tryz.checked) false (layAll (World.settled Tryz.prog os).heap.size (World.holding Tryz.prog os ⟨letterBlocks (World.settled Tryz.prog os).heap.size,#[],[]⟩)) #[.string ⟨#[]⟩,.string ⟨#[]⟩,.slice none 0 0] rfl (by kernel_rfl) (by kernel_rfl) (by kernel_rfl) (saves_witness os enc)) ?_
 intro W base args ds gs before hval hW _ _ _ hL _ _
 exact saves_contract H enc W base args ds gs before hval hW hL
end Go.Proofs.YtfldcmdhneegmaaGreatDoor

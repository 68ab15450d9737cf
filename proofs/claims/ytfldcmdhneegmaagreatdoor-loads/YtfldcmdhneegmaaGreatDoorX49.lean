import Derived.Test.YtfldcmdhneegmaaGreatDoorX48
import Derived.ProofKit
import Derived.OpenShut
import Derived.Deep.DeepHandedRow
import Derived.Deep.DeepWitnessRowRef
import Derived.Carry
set_option maxHeartbeats 4000000
set_option maxRecDepth 1000000
namespace Go.Proofs.YtfldcmdhneegmaaGreatDoor
open Go.ChangeShapes Go.WideShapes Go.ChangeAt Go.RowKit Go.Lib Go.Shelf
open Go.ChangeMaps (open_string shut_string)
theorem Tryz.laidOutS:laidOutB Tryz.prog=true:=by kernel_rfl
theorem env_loads {W:World}(h:laidMetH Tryz.prog Rows.loadsRow.laid W):EnvS W∧Pow10 W:=by
 obtain⟨h1,h2⟩:=h
 exact⟨env_list h1 h2,pow_of_head h1.tail.tail⟩
theorem loads_contract (H:Type)(enc:TypeId × Value→H)(W:World)(base:Nat)(args:Array Value)(ds gs:List (DataW H))(before:List MemPlace)
  (hval:∀(j:Nat) t v,Tryz.f5.params[j]?=some t→args[j]?=some v→Value.okWide Tryz.prog W .any base t v)
  (hW:DataW.Whole enc Tryz.prog Tryz.f5.params.toList Rows.loadsSpec.vars false W args.toList ds gs before) (hL:laidMetH Tryz.prog Rows.loadsRow.laid W) :
  Calls Tryz.prog 5 args W fun e W'=>∃v,e=.returned v∧Rows.loadsSpec.post enc Tryz.prog Tryz.f5 false true false false W args v W':=by
 have hW':=hW
 obtain⟨p,q,hA0,hV,rfl,hfz,hnd⟩:=hW
 have hA:DataW.TrodAll enc Tryz.prog W 0 (fun _=>true) true Tryz.f5.params.toList args.toList ds p:=hA0
 rw[Tryz.params5] at hA hval
 obtain⟨v0,d0,rfl,rfl,h0⟩:=trodAll_one hA
 obtain⟨rfl,rfl⟩:=trodVars_none hV
 obtain⟨s,rfl,rfl,rfl,ws⟩:=open_string Tryz.underlying9 (hval 0 9 v0 rfl rfl) h0
 clear hA0 hV hval
 have hm:s.size≤9223372036854775807:=by
  have h:=ws
  unfold maxLen at h
  omega
 refine (loads_any s W (env_loads hL).1 (env_loads hL).2 hm).mono ?_
 rintro e W' ⟨rfl,bel⟩
 have e1:Rows.loadsSpec.fn H ([.lit (.string s.data.toList)]++[])={ results:=[.lit (.bool true)],args:=[.lit (.string s.data.toList)] }:=rfl
 refine⟨_,rfl,_,_,_,[],[],[],hW',?_,?_,?_,bel.frame _,fun h=>by cases h⟩
 ·rw[e1];exact trodAll_mk1 (shut_bool Tryz.underlying4 true)
 ·rw[e1];exact trodAll_mk1 (shut_string Tryz.underlying9 ws)
 ·rw[e1];rfl
theorem loads_letter (os:Os):LaidIn Tryz.prog ((layAll (World.settled Tryz.prog os).heap.size (World.holding Tryz.prog os ⟨letterBlocks (World.settled Tryz.prog os).heap.size,#[],[]⟩)).forCall (fun _ _=>0) ⟨#[],#[.string ⟨#[]⟩],[]⟩).memory [("unicode.Letter",rtabData letterT)] [1,(World.settled Tryz.prog default).heap.size+2,(World.settled Tryz.prog default).heap.size,(World.settled Tryz.prog default).heap.size+1]:=
 laidIn_rtab (ρ:=Tryz.lays200_ren) { Tryz.lays200 with } Tryz.xL (by kernel_rfl) (by kernel_rfl) letterT ((World.settled Tryz.prog default).heap.size+2) (World.settled Tryz.prog default).heap.size ((World.settled Tryz.prog default).heap.size+1) 262 265
  (by kernel_rfl) (by kernel_rfl) (by kernel_rfl) (by kernel_rfl) (by kernel_rfl) (of_decide_eq_true (by kernel_rfl)) (of_decide_eq_true (by kernel_rfl)) (of_decide_eq_true (by kernel_rfl))
theorem loads_five (os:Os):LaidIn Tryz.prog ((layAll (World.settled Tryz.prog os).heap.size (World.holding Tryz.prog os ⟨letterBlocks (World.settled Tryz.prog os).heap.size,#[],[]⟩)).forCall (fun _ _=>0) ⟨#[],#[.string ⟨#[]⟩],[]⟩).memory [("math/bits.deBruijn32tab",Rows.laid_math_bits_deBruijn32tab),("math/bits.deBruijn64tab",Rows.laid_math_bits_deBruijn64tab),("internal/strconv.uint64pow10",Rows.laid_internal_strconv_uint64pow10),("unicode/utf8.acceptRanges",Rows.laid_unicode_utf8_acceptRanges),("unicode.properties",Rows.laid_unicode_properties)] [6,7,5,3,0]:=
 LaidIn.of_run [6,7,5,3,0] 8 (by kernel_rfl) (by kernel_rfl) (by kernel_rfl) (by kernel_rfl)
theorem loads_first (os:Os):LaidIn Tryz.prog ((layAll (World.settled Tryz.prog os).heap.size (World.holding Tryz.prog os ⟨letterBlocks (World.settled Tryz.prog os).heap.size,#[],[]⟩)).forCall (fun _ _=>0) ⟨#[],#[.string ⟨#[]⟩],[]⟩).memory [("unicode/utf8.first",Rows.laid_unicode_utf8_first)] [2]:=
 LaidIn.of_run [2] 8 (by kernel_rfl) (by kernel_rfl) (by kernel_rfl) (by kernel_rfl)
theorem loads_met (os:Os):laidMetH Tryz.prog Rows.loadsRow.laid ((layAll (World.settled Tryz.prog os).heap.size (World.holding Tryz.prog os ⟨letterBlocks (World.settled Tryz.prog os).heap.size,#[],[]⟩)).forCall (fun _ _=>0) ⟨#[],#[.string ⟨#[]⟩],[]⟩).memory:=by
 refine laidMetH_of_parts ?_ (by kernel_rfl)
 have h:=(((loads_five os).append (loads_letter os) (by kernel_rfl)).append (loads_first os) (by kernel_rfl)).met
 rw[← Pinned.letter_eq] at h
 exact h
theorem loads_witness (os:Os){H:Type}(enc:TypeId × Value→H) :
  (OpenSpec.ofChange Rows.loadsSpec).preRow enc Tryz.prog Tryz.f5 Rows.loadsRow.domain false Rows.loadsRow.laid ((layAll (World.settled Tryz.prog os).heap.size (World.holding Tryz.prog os ⟨letterBlocks (World.settled Tryz.prog os).heap.size,#[],[]⟩)).forCall (fun _ _=>0) ⟨#[],#[.string ⟨#[]⟩],[]⟩).memory #[.string ⟨#[]⟩]:=by
 have hw:(DataW.whole enc Tryz.prog ((layAll (World.settled Tryz.prog os).heap.size (World.holding Tryz.prog os ⟨letterBlocks (World.settled Tryz.prog os).heap.size,#[],[]⟩)).forCall (fun _ _=>0) ⟨#[],#[.string ⟨#[]⟩],[]⟩).memory Tryz.f5.params.toList Rows.loadsSpec.vars false #[Value.string ⟨#[]⟩].toList 8).map (fun x=>(x.1,x.2.1))=some ([.lit (.string [])],[]):=by kernel_rfl
 obtain⟨⟨x1,x2,x3⟩,hx,hx1⟩:=Option.map_eq_some_iff.1 hw
 simp only[Prod.mk.injEq] at hx1
 obtain⟨rfl,rfl⟩:=hx1
 exact OpenSpec.preRow_of_cond 8 hx (by kernel_rfl) (fun k hk=>by cases hk) (by kernel_rfl) (loads_met os)
theorem loads_lifted (os:Os)(started:os.Started)(H:Type)(enc:TypeId × Value→H)(F:Stop.Interp) :
  ReturnsInHanded {} Tryz.checked os 5 .any ((OpenSpec.ofChange Rows.loadsSpec).preRow enc Tryz.prog Tryz.f5 Rows.loadsRow.domain false Rows.loadsRow.laid) (((OpenSpec.ofChange Rows.loadsSpec).at F).post enc Tryz.prog Tryz.f5 false true false false):=by
 refine returnsInHanded_of_row (C:=Tryz.checked) (s:=OpenSpec.ofChange Rows.loadsSpec) Tryz.own started (by kernel_rfl) Tryz.func5
  (witness_row_atRef (enc:=enc) (C:=Tryz.checked) false (layAll (World.settled Tryz.prog os).heap.size (World.holding Tryz.prog os ⟨letterBlocks (World.settled Tryz.prog os).heap.size,#[],[]⟩)) #[.string ⟨#[]⟩] rfl (by kernel_rfl) (by kernel_rfl) (by kernel_rfl) (loads_witness os enc)) ?_
 intro W base args ds gs before hval hW _ _ _ hL _ _
 exact loads_contract H enc W base args ds gs before hval hW hL
end Go.Proofs.YtfldcmdhneegmaaGreatDoor

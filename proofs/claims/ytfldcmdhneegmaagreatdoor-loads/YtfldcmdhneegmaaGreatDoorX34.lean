import Derived.Test.YtfldcmdhneegmaaGreatDoorX01
import Derived.RangeFuncNested
import Derived.RangeFuncBound
import Derived.RangeFuncCalls
import Derived.RangeFuncLeaves
import Derived.RangeFuncBox
import Derived.Shelf.Abstract
import Derived.Shelf.RegionOpen
import Derived.OwnWalkIn
import Derived.TacticsInMore
import Derived.LoopNIn
import Derived.LoopIn
import Derived.Maps.AppendAt
import Derived.Deep.AppendLies
import Derived.Shelf.SortM.Plain
import Derived.Shelf.SortM.SortNone
import Derived.Shelf.SlicesE.Compact
import Derived.Lib.SlKeysI
set_option maxHeartbeats 4000000
set_option maxRecDepth 1000000
namespace Go.Proofs.YtfldcmdhneegmaaGreatDoor
open Go.RowKit Go.Lib Go.Shelf
attribute [local go_sem] Oper.semAt_some
theorem Tryz.infoIntS:(Tryz.prog.info? 3).map (fun i=>(i.zero,i.size,i.bytes))=some (some (.int .i64 0),1,8):=by kernel_rfl
abbrev intVals (x:Int):Array Value:=#[.int .i64 x]
theorem values1_in (F:Fence)(n:Nat)(h7:F.fn 274)(hro:F.round=none)(hn:1≤n)(l Bs n₀ b off cap:Nat)(zs:List Int)(hlen:zs.length≤1000000)(hb:b < n₀)(J Jx:List Int→World→Prop)
  (hY:∀pre x W,J pre W→pre.length < zs.length→YieldAt F (n - 1) Tryz.prog l (intVals x) W fun e W'=>
   (e=.returned (.bool true)∧J (pre++[x]) W'∧Below n₀ W W')∨(e=.returned (.bool false)∧Jx (pre++[x]) W'))
  (W:World) (hBs:W.cell? ⟨Bs,0,none⟩=some (.slice (some ⟨b,off,none⟩) zs.length cap))
  (hc:∀j (hj:j < zs.length),W.cell? ⟨b,off+j,none⟩=some (.int .i64 zs[j])) (h0:J [] W) :
  CallsIn F n Tryz.prog 274 #[.func (.yield l) #[] #[],.pointer (some ⟨Bs,0,none⟩)] W fun e W'=>(∃v,e=.returned v) ∧
   ((∃ys,ys=zs∧J ys W')∨(∃pre,pre <+: zs∧Jx pre W')):=by
 refine callsIn_of_wp Tryz.func274 rfl h7 ?_ hro
 simp only[Tryz.ntmps274,List.size_toArray,List.length_cons,List.length_nil,Nat.reduceAdd,Nat.reduceSub,Array.replicate_succ,Array.replicate_zero,List.push_toArray,List.append_toArray,List.nil_append,List.cons_append]
 gi_wp2
 gi_loopw [7] (fun i wr=>∃k:Nat,k≤zs.length∧i=.int .i64 k∧J (zs.take k) wr∧Below n₀ W wr)
  (fun i _=>zs.length - (intOf i).toNat)
 case atStart=>exact⟨0,Nat.zero_le _,rfl,by simpa using h0,Below.refl _ _⟩
 case round=>
  obtain⟨k,hk,rfl,hJs,hnx⟩:=hrel
  by_cases hlt:k < zs.length
  ·have hcx:=hc k hlt
   have hcx':=(hnx.cell (p:=⟨b,off+k,none⟩) hb).trans hcx
   have hil:(k:Int) < (zs.length:Int):=by omega
   have hi1:(0:Int)≤(k:Int):=by omega
   obtain⟨fn,tmps,assign,body,hy,hR⟩:=hY _ zs[k] wr hJs (by rw[List.length_take];omega)
   dsimp only [intVals] at hy
   have hts:zs.take k++[zs[k]]=zs.take (k+1):=by rw[List.take_add_one,List.getElem?_eq_getElem hlt];rfl
   gi_wp2
   refine hR.mono ?_
   rintro e W3 (⟨rfl,hJ3,hk3⟩ | ⟨rfl,hJx3⟩)
   ·rw[hts] at hJ3
    gi_wp2
    go_roundw
    case rel=>exact⟨k+1,by omega,by go_num,hJ3,hnx.trans hk3⟩
    case measure=>simp[intOf];omega
   ·rw[hts] at hJx3
    gi_wp2
    refine bodyPost_ret (results_none rfl _ _ _) rfl ?_
    exact⟨⟨_,rfl⟩,.inr ⟨_,List.take_prefix _ _,hJx3⟩⟩
  ·obtain rfl:k=zs.length:=by omega
   gi_wp2
   go_end0
   exact⟨⟨_,rfl⟩,.inl ⟨_,rfl,by simpa using hJs⟩⟩
theorem values1_nil_in (F:Fence)(n:Nat)(h7:F.fn 274)(hro:F.round=none)(l Bs:Nat)(J:List Int→World→Prop)(W:World)(hBs:W.cell? ⟨Bs,0,none⟩=some (.slice none 0 0))(h0:J [] W) :
  CallsIn F n Tryz.prog 274 #[.func (.yield l) #[] #[],.pointer (some ⟨Bs,0,none⟩)] W fun e W'=>(∃v,e=.returned v)∧J [] W':=by
 refine callsIn_of_wp Tryz.func274 rfl h7 ?_ hro
 simp only[Tryz.ntmps274,List.size_toArray,List.length_cons,List.length_nil,Nat.reduceAdd,Nat.reduceSub,Array.replicate_succ,Array.replicate_zero,List.push_toArray,List.append_toArray,List.nil_append,List.cons_append]
 gi_wp2
 gi_loopw [7] (fun i wr=>i=.int .i64 0∧J [] wr) (fun _ _=>0)
 case atStart=>exact⟨rfl,h0⟩
 case round=>
  obtain⟨rfl,hJs⟩:=hrel
  gi_wp2
  go_end0
  exact⟨⟨_,rfl⟩,hJs⟩
theorem values_any (a:Option Addr)(n c:Nat)(w:World) :
  Calls Tryz.prog 262 #[.slice a n c] w fun e w'=>e=.returned (.func (.func 274) #[] #[.pointer (some ⟨w.heap.size,0,none⟩)])∧w'=w.alloc (.cells #[.slice a n c] 90):=by
 have hmf:∀(fn:Fn) (first cap:Array Value) (w:World),(Instr.makeFunc fn first cap).run Tryz.prog w=.ok (.func fn first cap) w:=fun _ _ _ _=>rfl
 go_enter Tryz.func262,Tryz.ntmps262
 go_wp2
 go_ret
 exact⟨rfl,rfl⟩
def ZsAt (n₀:Nat)(W:World)(v:Value)(zs:List Int):Prop:=
 (v=.slice none 0 0∧zs=[])∨∃b off cap,v=.slice (some ⟨b,off,none⟩) zs.length cap∧b < n₀∧∀j (hj:j < zs.length),W.cell? ⟨b,off+j,none⟩=some (.int .i64 zs[j])
theorem ZsAt.below {n₀:Nat}{A B:World}{v:Value}{zs:List Int}(h:Below n₀ A B):ZsAt n₀ A v zs→ZsAt n₀ B v zs
 | .inl e=>.inl e
 | .inr ⟨b,off,cap,e,hb,hc⟩=>.inr ⟨b,off,cap,e,hb,fun j hj=>(h.cell (p:=⟨b,off+j,none⟩) hb).trans (hc j hj)⟩
theorem values_stops (F:Fence)(n:Nat)(h7:F.fn 274)(hro:F.round=none)(hn:1≤n)(Bs n₀:Nat)(v:Value)(zs:List Int)(hlen:zs.length≤1000000)(w:World)(hBs:Bs < n₀)(hn₀:n₀≤w.heap.size)
  (hc:w.cell? ⟨Bs,0,none⟩=some v) (hI:ZsAt n₀ w v zs) :
  SeqStopsK F n Tryz.prog 274 #[.pointer (some ⟨Bs,0,none⟩)] intVals (Below n₀) (fun ys=>ys=zs) (fun pre=>pre <+: zs) zs.length w:=fun l J Jx W hW _ _ hY h0=>by
 have hW':=hW.mono hn₀
 have hc':=(hW'.cell (p:=⟨Bs,0,none⟩) hBs).trans hc
 rcases hI.below hW' with ⟨rfl,rfl⟩ | ⟨b,off,cap,rfl,hb,hcs⟩
 ·exact (values1_nil_in F n h7 hro l Bs J W hc' h0).mono fun e W' ⟨he,hj⟩=>⟨he,.inl ⟨_,rfl,hj⟩⟩
 ·exact values1_in F n h7 hro hn l Bs n₀ b off cap zs hlen hb J Jx hY W hc' hcs h0
theorem appendSeq_any (Bs:Nat)(v:Value)(zs:List Int)(w:World)(hlen:zs.length≤1000000)(hB:Bs < w.heap.size)(hc:w.cell? ⟨Bs,0,none⟩=some v)(hZ:ZsAt w.heap.size w v zs) :
  Calls Tryz.prog 278 #[.slice none 0 0,.func (.func 274) #[] #[.pointer (some ⟨Bs,0,none⟩)]] w fun e w'=>∃v',e=.returned v'∧w'.ownsRow w.heap.size 3 1 v' zs.length (zs.map (Value.int .i64))∧Below w.heap.size w w':=by
 obtain⟨W0,hW0⟩:∃W,w.alloc (.cells #[.slice none 0 0] 90)=W:=⟨_,rfl⟩
 have hb0:Below w.heap.size w W0:=by rw[← hW0];exact (Below.refl _ _).alloc (Nat.le_refl _) _
 have hsz0:W0.heap.size=w.heap.size+1:=by rw[← hW0];simp
 have hr0:Boxed W0 w.heap.size 90 (.slice none 0 0):=by rw[← hW0];exact heap_alloc_new w _
 refine (callsIn_wide (n:=3)).1 ?_
 refine callsIn_of_wp_marks Tryz.func278 rfl trivial ?_ rfl
 simp only[Tryz.ntmps278,List.size_toArray,List.length_cons,List.length_nil,Nat.reduceAdd,Nat.reduceSub,Array.replicate_succ,Array.replicate_zero,List.push_toArray,List.append_toArray,List.nil_append,List.cons_append]
 obtain⟨i0,hi,hz0,hz1,hz2⟩:=info_parts Tryz.infoIntS
 have hx0:W0.cell? ⟨Bs,0,none⟩=some v:=(cell_bel hb0 ⟨Bs,0,none⟩ hB).trans hc
 gi_wp2
 clear hW0
 have hro:Fence.wide.round=none:=rfl
 refine wpIn_rangeFunc_ownF hro (by omega:1≤3) (gf:=274) (lb:=#[.pointer (some ⟨Bs,0,none⟩)]) rfl trivial (enters_of Tryz.func274 (by kernel_rfl) rfl)
  (values_stops Fence.wide (3 - 1) trivial rfl (by omega) Bs w.heap.size v zs hlen W0 hB (by omega) hx0 (ZsAt.below hb0 hZ))
  belowK_t (belowK_b (by omega)) (Below.refl _ _) (fun _=>rfl)
  (fun pre W=>(∃u,Boxed W w.heap.size 90 u∧W.ownsRow w.heap.size 3 1 u pre.length (pre.map (Value.int .i64))∧True)∧Below w.heap.size W0 W)
  (fun _ _ _=>False)
  (OwnFrom.and ((holdsRow_own w.heap.size w.heap.size 90 3 1 List.length (fun pre=>pre.map (Value.int .i64)) (fun _ _=>True)).from _) (ownFrom_below (by omega) (by omega)))
  (fun c pre W W' row h _ _=>h.elim)
  ⟨⟨_,hr0,⟨rfl,.inl ⟨rfl,rfl⟩⟩,trivial⟩,Below.refl _ _⟩
  (fun x=>{ tmps:=#[.slice none 0 0,.func (.func 274) #[] #[.pointer (some ⟨Bs,0,none⟩)],.pointer (some ⟨w.heap.size,0,none⟩),undef,.slice none 0 0,.int .i64 x,.func (.func 274) #[] #[.pointer (some ⟨Bs,0,none⟩)],.int .i64 x,undef,undef,undef,undef,undef],defers:=[] }) ?assign ?body ?done ?stop
 case assign=>
  intro l x W K hK
  gi_wp2
  exact hK
 case body=>
  rintro l pre x W ⟨⟨u,hbx,hrow,-⟩,hB1⟩ hlt
  have hszW:w.heap.size≤W.heap.size:=by have:=hB1.size;omega
  have hbl:=hbx.lt
  have hrc:=hbx.cell
  have hrf:=hbx.frozen
  obtain⟨ua,uc,rfl⟩:=own_slice hrow
  gi_wp2_with (gi_at_builtin;refine wpListIn_append_own _ rfl _ _ 90 rfl w.heap.size 3 i0 (.int .i64 0) 1 8 Tryz.underlying90 hi hz0 hz1 hz2 rfl (by decide) _ _ _ rfl (hrow.alloc _) ⟨W.heap.size,0,none⟩ 1 1 [.int .i64 x] rfl rfl (World.news_of_block (cs:=#[.int .i64 x]) (new_at (by simp;done))) (by intro u hu;simp at hu;subst hu;rfl) (by unfold maxLen;omega) (by omega) (by simp;omega) ?_;intro v' w3 hown' hg3 hnil3;obtain⟨g',cap',rfl⟩:=ownsRow_succ hown';obtain⟨hv1,hv2,hr2,hk2,hb2⟩:=Boxed.appended hbx (by decide) hrow hszW (Nat.le_refl _) hown' hg3;have hrc1:=hv1.cell;have hrf1:=hv1.frozen;have HA:=hid (And.intro hv2 (And.intro hr2 (And.intro hk2 hb2)));clear hv1 hv2 hr2 hk2 hb2 hown' hg3 hnil3)
  exact⟨HA.out.2.2.1,HA.out.2.2.2,⟨_,HA.out.1,by simpa using HA.out.2.1,trivial⟩,hB1.trans HA.out.2.2.2⟩
 case done=>
  rintro D ys W hD rfl ⟨⟨u,hbx,hrow,-⟩,hB1⟩ hK
  have hrc:=hbx.cell
  have hrf:=hbx.frozen
  gi_wp2
  refine⟨by simp,.inl ⟨_,_,rfl,run_takeDeferred hK,?_⟩⟩
  exact⟨_,results_tmp rfl _ _ _,u,rfl,ownsRow_putObj hrow _ hK rfl,(hb0.trans hB1).trans (belowK_b (w:=W0) (by omega) _ D _ _ hD hK rfl rfl)⟩
 case stop=>
  intro D c pre W hD hpf hF hK
  exact hF.elim
theorem collect_any (Bs:Nat)(v:Value)(zs:List Int)(w:World)(hlen:zs.length≤1000000)(hB:Bs < w.heap.size)(hc:w.cell? ⟨Bs,0,none⟩=some v)(hZ:ZsAt w.heap.size w v zs) :
  Calls Tryz.prog 272 #[.func (.func 274) #[] #[.pointer (some ⟨Bs,0,none⟩)]] w fun e w'=>∃v',e=.returned v'∧w'.ownsRow w.heap.size 3 1 v' zs.length (zs.map (Value.int .i64))∧Below w.heap.size w w':=by
 have HA:=hid (appendSeq_any Bs v zs w hlen hB hc hZ)
 clear hc hZ
 go_enter Tryz.func272,Tryz.ntmps272
 go_wp2_with (go_at_call 278;fail)
 refine HA.out.mono ?_
 rintro e w1 ⟨v',rfl,ho,hb⟩
 have H1:=hid (And.intro ho hb)
 clear ho hb
 go_wp2
 go_ret
 exact⟨_,rfl,H1.out.1,H1.out.2⟩
end Go.Proofs.YtfldcmdhneegmaaGreatDoor
namespace Go.Proofs.YtfldcmdhneegmaaGreatDoor
open Go.Shelf
def Tryz.compactI_ren:Go.Shelf.Ren:=⟨fun | 43=>263 | n=>n,fun | 22=>90 | 23=>3 | 3=>3 | 4=>4 | 0=>0 | n=>n,fun | n=>n⟩
theorem Tryz.compactI:Go.Proofs.SlLaysE.n43 Tryz.prog Tryz.compactI_ren:={
 mixed:=by kernel_rfl
 f43:=⟨Tryz.f263.name,by decide,Tryz.func263.trans (congrArg some (by kernel_rfl))⟩
 t0:=Tryz.underlying0
 a0:=Tryz.isAgg0
 z0:=Tryz.sizeOf0
 v0:=Tryz.zeroValue0
 t3:=Tryz.underlying3
 a3:=Tryz.isAgg3
 z3:=Tryz.sizeOf3
 v3:=Tryz.zeroValue3
 t4:=Tryz.underlying4
 a4:=Tryz.isAgg4
 z4:=Tryz.sizeOf4
 v4:=Tryz.zeroValue4
 t22:=Tryz.underlying90
 a22:=Tryz.isAgg90
 z22:=Tryz.sizeOf90
 v22:=Tryz.zeroValue90
 a23:=Tryz.isAgg3
 z23:=Tryz.sizeOf3 }
def Tryz.sortI_ren:Go.Shelf.Ren:=⟨fun | 5=>273 | 8=>280 | 7=>279 | 19=>290 | 20=>265 | 10=>281 | 11=>282 | 12=>283 | 13=>284 | 14=>285 | 15=>286 | 16=>287 | 17=>288 | 18=>289 | 30=>291 | 31=>292 | 32=>293 | 33=>294 | 34=>295 | 35=>270 | 40=>296 | n=>n,fun | 23=>90 | 25=>3 | 3=>3 | 32=>218 | 22=>90 | 0=>0 | 44=>142 | 46=>80 | 4=>4 | 36=>413 | 35=>412 | 41=>417 | 5=>5 | 9=>9 | 53=>419 | 57=>422 | 63=>424 | 64=>425 | n=>n,fun | n=>n⟩
theorem Tryz.sortI:Go.Proofs.SlLaysM.n5 Tryz.prog Tryz.sortI_ren:={
 mixed:=by kernel_rfl
 f5:=⟨Tryz.f273.name,by decide,Tryz.func273.trans (congrArg some (by kernel_rfl))⟩
 f7:=⟨Tryz.f279.name,by decide,Tryz.func279.trans (congrArg some (by kernel_rfl))⟩
 f8:=Tryz.func280.trans (congrArg some (by kernel_rfl))
 f10:=⟨Tryz.f281.name,by decide,Tryz.func281.trans (congrArg some (by kernel_rfl))⟩
 f11:=⟨Tryz.f282.name,by decide,Tryz.func282.trans (congrArg some (by kernel_rfl))⟩
 f12:=⟨Tryz.f283.name,by decide,Tryz.func283.trans (congrArg some (by kernel_rfl))⟩
 f13:=⟨Tryz.f284.name,by decide,Tryz.func284.trans (congrArg some (by kernel_rfl))⟩
 f14:=⟨Tryz.f285.name,by decide,Tryz.func285.trans (congrArg some (by kernel_rfl))⟩
 f15:=⟨Tryz.f286.name,by decide,Tryz.func286.trans (congrArg some (by kernel_rfl))⟩
 f16:=⟨Tryz.f287.name,by decide,Tryz.func287.trans (congrArg some (by kernel_rfl))⟩
 f17:=⟨Tryz.f288.name,by decide,Tryz.func288.trans (congrArg some (by kernel_rfl))⟩
 f18:=⟨Tryz.f289.name,by decide,Tryz.func289.trans (congrArg some (by kernel_rfl))⟩
 f19:=Tryz.func290.trans (congrArg some (by kernel_rfl))
 f20:=Tryz.func265.trans (congrArg some (by kernel_rfl))
 f30:=⟨Tryz.f291.name,by decide,Tryz.func291.trans (congrArg some (by kernel_rfl))⟩
 f31:=Tryz.func292.trans (congrArg some (by kernel_rfl))
 f32:=Tryz.func293.trans (congrArg some (by kernel_rfl))
 f33:=⟨Tryz.f294.name,by decide,Tryz.func294.trans (congrArg some (by kernel_rfl))⟩
 f34:=⟨Tryz.f295.name,by decide,Tryz.func295.trans (congrArg some (by kernel_rfl))⟩
 f35:=⟨Tryz.f270.name,by decide,Tryz.func270.trans (congrArg some (by kernel_rfl))⟩
 f40:=⟨Tryz.f296.name,by decide,Tryz.func296.trans (congrArg some (by kernel_rfl))⟩
 t0:=Tryz.underlying0
 a0:=Tryz.isAgg0
 z0:=Tryz.sizeOf0
 v0:=Tryz.zeroValue0
 t3:=Tryz.underlying3
 a3:=Tryz.isAgg3
 z3:=Tryz.sizeOf3
 v3:=Tryz.zeroValue3
 t4:=Tryz.underlying4
 a4:=Tryz.isAgg4
 z4:=Tryz.sizeOf4
 v4:=Tryz.zeroValue4
 t5:=Tryz.underlying5
 a5:=Tryz.isAgg5
 z5:=Tryz.sizeOf5
 v5:=Tryz.zeroValue5
 t9:=Tryz.underlying9
 a9:=Tryz.isAgg9
 z9:=Tryz.sizeOf9
 v9:=Tryz.zeroValue9
 t22:=Tryz.underlying90
 a22:=Tryz.isAgg90
 z22:=Tryz.sizeOf90
 v22:=Tryz.zeroValue90
 t23:=Tryz.underlying90
 a23:=Tryz.isAgg90
 z23:=Tryz.sizeOf90
 v23:=Tryz.zeroValue90
 t25:=Tryz.underlying3
 a25:=Tryz.isAgg3
 z25:=Tryz.sizeOf3
 v25:=Tryz.zeroValue3
 t32:=Tryz.underlying218
 a32:=Tryz.isAgg218
 z32:=Tryz.sizeOf218
 v32:=Tryz.zeroValue218
 t35:=Tryz.underlying412
 a35:=Tryz.isAgg412
 z35:=Tryz.sizeOf412
 v35:=Tryz.zeroValue412
 t36:=Tryz.underlying413
 a36:=Tryz.isAgg413
 z36:=Tryz.sizeOf413
 v36:=Tryz.zeroValue413
 t41:=Tryz.underlying417
 a41:=Tryz.isAgg417
 z41:=Tryz.sizeOf417
 v41:=Tryz.zeroValue417
 t44:=Tryz.underlying142
 a44:=Tryz.isAgg142
 z44:=Tryz.sizeOf142
 v44:=Tryz.zeroValue142
 t46:=Tryz.underlying80
 a46:=Tryz.isAgg80
 z46:=Tryz.sizeOf80
 v46:=Tryz.zeroValue80
 t53:=Tryz.underlying419
 a53:=Tryz.isAgg419
 z53:=Tryz.sizeOf419
 v53:=Tryz.zeroValue419
 t57:=Tryz.underlying422
 a57:=Tryz.isAgg422
 z57:=Tryz.sizeOf422
 v57:=Tryz.zeroValue422
 t63:=Tryz.underlying424
 a63:=Tryz.isAgg424
 z63:=Tryz.sizeOf424
 v63:=Tryz.zeroValue424
 t64:=Tryz.underlying425
 a64:=Tryz.isAgg425
 z64:=Tryz.sizeOf425
 v64:=Tryz.zeroValue425 }
end Go.Proofs.YtfldcmdhneegmaaGreatDoor
namespace Go.Proofs.YtfldcmdhneegmaaGreatDoor
open Go.RowKit Go.Lib Go.Shelf Go.Sort
theorem sorted_any (Bs:Nat)(v:Value)(zs:List Int)(w:World)(hlen:zs.length≤1000000)(hB:Bs < w.heap.size)(hc:w.cell? ⟨Bs,0,none⟩=some v)(hZ:ZsAt w.heap.size w v zs) :
  Calls Tryz.prog 261 #[.func (.func 274) #[] #[.pointer (some ⟨Bs,0,none⟩)]] w fun e w'=>∃v',e=.returned v'∧w'.ownsRow w.heap.size 3 1 v' zs.length ((zs.mergeSort fun x y=>decide (x≤y)).map (Value.int .i64))∧Below w.heap.size w w':=by
 have HA:=hid (collect_any Bs v zs w hlen hB hc hZ)
 clear hc hZ
 go_enter Tryz.func261,Tryz.ntmps261
 go_wp2_with (go_at_call 272;fail)
 refine HA.out.mono ?_
 rintro e w1 ⟨v',rfl,ho,hb⟩
 rcases ho.2 with ⟨rfl,hz⟩ | ⟨gb,cap,cur,rfl,hbase,hgb,r1,r2,r3,r4⟩
 ·have HS:=hid (AnyM.slices_Sort_int_none Tryz.sortI none 0 w1)
  have H1:=hid hb
  have HO:=hid ho
  clear hb ho
  go_wp2_with (go_at_call 273;fail)
  refine HS.out.mono ?_
  rintro e w2 ⟨rfl,hw⟩
  subst hw
  go_wp2
  go_ret
  have hz':zs=[]:=List.eq_nil_of_length_eq_zero hz
  subst hz'
  exact⟨_,rfl,by simpa using HO.out,H1.out⟩
 ·have hH:Holds encZ w1 gb 0 zs.toArray:=holds_of_block_i hgb (by simpa using r4)
  have HS:=hid (AnyM.slices_Sort_int Tryz.sortI gb 0 cap zs w1 hH (lt_of_block hgb) (by omega))
  have H1:=hid (And.intro hb (And.intro hgb (And.intro r1 (And.intro r2 r3))))
  clear hb ho hgb r1 r2 r3 r4 hH
  go_wp2_with (go_at_call 273;fail)
  refine HS.out.mono ?_
  rintro e w2 ⟨rfl,nn,os,hw⟩
  have HW:=hid hw
  clear hw
  go_wp2
  go_ret
  rw[HW.out]
  exact⟨_,rfl,ownsRow_sorted_i (by simp) hbase H1.out.2.1 H1.out.2.2.1 H1.out.2.2.2.1 H1.out.2.2.2.2,H1.out.1.grown (grownBy_sorted_i _) H1.out.1.size (fun j hj=>by cases hj;exact hbase)⟩
def twice (zs:List Int):Bool:=decide (¬ zs.Nodup)
theorem compact_len (zs:List Int):decide ((compactUpTo (zs.mergeSort fun x y=>decide (x≤y)).toArray zs.length).length < zs.length)=twice zs:=by
 obtain⟨ts,hts⟩:∃ts,zs.mergeSort (fun x y=>decide (x≤y))=ts:=⟨_,rfl⟩
 have hp:ts.Perm zs:=by rw[← hts];exact List.mergeSort_perm _ _
 have hs:ts.Pairwise (fun a b=>a≤b):=by
  have h:=List.pairwise_mergeSort (le:=fun x y:Int=>decide (x≤y)) (fun a b c h1 h2=>by simp at h1 h2 ⊢;omega) (fun a b=>by simp;omega) zs
  rw[hts] at h
  exact h.imp (fun h=>by simpa using h)
 rw[hts]
 have hl:ts.length=zs.length:=hp.length_eq
 rw[← hl]
 unfold twice
 rw[decide_eq_decide,← hp.nodup_iff]
 constructor
 ·intro h hn
  have hall:∀j,j < ts.length→keeps ts.toArray j=true:=by
   intro j hj
   by_cases h0:j=0
   ·subst h0;exact keeps_lt_one _ 0 (by omega)
   ·refine keeps_pos ?_
    rw[getElem!_pos _ j (by simpa using hj),getElem!_pos _ (j - 1) (by simp;omega)]
    intro e
    have e':ts[j]=ts[j - 1]:=by simpa using e
    exact (List.pairwise_iff_getElem.1 hn) (j - 1) j (by omega) hj (by omega) e'.symm
  have:=compact_all ts hall
  unfold compact at this
  rw[this] at h
  omega
 ·intro hn
  have hex:∃j,0 < j∧∃hj:j < ts.length,ts[j]=ts[j - 1]:=Classical.byContradiction fun hne=>by
   apply hn
   refine List.Pairwise.imp (R:=fun a b=>a < b) (fun h=>by omega) ?_
   rw[List.pairwise_iff_getElem]
   intro i j hi hj hij
   have h1:ts[j - 1]≤ts[j]:=(List.pairwise_iff_getElem.1 hs) (j - 1) j (by omega) hj (by omega)
   have h2:ts[i]≤ts[j - 1]:=by
    by_cases e:i=j - 1
    ·subst e;omega
    ·exact (List.pairwise_iff_getElem.1 hs) i (j - 1) hi (by omega) (by omega)
   have h3:ts[j]≠ts[j - 1]:=fun e=>hne ⟨j,by omega,hj,e⟩
   omega
  obtain⟨j,hj0,hj,he⟩:=hex
  have hk:keeps ts.toArray j=false:=by
   refine keeps_neg hj0 ?_
   rw[getElem!_pos _ j (by simpa using hj),getElem!_pos _ (j - 1) (by simp;omega)]
   simpa using he
  have hlt:((List.range ts.length).filter (keeps ts.toArray)).length < (List.range ts.length).length:=by
   apply List.length_filter_lt_length_iff_exists.2
   exact⟨j,List.mem_range.2 hj,by simp[hk]⟩
  unfold compactUpTo
  rw[List.length_map]
  rw[List.length_range] at hlt
  omega
theorem compactI_small (ao:Option Addr)(n cap:Nat)(w:World)(hn:n < 2) :
  Calls Tryz.prog 263 #[.slice ao n cap] w fun e w'=>e=.returned (.slice ao n cap)∧∃q,w'=w.drewN q:=by
 have hn':(n:Int) < 2:=by omega
 go_enter Tryz.func263,Tryz.ntmps263
 go_wp2
 go_ret
 exact⟨rfl,0,rfl⟩
theorem compactI_any (base:Nat)(v:Value)(ts:List Int)(w:World)(hown:w.ownsRow base 3 1 v ts.length (ts.map (Value.int .i64)))(hlen:ts.length≤1000000)(hbw:base≤w.heap.size) :
  Calls Tryz.prog 263 #[v] w fun e w'=>∃a c,e=.returned (.slice a (compactUpTo ts.toArray ts.length).length c)∧Below base w w':=by
 rcases hown.2 with ⟨rfl,hz⟩ | ⟨gb,cap,cur,rfl,hbase,hgb,r1,r2,r3,r4⟩
 ·have hz':ts=[]:=List.eq_nil_of_length_eq_zero hz
  subst hz'
  refine (compactI_small none 0 0 w (by omega)).mono ?_
  rintro e w' ⟨rfl,q,rfl⟩
  exact⟨_,_,rfl,rfl,rfl,rfl,Nat.le_refl _,fun _ _=>rfl⟩
 ·have hH:Holds encZ w gb 0 ts.toArray:=holds_of_block_i hgb (by simpa using r4)
  have h:=AnyE.slices_Compact Tryz.compactI encZ (fun _=>rfl) (EqlAt.intD _ _ _) (NeqAt.intD _ _ _) 0 Tryz.zeroValue3 gb 0 cap ts.toArray w hH (by simp;omega) (by simpa using r1)
  have hsz:ts.toArray.size=ts.length:=by simp
  rw[hsz] at h
  refine h.mono ?_
  rintro e w' ⟨rfl,q,rfl⟩
  exact⟨_,_,rfl,(Below.refl base w).grown (grownBy_sorted_i (os:=#[]) _) hbw (fun j hj=>by cases hj;exact hbase)⟩
theorem hasTwice_any (F:Nat→Prop)(v:Value)(zs:List Int)(w:World)(hv:IntsAt F w v zs)(hlen:zs.length≤1000000) :
  Calls Tryz.prog 234 #[v] w fun e w'=>e=.returned (.bool (twice zs))∧Below w.heap.size w w':=by
 have hZ:∀o,ZsAt (w.alloc o).heap.size (w.alloc o) v zs:=fun o=>by
  obtain⟨hl,hr⟩:=hv
  rcases hr with ⟨rfl,hz⟩ | ⟨b,o',cap,rfl,hF,hb,hn,hc,r⟩
  ·exact .inl ⟨rfl,List.eq_nil_of_length_eq_zero hz⟩
  ·refine .inr ⟨b,o',cap,rfl,by simp;omega,fun j hj=>?_⟩
   exact (World.cell?_alloc_lt w _ ⟨b,o'+j,none⟩ hb).trans (r j _ (by simp[intCells,hj]))
 obtain⟨ao,cap,rfl,-,-⟩:=RowAt.slice hv
 have HV:=hid (values_any ao zs.length cap w)
 have HS:=hid (sorted_any w.heap.size (.slice ao zs.length cap) zs (w.alloc (.cells #[.slice ao zs.length cap] 90)) hlen (by simp) (by simp) (hZ _))
 have hcl:=compact_len zs
 clear hv hZ
 go_enter Tryz.func234,Tryz.ntmps234
 go_wp2_with (go_at_call 262;fail)
 refine HV.out.mono ?_
 rintro e w1 ⟨rfl,hw1⟩
 subst hw1
 go_wp2_with (go_at_call 261;fail)
 refine HS.out.mono ?_
 rintro e w2 ⟨v',rfl,ho,hb⟩
 have hb0:Below w.heap.size w w2:=((Below.refl _ _).alloc (Nat.le_refl _) _).trans (hb.mono (by simp))
 have hlt:(zs.mergeSort fun x y=>decide (x≤y)).length=zs.length:=by simp
 have HC:=hid (compactI_any w.heap.size v' (zs.mergeSort fun x y=>decide (x≤y)) w2 (by rw[hlt];exact own_mono ho (by simp)) (by omega) hb0.size)
 rw[hlt] at HC
 obtain⟨a',c',rfl⟩:=own_slice ho
 have HB:=hid hb0
 clear ho hb hb0 HV HS
 go_wp2_with (go_at_call 263;fail)
 refine HC.out.mono ?_
 rintro e w3 ⟨a3,c3,rfl,hb3⟩
 have HB3:=hid (HB.out.trans hb3)
 clear hb3 HC
 go_wp2
 go_ret
 exact⟨by rw[← hcl];rfl,HB3.out⟩
end Go.Proofs.YtfldcmdhneegmaaGreatDoor

import Derived.Test.YtfldcmdhneegmaaGreatDoorX42
set_option maxHeartbeats 4000000
set_option maxRecDepth 1000000
namespace Go.Proofs.YtfldcmdhneegmaaGreatDoor
open Go.RowKit Go.Lib
structure DrZ (p:RlP)(w W:World)(r:List UInt8)(x:Bool):Prop where
 at_:p.At W
 rd:RdrAt W p.b r x
 res:W.heap[w.heap.size]?=some (.cells #[.int .i64 0,.slice none 0 0,.int .i64 0] 92 (0,0))
 but:But p.b w W
theorem DrZ.on {p:RlP}{w W W':World}{r r':List UInt8}{x x':Bool}(h:DrZ p w W r x)(O:p.Ok)(hb:p.b < w.heap.size)(hk:But p.b W W')(hr:RdrAt W' p.b r' x'):DrZ p w W' r' x':=
 ⟨h.at_.but O hk,hr,(hk.block _ (lt_of_block h.res) (by simp;omega)).trans h.res,h.but.trans hk⟩
structure DrU (p:RlP)(w W:World)(g:Nat)(r:List UInt8)(x:Bool)(a0 a1 a2:Value)(os:List Int):Prop where
 d0:DrZ p w W r x
 u:W.heap[g]?=some (.cells #[a0,a1,a2] 92 (0,0))
 row:W.ownsRow (g+1) 3 1 a1 os.length (intCells os)
theorem DrU.on {p:RlP}{w W W':World}{g:Nat}{r r':List UInt8}{x x':Bool}{a0 a1 a2:Value}{os:List Int}(h:DrU p w W g r x a0 a1 a2 os)(O:p.Ok)(hb:p.b < w.heap.size)(hg:w.heap.size < g)(hk:But p.b W W')(hr:RdrAt W' p.b r' x'):DrU p w W' g r' x' a0 a1 a2 os:=
 ⟨h.d0.on O hb hk hr,(hk.block _ (lt_of_block h.u) (by simp;omega)).trans h.u,own_keep h.row (hk.keep (D:=fun k=>k=p.b) rfl) (fun k hk e=>by omega)⟩
theorem DrU.bad {p:RlP}{w W:World}{g:Nat}{r:List UInt8}{x:Bool}{a0 a1 a2:Value}{os:List Int}(h:DrU p w W g r x a0 a1 a2 os)(O:p.Ok)(hb:p.b < w.heap.size)(hg:w.heap.size < g)(y:Bool):DrU p w (W.setCell ⟨p.b,1,none⟩ (.bool y)) g r y a0 a1 a2 os:=
 h.on O hb hg (but_set W p.b 1 _) (blk_setF h.d0.rd _).2
theorem DrU.push {p:RlP}{w W W':World}{g:Nat}{r:List UInt8}{x:Bool}{a0 a1 a2 y':Value}{os:List Int}{o:Int}{ob:Obj}(h:DrU p w W g r x a0 a1 a2 os)(hF:∀c,p.F c→c < w.heap.size)(hB:p.b < w.heap.size)(hE:p.eb < w.heap.size)(hP:p.pb < w.heap.size)(hg:w.heap.size < g)(gr:(W.alloc ob).grownBy W' a1.ownBlock)(ow:W'.ownsRow (g+1) 3 1 y' (os.length+1) (intCells os++[.int .i64 o])) :
  W'.cell? ⟨g,1,none⟩=some a1∧W'.frozen? ⟨g,1,none⟩=false∧DrU p w (W'.setCell ⟨g,1,none⟩ y') g r x a0 y' a2 (os++[o]):=by
 have hk:Keep (fun k=>g+1≤k) W W':=by
  refine⟨gr.os,gr.tape,gr.output,?_,fun k hk hn=>?_⟩
  ·have:=gr.size
   have h2:(W.alloc ob).heap.size=W.heap.size+1:=by simp
   omega
  ·refine (gr.block k (by simp;omega) (fun e=>?_)).trans (Below.heap_alloc _ _ _ hk)
   exact hn (own_block h.row k e.symm).1
 have hs:=but_set W' g 1 y'
 have ho:W'.heap[g]?=some (.cells #[a0,a1,a2] 92 (0,0)):=(hk.block _ (lt_of_block h.u) (by omega)).trans h.u
 obtain⟨-,c1,-,-,f1,-⟩:=res_three ho
 have kb:∀k,k < g→k < W.heap.size→(W'.setCell ⟨g,1,none⟩ y').heap[k]?=W.heap[k]?:=fun k h1 h2=>(hs.block k (Nat.lt_of_lt_of_le h2 hk.size) (by simp;omega)).trans (hk.block k h2 (by omega))
 have hsz:=Nat.le_trans hk.size hs.size
 refine⟨c1,f1,⟨⟨⟨?_,?_,?_,?_⟩,?_,?_,?_⟩,(blk_set3 ho _).2.1,?_⟩⟩
 ·exact (kb _ (by omega) (lt_of_block h.d0.at_.blk)).trans h.d0.at_.blk
 ·exact (kb _ (by omega) (lt_of_block h.d0.at_.pat)).trans h.d0.at_.pat
 ·exact RowAt.frame h.d0.at_.steps hsz (fun k h1 h2=>kb k (by have:=hF k h2;omega) h1)
 ·exact RowAt.frame h.d0.at_.wait hsz (fun k h1 h2=>kb k (by have:=hF k h2;omega) h1)
 ·exact (kb _ (by omega) (lt_of_block h.d0.rd)).trans h.d0.rd
 ·exact (kb _ hg (lt_of_block h.d0.res)).trans h.d0.res
 ·exact⟨hs.os.trans (hk.os.trans h.d0.but.os),hs.tape.trans (hk.tape.trans h.d0.but.tape),hs.output.trans (hk.output.trans h.d0.but.output),Nat.le_trans h.d0.but.size hsz,fun k h1 h2=>(kb k (by omega) (Nat.lt_of_lt_of_le h1 h.d0.but.size)).trans (h.d0.but.block k h1 h2)⟩
 ·have e1:(os++[o]).length=os.length+1:=by simp
  have e2:intCells (os++[o])=intCells os++[.int .i64 o]:=by simp[intCells]
  rw[e1,e2]
  exact own_keep ow (hs.keep (D:=fun k=>k=g) rfl) (fun k hk e=>by omega)
theorem DrU.first {p:RlP}{w W:World}{g:Nat}{r:List UInt8}{x:Bool}{a0 a1 a2:Value}{os:List Int}(h:DrU p w W g r x a0 a1 a2 os)(hF:∀c,p.F c→c < w.heap.size)(hB:p.b < w.heap.size)(hE:p.eb < w.heap.size)(hP:p.pb < w.heap.size)(hg:w.heap.size < g)(u:Value):DrU p w (W.setCell ⟨g,2,none⟩ u) g r x a0 a1 u os:=by
 have hs:=but_set W g 2 u
 have kb:∀k,k < g→k < W.heap.size→(W.setCell ⟨g,2,none⟩ u).heap[k]?=W.heap[k]?:=fun k h1 h2=>hs.block k h2 (by simp;omega)
 refine⟨⟨⟨?_,?_,?_,?_⟩,?_,?_,?_⟩,(blk_set3 h.u _).2.2,?_⟩
 ·exact (kb _ (by omega) (lt_of_block h.d0.at_.blk)).trans h.d0.at_.blk
 ·exact (kb _ (by omega) (lt_of_block h.d0.at_.pat)).trans h.d0.at_.pat
 ·exact RowAt.frame h.d0.at_.steps hs.size (fun k h1 h2=>kb k (by have:=hF k h2;omega) h1)
 ·exact RowAt.frame h.d0.at_.wait hs.size (fun k h1 h2=>kb k (by have:=hF k h2;omega) h1)
 ·exact (kb _ (by omega) (lt_of_block h.d0.rd)).trans h.d0.rd
 ·exact (kb _ hg (lt_of_block h.d0.res)).trans h.d0.res
 ·exact⟨hs.os.trans h.d0.but.os,hs.tape.trans h.d0.but.tape,hs.output.trans h.d0.but.output,Nat.le_trans h.d0.but.size hs.size,fun k h1 h2=>(kb k (by omega) (Nat.lt_of_lt_of_le h1 h.d0.but.size)).trans (h.d0.but.block k h1 h2)⟩
 ·exact own_keep h.row (hs.keep (D:=fun k=>k=g) rfl) (fun k hk e=>by omega)
theorem DrU.fin {p:RlP}{w W:World}{g:Nat}{r:List UInt8}{x:Bool}{a0 a1 a2:Value}{os:List Int}(h:DrU p w W g r x a0 a1 a2 os)(hB:p.b < w.heap.size)(hg:w.heap.size < g)(u b0 b1 b2:Value) :
  But p.b w ((((W.setCell ⟨g,2,none⟩ u).setCell ⟨w.heap.size,0,none⟩ b0).setCell ⟨w.heap.size,1,none⟩ b1).setCell ⟨w.heap.size,2,none⟩ b2)∧RdrAt ((((W.setCell ⟨g,2,none⟩ u).setCell ⟨w.heap.size,0,none⟩ b0).setCell ⟨w.heap.size,1,none⟩ b1).setCell ⟨w.heap.size,2,none⟩ b2) p.b r x ∧
  ((((W.setCell ⟨g,2,none⟩ u).setCell ⟨w.heap.size,0,none⟩ b0).setCell ⟨w.heap.size,1,none⟩ b1).setCell ⟨w.heap.size,2,none⟩ b2).ownsRow w.heap.size 3 1 a1 os.length (intCells os)∧((((W.setCell ⟨g,2,none⟩ u).setCell ⟨w.heap.size,0,none⟩ b0).setCell ⟨w.heap.size,1,none⟩ b1).setCell ⟨w.heap.size,2,none⟩ b2).heap[w.heap.size]?=some (.cells #[b0,b1,b2] 92 (0,0)):=by
 have hres:(W.setCell ⟨g,2,none⟩ u).heap[w.heap.size]?=some (.cells #[.int .i64 0,.slice none 0 0,.int .i64 0] 92 (0,0)):=((but_set W g 2 u).block _ (lt_of_block h.d0.res) (by simp;omega)).trans h.d0.res
 have hk:Keep (fun k=>k=w.heap.size∨k=g) W ((((W.setCell ⟨g,2,none⟩ u).setCell ⟨w.heap.size,0,none⟩ b0).setCell ⟨w.heap.size,1,none⟩ b1).setCell ⟨w.heap.size,2,none⟩ b2):=
  ((((but_set W g 2 u).keep (D:=fun k=>k=w.heap.size∨k=g) (.inr rfl)).trans ((but_set _ w.heap.size 0 _).keep (.inl rfl))).trans ((but_set _ w.heap.size 1 _).keep (.inl rfl))).trans ((but_set _ w.heap.size 2 _).keep (.inl rfl))
 refine⟨?_,(hk.block p.b (lt_of_block h.d0.rd) (fun e=>by omega)).trans h.d0.rd,own_mono (own_keep h.row hk (fun k h1 h2=>by omega)) (by omega),(blk_set3 (blk_set3 (blk_set3 hres b0).1 b1).2.1 b2).2.2⟩
 exact⟨hk.os.trans h.d0.but.os,hk.tape.trans h.d0.but.tape,hk.output.trans h.d0.but.output,Nat.le_trans h.d0.but.size hk.size,fun k h1 h2=>(hk.block k (Nat.lt_of_lt_of_le h1 h.d0.but.size) (fun e=>by omega)).trans (h.d0.but.block k h1 h2)⟩
theorem row_step {F:Nat→Prop}{w:World}{ao:Option Addr}{n cap:Nat}{l:List (Int × Bool)}(h:RowAt F w (.slice ao n cap) 2 l.length (stepRow l)){i:Nat}(hi:i < l.length) :
  ∃b o,ao=some ⟨b,o,none⟩∧w.cell? ⟨b,o+i * 2,none⟩=some (.int .i32 l[i].1)∧w.cell? ⟨b,o+i * 2+1,none⟩=some (.bool l[i].2):=by
 rcases h.2 with ⟨_,h0⟩ | ⟨b,o,cap',he,_,hb,_,_,r⟩
 ·omega
 ·cases he
  obtain⟨g0,g1⟩:=stepRow_get l i hi
  exact⟨b,o,rfl,r _ _ g0,r _ _ g1⟩
theorem rGoes_row (F:Nat→Prop)(pb:Nat)(P:En.Pat)(vs:Value)(w:World)(hst:RowAt F w vs 2 P.steps.length (stepRow P.steps))(p0:w.cell? ⟨pb,0,none⟩=some vs)(hs4:P.steps.length≤4)(s:Nat)(hs:s < P.steps.length) :
  Calls Tryz.prog 70 #[.pointer (some ⟨pb,0,none⟩),.int .i64 s] w fun e w'=>e=.returned (.bool (En.goes P s))∧w'=w:=by
 obtain⟨a1,c1,rfl,-,-⟩:=RowAt.slice hst
 obtain⟨b1,o1,rfl,s0,s1⟩:=row_step hst hs
 have hp:=plusAt_get hs
 generalize P.steps[s]=sp at s0 s1 hp
 have HP:=hid hp
 clear hst hp
 by_cases hl:(s:Int) < (P.steps.length:Int) - 1
 ·have hl':decide ((s:Int) < (P.steps.length:Int) - 1)=true:=by simpa using hl
  go_enter Tryz.func70,Tryz.ntmps70
  go_wp2
  go_ret
  refine⟨?_,rfl⟩
  rw[show En.goes P s=true by unfold En.goes;rw[decide_eq_true (by omega),Bool.true_or]]
  rfl
 ·have hl':decide ((s:Int) < (P.steps.length:Int) - 1)=false:=by simpa using hl
  go_enter Tryz.func70,Tryz.ntmps70
  go_wp2
  go_ret
  refine⟨?_,rfl⟩
  rw[show En.goes P s=sp.2 by unfold En.goes;rw[decide_eq_false (by omega),Bool.false_or,HP.out]]
  try rfl
theorem run_ok {P:En.Pat}{st n:Nat}{W t:Int}{gs pl:Bool}(hs:st < P.steps.length)(hg:En.goes P st=gs)(hp:(P.steps.take (st+1)).any (fun x=>x.2)=pl) :
  (goesOn P.steps st=true∧fits P.steps st n=true∧t≤W)↔(((!gs || decide (n < st+1)) || (!pl && decide (st+1 < n))) || decide (W < t))=false:=by
 have h1:goesOn P.steps st=gs:=by
  rw[← hg]
  unfold goesOn En.goes En.plusAt
  have hq:P.steps.getD st (0,false)=P.steps[st]:=by simp[hs]
  rw[hq,List.getElem?_eq_getElem hs]
  simp
  rw[show (!decide (st+1=P.steps.length))=decide (st+1 < P.steps.length) by
   rw[← decide_not,decide_eq_decide];omega]
 rw[h1]
 unfold fits
 rw[hp]
 cases gs<;>cases pl<;>simp<;>omega
theorem DrU.fin0 {p:RlP}{w W:World}{g:Nat}{r:List UInt8}{x:Bool}{a0 a1 a2:Value}{os:List Int}(h:DrU p w W g r x a0 a1 a2 os)(hB:p.b < w.heap.size)(hg:w.heap.size < g)(b0 b1 b2:Value) :
  But p.b w (((W.setCell ⟨w.heap.size,0,none⟩ b0).setCell ⟨w.heap.size,1,none⟩ b1).setCell ⟨w.heap.size,2,none⟩ b2)∧RdrAt (((W.setCell ⟨w.heap.size,0,none⟩ b0).setCell ⟨w.heap.size,1,none⟩ b1).setCell ⟨w.heap.size,2,none⟩ b2) p.b r x ∧
  (((W.setCell ⟨w.heap.size,0,none⟩ b0).setCell ⟨w.heap.size,1,none⟩ b1).setCell ⟨w.heap.size,2,none⟩ b2).ownsRow w.heap.size 3 1 a1 os.length (intCells os)∧(((W.setCell ⟨w.heap.size,0,none⟩ b0).setCell ⟨w.heap.size,1,none⟩ b1).setCell ⟨w.heap.size,2,none⟩ b2).heap[w.heap.size]?=some (.cells #[b0,b1,b2] 92 (0,0)):=by
 have hk:Keep (fun k=>k=w.heap.size) W (((W.setCell ⟨w.heap.size,0,none⟩ b0).setCell ⟨w.heap.size,1,none⟩ b1).setCell ⟨w.heap.size,2,none⟩ b2):=
  (((but_set _ w.heap.size 0 _).keep (D:=fun k=>k=w.heap.size) rfl).trans ((but_set _ w.heap.size 1 _).keep rfl)).trans ((but_set _ w.heap.size 2 _).keep rfl)
 refine⟨?_,(hk.block p.b (lt_of_block h.d0.rd) (fun e=>by omega)).trans h.d0.rd,own_mono (own_keep h.row hk (fun k h1 h2=>by omega)) (by omega),(blk_set3 (blk_set3 (blk_set3 h.d0.res b0).1 b1).2.1 b2).2.2⟩
 exact⟨hk.os.trans h.d0.but.os,hk.tape.trans h.d0.but.tape,hk.output.trans h.d0.but.output,Nat.le_trans h.d0.but.size hk.size,fun k h1 h2=>(hk.block k (Nat.lt_of_lt_of_le h1 h.d0.but.size) (fun e=>by omega)).trans (h.d0.but.block k h1 h2)⟩
theorem rrRun_any (p:RlP)(O:p.Ok)(l:List UInt8)(bad:Bool)(w:World)(h:p.At w)(hF:∀c,p.F c→c < w.heap.size)(hr:RdrAt w p.b l bad)(hl:l.length≤1000000) :
  Calls Tryz.prog 38 #[.pointer (some ⟨p.b,0,none⟩),.pointer (some ⟨p.eb,0,none⟩)] w (DRunEnd p l bad w):=by
 have hB:p.b < w.heap.size:=lt_of_block hr
 have hE:p.eb < w.heap.size:=lt_of_block h.blk
 have hP:p.pb < w.heap.size:=lt_of_block h.pat
 have hal:Below w.heap.size w (w.alloc (.cells #[.int .i64 0,.slice none 0 0,.int .i64 0] 92)):=(Below.refl _ _).alloc (Nat.le_refl _) _
 have K0:Hid (DrZ p w (w.alloc (.cells #[.int .i64 0,.slice none 0 0,.int .i64 0] 92)) l bad):=⟨h.but O (But.ofBelow hal),(hal.block _ hB).trans hr,heap_alloc_new w _,But.ofBelow hal⟩
 obtain⟨ast,cs,hvs,-,-⟩:=RowAt.slice h.steps
 obtain⟨aq,cq,hvq,-,-⟩:=RowAt.slice h.wait
 have HO:=hid O
 have HF:=hid hF
 have hs4:=O.fine.l4
 have hq12:=O.q12
 have hs1:=List.length_pos_iff.2 O.fine.ne
 obtain⟨c0,c1,c2,c3,c4,c5,cf⟩:=eng_cells K0.out.at_.blk
 obtain⟨p0,p1,-,-⟩:=res_cells K0.out.at_.pat
 rw[hvs] at p0
 have hwl:IntKind.i64.wrap ((p.P.steps.length:Int) - 1)=((p.P.steps.length - 1:Nat):Int):=by
  have:(p.P.steps.length:Int) - 1=((p.P.steps.length - 1:Nat):Int):=by omega
  rw[this]
  exact wrap_small (by omega) (by omega)
 clear h hr O hal hF
 go_enter Tryz.func38,Tryz.ntmps38
 go_wp2_with (go_at_call 35;fail)
 refine (rrNumber_s l bad (p.P.steps.length - 1) p.b _ K0.out.rd hl).mono ?_
 rintro e w1 ⟨hk1,st,r1,x1,rfl,hst,hr1,hl1,hS1⟩
 have K1:=hid (K0.out.on HO.out hB hk1 hr1)
 have S1:=hid hS1
 clear hk1 hr1 hS1 c0 c1 c2 c3 c4 c5 cf p0 p1
 go_wp2_with (go_at_call 35;fail)
 refine (rrNumber_s r1 x1 1048576 p.b w1 K1.out.rd (by omega)).mono ?_
 rintro e w2 ⟨hk2,n,r2,x2,rfl,hn,hr2,hl2,hS2⟩
 have K2:=hid (K1.out.on HO.out hB hk2 hr2)
 have S2:=hid hS2
 clear hk2 hr2 hS2 K1 K0
 obtain⟨D,hD⟩:∃D,(if bad=true then none else Fr.dRun p.P.steps p.P.win p.nx p.W p.Q l)=D:=⟨_,rfl⟩
 have HD:=hid hD
 have R2:Hid (Fr.DRel D p.P.steps p.P.win p.nx p.W p.Q st n 0 [] r2 x2):=by
  have h1:=Fr.DRel.start (win:=p.P.win) (nx:=p.nx) (wm:=p.W) (Q:=p.Q) S1.out S2.out hs1
  rw[hD] at h1
  exact h1
 clear hD S1 S2
 have hg2:w.heap.size < w2.heap.size:=lt_of_block K2.out.res
 have K3:Hid (DrU p w (w2.alloc (.cells #[.int .i64 (wrap64 st),.slice none 0 0,.int .i64 0] 92)) w2.heap.size r2 x2 (.int .i64 (wrap64 st)) (.slice none 0 0) (.int .i64 0) []):=by
  have hal:Below w2.heap.size w2 (w2.alloc (.cells #[.int .i64 (wrap64 st),.slice none 0 0,.int .i64 0] 92)):=(Below.refl _ _).alloc (Nat.le_refl _) _
  exact⟨K2.out.on HO.out hB (But.ofBelow hal) ((hal.block _ (lt_of_block K2.out.rd)).trans K2.out.rd),heap_alloc_new w2 _,own_nil _ _ _ _⟩
 go_wp2
 generalize w2.alloc (.cells #[.int .i64 (wrap64 st),.slice none 0 0,.int .i64 0] 92)=W3 at *
 generalize hge:w2.heap.size=g at *
 clear K2 hge
 go_loopw [8] (fun s8 wr=>∃(i:Nat) (os:List Int) (vo:Value) (r:List UInt8) (x:Bool),s8=.int .i64 i∧i≤1048576∧os.length=i∧r.length≤l.length∧Hid (DrU p w wr g r x (.int .i64 (wrap64 st)) vo (.int .i64 0) os∧Fr.DRel D p.P.steps p.P.win p.nx p.W p.Q st n i os r x)) (fun s8 _=>1048577 - (intOf s8).toNat)
 case atStart=>exact⟨0,[],_,r2,x2,rfl,by omega,rfl,by omega,K3.out,R2.out⟩
 case round=>
  obtain⟨i,os,vo,r,x,rfl,hi,hoi,hrl,hr⟩:=hrel
  subst hoi
  obtain⟨wo,rfl⟩:∃wo,wo=wr:=⟨_,rfl⟩
  have rc1:=hr.out.1.d0.rd.c1
  have rf1:=hr.out.1.d0.rd.f 1
  obtain⟨va,vc,rfl⟩:=own_slice hr.out.1.row
  by_cases hc:(os.length:Int) < wrap64 n
  ·cases x with
   | true=>
    go_wp2_with (go_at_call 36;fail)
    refine (rrMoment_s r true p.b wo hr.out.1.d0.rd (by omega)).mono ?_
    rintro e w5 ⟨hk5,t,r5,x5,rfl,ht0,ht1,hr5,hl5,hS5⟩
    obtain rfl:x5=true:=by simpa [StS,momS] using hS5
    have HDn:Hid (D=none):=by
     rcases hr.out.2 with ⟨-,h⟩ | ⟨h,-⟩
     ·exact h
     ·cases h
    have K5:=hid (hr.out.1.on HO.out hB hg2 hk5 hr5)
    obtain⟨u0,u1,u2,v0,v1,v2⟩:=res_three K5.out.u
    obtain⟨s0,s1,s2,y0,y1,y2⟩:=res_three K5.out.d0.res
    have rc5:=K5.out.d0.rd.c1
    clear hk5 hr5 hS5 rc1 rf1
    go_wp2
    obtain⟨f1,f2,f3,f4⟩:=K5.out.fin hB hg2 (.int .i64 t) (.int .i64 (wrap64 st)) (.slice va os.length vc) (.int .i64 t)
    obtain⟨e0,e1,e2,-,-,-⟩:=res_three f4
    refine bodyPost_ret (v:=.agg #[.int .i64 (wrap64 st),.slice va os.length vc,.int .i64 t]) (by simp[results,Tryz.results38,go_sem,e0,e1,e2]) rfl ?_
    refine⟨f1,_,_,_,os,r5,true,rfl,f3,f2,by omega,st,?_,fun h=>by cases h⟩
    rw[HD.out,HDn.out]
    rfl
   | false=>
    go_wp2_with (go_at_call 35;fail)
    have hin:os.length < n∧n≤1048576:=by
     rcases hr.out.2 with ⟨h,-⟩ | ⟨-,h3,h4,-,-⟩
     ·cases h
     ·refine⟨?_,h4⟩
      unfold wrap64 at hc
      omega
    refine (rrNumber_s r false 9007199254740991 p.b wo hr.out.1.d0.rd (by omega)).mono ?_
    rintro e w4 ⟨hk4,o,r4,y,rfl,ho,hr4,hl4,hS4⟩
    have K4:=hid (hr.out.1.on HO.out hB hg2 hk4 hr4)
    have S4:=hid hS4
    have yc1:=hr4.c1
    have yf1:=hr4.f 1
    obtain⟨c0,c1,c2,c3,c4,c5,cf⟩:=eng_cells K4.out.d0.at_.blk
    clear hk4 hr4 hS4 rc1 rf1
    go_upto_region 8 with fail
    go_cut [] (fun wx=>∃x1,Hid (x1=(y || decide ((p.nx:Int)≤wrap64 o))∧DrU p w wx g r4 x1 (.int .i64 (wrap64 st)) (.slice va os.length vc) (.int .i64 0) os))
    case first=>
     cases y with
     | true=>
      go_wp2
      go_meet
      case rel=>exact⟨true,by simp,by exact K4.out.bad HO.out hB hg2 true⟩
     | false=>
      go_wp2
      go_meet
      case rel=>exact⟨decide ((p.nx:Int)≤wrap64 o),by simp,by exact K4.out.bad HO.out hB hg2 _⟩
    case rest=>
     obtain⟨x1,K5⟩:=hcut
     obtain⟨wq,rfl⟩:∃wq,wq=wc:=⟨_,rfl⟩
     clear c0 c1 c2 c3 c4 c5 cf yc1 yf1 K4
     obtain⟨u0,u1,u2,v0,v1,v2⟩:=res_three K5.out.2.u
     go_wp2
     go_loopw [10] (fun s10 wr=>∃(k:Nat) (x2:Bool),s10=.int .i64 k∧k≤os.length∧Hid (x2=(x1 || (os.take k).any fun z=>z == wrap64 o)∧DrU p w wr g r4 x2 (.int .i64 (wrap64 st)) (.slice va os.length vc) (.int .i64 0) os)) (fun s10 _=>os.length - (intOf s10).toNat)
     case atStart=>exact⟨0,x1,rfl,Nat.zero_le _,by simp,K5.out.2⟩
     case round=>
      obtain⟨k,x2,rfl,hk,hq⟩:=hrel
      obtain⟨u0,u1,u2,v0,v1,v2⟩:=res_three hq.out.2.u
      have rc1:=hq.out.2.d0.rd.c1
      have rf1:=hq.out.2.d0.rd.f 1
      by_cases hlk:k < os.length
      ·have hlk':(k:Int) < (os.length:Int):=by omega
       obtain⟨ib,io,rfl,ci⟩:=IntsAt.get (RowAt.ofOwn hq.out.2.row) hlk
       have HT:Hid ((os.take (k+1)).any (fun z=>z == wrap64 o)=((os.take k).any (fun z=>z == wrap64 o) || (os[k] == wrap64 o))):=by
        show _=_
        rw[List.take_succ_eq_append_getElem hlk,List.any_append]
        simp
       cases x2 with
       | true=>
        go_wp2
        go_roundw
        case rel=>exact⟨k+1,true,by go_num,by omega,by rw[HT.out,← Bool.or_assoc,← hq.out.1];rfl,by exact hq.out.2.bad HO.out hB hg2 true⟩
        case measure=>simp[intOf];omega
       | false=>
        go_wp2
        exact⟨⟨k+1,(os[k] == wrap64 o),by go_num,by omega,by rw[HT.out,← Bool.or_assoc,← hq.out.1];simp,by exact hq.out.2.bad HO.out hB hg2 _⟩,by simp[intOf];omega⟩
      ·obtain rfl:k=os.length:=by omega
       have hkf:decide ((os.length:Int) < (os.length:Int))=false:=by simp
       have HX2:Hid (x2=(x1 || os.any fun z=>z == wrap64 o)):=by have:=hq.out.1;rw[List.take_length] at this;exact this
       obtain⟨wt,rfl⟩:∃wt,wt=wr:=⟨_,rfl⟩
       have K6:=hid hq.out.2
       clear hq rc1 rf1
       go_wp2
       go_loopw [11] (fun s11 wr=>∃(k:Nat) (x3:Bool),s11=.int .i64 k∧k≤p.Q.length∧Hid (x3=(x2 || (p.Q.take k).any fun e=>e.off == wrap64 o)∧DrU p w wr g r4 x3 (.int .i64 (wrap64 st)) (.slice va os.length vc) (.int .i64 0) os)) (fun s11 _=>p.Q.length - (intOf s11).toNat)
       case atStart=>exact⟨0,x2,rfl,Nat.zero_le _,by simp,K6.out⟩
       case round=>
        obtain⟨k,x3,rfl,hk,hq⟩:=hrel
        obtain⟨c0,c1,c2,c3,c4,c5,cf⟩:=eng_cells hq.out.2.d0.at_.blk
        rw[hvq] at c3
        have rc1:=hq.out.2.d0.rd.c1
        have rf1:=hq.out.2.d0.rd.f 1
        have HWt:=hid hq.out.2.d0.at_.wait
        rw[hvq] at HWt
        by_cases hlk:k < p.Q.length
        ·have hlk':(k:Int) < (p.Q.length:Int):=by omega
         obtain⟨ib,io,rfl,-,ci,-,-⟩:=EvsAt.get HWt.out hlk
         have HT:Hid ((p.Q.take (k+1)).any (fun e=>e.off == wrap64 o)=((p.Q.take k).any (fun e=>e.off == wrap64 o) || (p.Q[k].off == wrap64 o))):=by
          show _=_
          rw[List.take_succ_eq_append_getElem hlk,List.any_append]
          simp
         cases x3 with
         | true=>
          go_wp2
          go_roundw
          case rel=>exact⟨k+1,true,by go_num,by omega,by rw[HT.out,← Bool.or_assoc,← hq.out.1];rfl,by exact hq.out.2.bad HO.out hB hg2 true⟩
          case measure=>simp[intOf];omega
         | false=>
          go_wp2
          exact⟨⟨k+1,(p.Q[k].off == wrap64 o),by go_num,by omega,by rw[HT.out,← Bool.or_assoc,← hq.out.1];simp,by exact hq.out.2.bad HO.out hB hg2 _⟩,by simp[intOf];omega⟩
        ·obtain rfl:k=p.Q.length:=by omega
         have hkf:decide ((p.Q.length:Int) < (p.Q.length:Int))=false:=by simp
         have HX3:Hid (x3=(((y || decide ((p.nx:Int)≤wrap64 o)) || os.any fun z=>z == wrap64 o) || p.Q.any fun e=>e.off == wrap64 o)):=by
          have:=hq.out.1
          rw[List.take_length,HX2.out,K5.out.1] at this
          exact this
         have K7:=hid hq.out.2
         obtain⟨u0,u1,u2,v0,v1,v2⟩:=res_three K7.out.u
         have hgs:=lt_of_block K7.out.u
         clear hq rc1 rf1 HWt
         obtain⟨i0,hi0,hz0,hz1,hz2⟩:=info_parts Tryz.infoIntS
         go_wp2_with (at_builtin;refine wpList_append_lies _ rfl _ _ 90 rfl (g+1) 3 i0 (.int .i64 0) 1 8 Tryz.underlying90 hi0 hz0 hz1 hz2 rfl (by decide) _ _ _ rfl (World.ownsRow.alloc K7.out.row _) ⟨wr.heap.size,0,none⟩ 1 1 [.int .i64 (wrap64 o)] rfl rfl (World.news_of_block (cs:=#[.int .i64 (wrap64 o)]) (new_at (by simp;done))) (by intro u hu;simp at hu;subst hu;rfl) (by decide) (by unfold maxLen;omega) (by omega) (by simp;omega) _ rfl ?_)
         intro g2 cap2 w7 ow2 gr2 hat hlt3
         obtain⟨a4,af,hp⟩:=DrU.push K7.out HF.out hB hE hP hg2 gr2 ow2
         have K8:=hid hp
         have R8:=hid (hr.out.2.step hin.1 ho S4.out HX3.out)
         clear ow2 gr2 hat hlt3 hp
         go_wp2
         go_roundw
         case rel=>exact⟨os.length+1,os++[wrap64 o],_,r4,x3,by go_num,by omega,by simp,by omega,by exact K8.out,R8.out⟩
         case measure=>simp[intOf];omega
  ·have hcf:decide ((os.length:Int) < wrap64 n)=false:=decide_eq_false hc
   cases x with
   | true=>
    go_wp2_with (go_at_call 36;fail)
    refine (rrMoment_s r true p.b wo hr.out.1.d0.rd (by omega)).mono ?_
    rintro e w5 ⟨hk5,t,r5,x5,rfl,ht0,ht1,hr5,hl5,hS5⟩
    obtain rfl:x5=true:=by simpa [StS,momS] using hS5
    have HDn:Hid (D=none):=by
     rcases hr.out.2 with ⟨-,h⟩ | ⟨h,-⟩
     ·exact h
     ·cases h
    have K5:=hid (hr.out.1.on HO.out hB hg2 hk5 hr5)
    obtain⟨u0,u1,u2,v0,v1,v2⟩:=res_three K5.out.u
    obtain⟨s0,s1,s2,y0,y1,y2⟩:=res_three K5.out.d0.res
    have rc5:=K5.out.d0.rd.c1
    clear hk5 hr5 hS5 rc1 rf1
    go_wp2
    obtain⟨f1,f2,f3,f4⟩:=K5.out.fin hB hg2 (.int .i64 t) (.int .i64 (wrap64 st)) (.slice va os.length vc) (.int .i64 t)
    obtain⟨e0,e1,e2,-,-,-⟩:=res_three f4
    refine bodyPost_ret (v:=.agg #[.int .i64 (wrap64 st),.slice va os.length vc,.int .i64 t]) (by simp[results,Tryz.results38,go_sem,e0,e1,e2]) rfl ?_
    refine⟨f1,_,_,_,os,r5,true,rfl,f3,f2,by omega,st,?_,fun h=>by cases h⟩
    rw[HD.out,HDn.out]
    rfl
   | false=>
    have hgd:D=Fr.dTail p.P.steps p.P.win p.W st (some (os,r))∧st < p.P.steps.length:=by
     rcases hr.out.2 with ⟨h,-⟩ | ⟨-,h3,h4,h5,h6⟩
     ·cases h
     ·have hin:os.length=n:=by unfold wrap64 at hc;omega
      rw[hin,Nat.sub_self,Fr.dOffs] at h6
      exact⟨h6,h5⟩
    obtain⟨hgd,hst4⟩:=hgd
    have HGD:=hid hgd
    clear hgd
    go_wp2_with (go_at_call 36;fail)
    refine (rrMoment_s r false p.b wo hr.out.1.d0.rd (by omega)).mono ?_
    rintro e w5 ⟨hk5,t,r5,x5,rfl,ht0,ht1,hr5,hl5,hS5⟩
    have K5:=hid (hr.out.1.on HO.out hB hg2 hk5 hr5)
    obtain⟨u0,u1,u2,v0,v1,v2⟩:=res_three K5.out.u
    obtain⟨s0,s1,s2,y0,y1,y2⟩:=res_three K5.out.d0.res
    have rc5:=K5.out.d0.rd.c1
    have S5:=hid hS5
    clear hk5 hr5 hS5 rc1 rf1
    cases x5 with
    | true=>
     have HDn:Hid (D=none):=by
      show _=_
      rw[HGD.out,Fr.dTail]
      have h1:=S5.out
      unfold momS at h1
      simp only[Bool.false_eq_true,if_false] at h1
      cases e1:Fr.rdM r with
      | none=>rfl
      | some q=>rw[e1] at h1;exact absurd h1.1 (by simp)
     go_wp2
     obtain⟨f1,f2,f3,f4⟩:=K5.out.fin hB hg2 (.int .i64 t) (.int .i64 (wrap64 st)) (.slice va os.length vc) (.int .i64 t)
     obtain⟨e0,e1,e2,-,-,-⟩:=res_three f4
     refine bodyPost_ret (v:=.agg #[.int .i64 (wrap64 st),.slice va os.length vc,.int .i64 t]) (by simp[results,Tryz.results38,go_sem,e0,e1,e2]) rfl ?_
     refine⟨f1,_,_,_,os,r5,true,rfl,f3,f2,by omega,st,?_,fun h=>by cases h⟩
     rw[HD.out,HDn.out]
     rfl
    | false=>
     go_wp2
     have K6:=hid (K5.out.first HF.out hB hE hP hg2 (.int .i64 t))
     generalize w5.setCell ⟨g,2,none⟩ (.int .i64 t)=W6 at *
     clear K5 u0 u1 u2 v0 v1 v2 s0 s1 s2 y0 y1 y2 rc5
     obtain⟨u0,u1,u2,v0,v1,v2⟩:=res_three K6.out.u
     obtain⟨s0,s1,s2,y0,y1,y2⟩:=res_three K6.out.d0.res
     obtain⟨c0,c1,c2,c3,c4,c5,cf⟩:=eng_cells K6.out.d0.at_.blk
     obtain⟨p0,p1,-,-⟩:=res_cells K6.out.d0.at_.pat
     rw[hvs] at p0
     have rc6:=K6.out.d0.rd.c1
     have rf6:=K6.out.d0.rd.f 1
     have hws:wrap64 (st:Int)=st:=by unfold wrap64;omega
     have HRW:=hid K6.out.d0.at_.steps
     rw[hvs] at HRW
     rw[hws] at u0
     clear hws
     go_loopw [12,13] (fun s12 s13 wr=>∃k:Nat,s13=.int .i64 k∧k≤st+1∧s12=.bool ((p.P.steps.take k).any fun x=>x.2)∧Hid (wr=W6)) (fun _ s13 _=>st+1 - (intOf s13).toNat)
     case atStart=>exact⟨0,rfl,Nat.zero_le _,rfl,hid rfl⟩
     case round=>
      obtain⟨k,rfl,hk,rfl,hwr⟩:=hrel
      have hwr':=hwr.out.symm
      subst hwr'
      clear hwr
      by_cases hlk:k≤st
      ·have hlk':(k:Int)≤(st:Int):=by omega
       obtain⟨ib,io,rfl,-,cp⟩:=row_step HRW.out (i:=k) (by omega)
       have hks:(k:Int) < (p.P.steps.length:Int):=by omega
       have HT:Hid ((p.P.steps.take (k+1)).any (fun x=>x.2)=((p.P.steps.take k).any (fun x=>x.2) || (p.P.steps[k]'(by omega)).2)):=by
        show _=_
        rw[List.take_succ_eq_append_getElem (by omega),List.any_append]
        simp
       cases hpl:(p.P.steps.take k).any fun x=>x.2 with
       | true=>
        have HPL:=hid hpl
        clear hpl
        go_wp2
        go_roundw
        case rel=>exact⟨k+1,by go_num,by omega,by rw[HT.out,HPL.out];rfl,hid trivial⟩
        case measure=>simp[intOf];omega
       | false=>
        have HPL:=hid hpl
        clear hpl
        go_wp2
        go_roundw
        case rel=>exact⟨k+1,by go_num,by omega,by rw[HT.out,HPL.out];simp,hid trivial⟩
        case measure=>simp[intOf];omega
      ·obtain rfl:k=st+1:=by omega
       have hlk':decide (((st+1:Nat):Int)≤(st:Int))=false:=decide_eq_false (by omega)
       obtain⟨pl,hpl⟩:∃pl,(p.P.steps.take (st+1)).any (fun x=>x.2)=pl:=⟨_,rfl⟩
       have ej:((st+1:Nat):Int)=(st:Int)+1:=by omega
       rw[hpl,ej]
       rw[ej] at hlk'
       clear ej
       have HPL:=hid hpl
       clear hpl
       obtain⟨gs,hgs⟩:∃gs,En.goes p.P st=gs:=⟨_,rfl⟩
       have HGs:=hid hgs
       have HGo:Hid (∀V,Below W6.heap.size W6 V→Calls Tryz.prog 70 #[.pointer (some ⟨p.pb,0,none⟩),.int .i64 st] V fun e w'=>e=.returned (.bool gs)∧w'=V):=fun V hV=>by rw[← hgs];exact rGoes_row p.F p.pb p.P _ V (RowAt.below HRW.out hV) ((cell_bel hV ⟨p.pb,0,none⟩ (Nat.lt_of_lt_of_le hP K6.out.d0.but.size)).trans p0) hs4 st hst4
       clear hgs
       go_wp2
       go_region_held3 (fun V=>V.cell? ⟨p.eb,0,none⟩=some (.pointer (some ⟨p.pb,0,none⟩))∧V.cell? ⟨g,0,none⟩=some (.int .i64 st)) (go_keep) ((go_at_call 70;refine (HGo.out _ (by first | exact bel_drewN (Below.refl _ _) _ | exact Below.drew (Below.refl _ _) | exact Below.refl _ _)).mono ?_;rintro e w7 ⟨rfl,hw7⟩;have hw7':=hw7.symm;subst hw7'))
       go_upto_region 27 with fail
       go_cut [] (fun wx=>∃x6,Hid (x6=(((!gs || decide (os.length < st+1)) || (!pl && decide (st+1 < os.length))) || decide (p.W < t))∧DrU p w wx g r5 x6 (.int .i64 (wrap64 st)) (.slice va os.length vc) (.int .i64 t) os))
       case first=>
        cases gs with
        | false=>
         go_region
         all_goals (go_wp2;go_meet;case rel=>exact⟨true,by simp,by exact (K6.out.bad HO.out hB hg2 true).on HO.out hB hg2 (But.drew1 (But.drew1 (But.refl _ _))) (by exact (K6.out.bad HO.out hB hg2 true).d0.rd)⟩)
        | true=>
         by_cases hA:(os.length:Int) < (st:Int)+1
         ·go_region
          all_goals (go_wp2;go_meet;case rel=>exact⟨true,by simp;omega,by exact (K6.out.bad HO.out hB hg2 true).on HO.out hB hg2 (But.drew1 (But.drew1 (But.refl _ _))) (by exact (K6.out.bad HO.out hB hg2 true).d0.rd)⟩)
         ·have hA':decide ((os.length:Int) < (st:Int)+1)=false:=decide_eq_false hA
          obtain⟨wt,hwt⟩:∃wt,decide (p.W < t)=wt:=⟨_,rfl⟩
          have HWT:=hid hwt
          have HA2:Hid (decide (os.length < st+1)=false):=decide_eq_false (show ¬ os.length < st+1 by omega)
          cases pl with
          | true=>
           go_region
           all_goals (go_wp2;go_meet;case rel=>exact⟨wt,by rw[HWT.out,HA2.out];cases wt<;>rfl,by exact (K6.out.bad HO.out hB hg2 wt).on HO.out hB hg2 (But.drew1 (But.drew1 (But.refl _ _))) (by exact (K6.out.bad HO.out hB hg2 wt).d0.rd)⟩)
          | false=>
           by_cases hM:(st:Int)+1 < (os.length:Int)
           ·go_region
            all_goals (go_wp2;go_meet;case rel=>exact⟨true,by simp;omega,by exact (K6.out.bad HO.out hB hg2 true).on HO.out hB hg2 (But.drew1 (But.drew1 (But.refl _ _))) (by exact (K6.out.bad HO.out hB hg2 true).d0.rd)⟩)
           ·have hM':decide ((st:Int)+1 < (os.length:Int))=false:=decide_eq_false hM
            have HM2:Hid (decide (st+1 < os.length)=false):=decide_eq_false (by omega)
            go_region
            all_goals (go_wp2;go_meet;case rel=>exact⟨wt,by rw[HWT.out,HA2.out,HM2.out];cases wt<;>rfl,by exact (K6.out.bad HO.out hB hg2 wt).on HO.out hB hg2 (But.drew1 (But.drew1 (But.refl _ _))) (by exact (K6.out.bad HO.out hB hg2 wt).d0.rd)⟩)
       case rest=>
        obtain⟨x6,hx⟩:=hcut
        have HX6:=hid hx.out.1
        have K7:=hid hx.out.2
        clear hx
        obtain⟨u0,u1,u2,v0,v1,v2⟩:=res_three K7.out.u
        obtain⟨s0,s1,s2,y0,y1,y2⟩:=res_three K7.out.d0.res
        obtain⟨c0,c1,c2,c3,c4,c5,cf⟩:=eng_cells K7.out.d0.at_.blk
        obtain⟨p0,p1,-,-⟩:=res_cells K7.out.d0.at_.pat
        have rc7:=K7.out.d0.rd.c1
        have rf7:=K7.out.d0.rd.f 1
        have HTl:Hid (D=if goesOn p.P.steps st=true∧fits p.P.steps st os.length=true∧t≤p.W∧En.far p.W t < p.P.win then some (⟨st,os,t⟩,r5) else none):=by
         show _=_
         rw[HGD.out,Fr.dTail]
         have h1:=S5.out
         unfold momS at h1
         simp only[Bool.false_eq_true,if_false] at h1
         cases e1:Fr.rdM r with
         | none=>rw[e1] at h1;cases h1
         | some q=>
          obtain⟨m,r'⟩:=q
          rw[e1] at h1
          obtain⟨-,rfl,rfl⟩:=h1
          rfl
        have HOK:Hid ((goesOn p.P.steps st=true∧fits p.P.steps st os.length=true∧t≤p.W)↔x6=false):=by
         have h1:=run_ok (n:=os.length) (W:=p.W) (t:=t) hst4 HGs.out HPL.out
         rw[← HX6.out] at h1
         exact h1
        cases x6 with
        | true=>
         have HDn:Hid (D=none):=by
          show _=_
          rw[HTl.out,if_neg (fun h=>by have:=HOK.out.1 ⟨h.1,h.2.1,h.2.2.1⟩;cases this)]
         go_wp2
         obtain⟨f1,f2,f3,f4⟩:=K7.out.fin0 hB hg2 (.int .i64 (wrap64 st)) (.slice va os.length vc) (.int .i64 t)
         obtain⟨e0,e1,e2,-,-,-⟩:=res_three f4
         refine bodyPost_ret (v:=.agg #[.int .i64 (wrap64 st),.slice va os.length vc,.int .i64 t]) (by simp[results,Tryz.results38,go_sem,e0,e1,e2]) rfl ?_
         refine⟨f1,_,_,_,os,r5,true,rfl,f3,f2,by omega,st,?_,fun h=>by cases h⟩
         rw[HD.out,HDn.out]
         rfl
        | false=>
         have HFar:=hid (fun n=>rFar_any p.W t (wc.drewN n))
         have hfr0:0≤En.far p.W t:=by unfold En.far;omega
         have hfr1:En.far p.W t < 18446744073709551616:=by unfold En.far;omega
         obtain⟨fr,hfe⟩:∃fr,En.far p.W t=fr:=⟨_,rfl⟩
         rw[hfe] at HFar HTl hfr0 hfr1
         clear hfe
         have hw1:=HO.out.fine.w0
         have hw2:=HO.out.fine.w9
         by_cases hfr:fr < p.P.win
         ·have hfr':decide (p.P.win≤fr)=false:=decide_eq_false (by omega)
          go_wp2
          go_quiet ((go_at_call 71;exact Calls.quiet_of_same (HFar.out _)))
          revert nq;intro n1
          go_wp2
          have hnb:But p.b wc (wc.drewN n1):=But.ofBelow (bel_drewN (Below.refl _ _) n1)
          have K8:=hid ((K7.out.on HO.out hB hg2 hnb (((bel_drewN (Below.refl wc.heap.size wc) n1).block p.b (lt_of_block K7.out.d0.rd)).trans K7.out.d0.rd)).bad HO.out hB hg2 false)
          obtain⟨f1,f2,f3,f4⟩:=K8.out.fin0 hB hg2 (.int .i64 (wrap64 st)) (.slice va os.length vc) (.int .i64 t)
          obtain⟨e0,e1,e2,-,-,-⟩:=res_three f4
          refine bodyPost_ret (v:=.agg #[.int .i64 (wrap64 st),.slice va os.length vc,.int .i64 t]) (by simp[results,Tryz.results38,go_sem,e0,e1,e2]) rfl ?_
          refine⟨f1,_,_,_,os,r5,false,rfl,f3,f2,by omega,st,?_,fun _=>by unfold wrap64;omega⟩
          rw[HD.out,HTl.out,if_pos (by have h1:=HOK.out.2 (by first | trivial | rfl);exact⟨h1.1,h1.2.1,h1.2.2,hfr⟩)]
          exact⟨rfl,rfl,rfl⟩
         ·have hfr':p.P.win≤fr:=by omega
          go_wp2
          go_quiet ((go_at_call 71;exact Calls.quiet_of_same (HFar.out _)))
          revert nq;intro n1
          go_wp2
          have hnb:But p.b wc (wc.drewN n1):=But.ofBelow (bel_drewN (Below.refl _ _) n1)
          have K8:=hid ((K7.out.on HO.out hB hg2 hnb (((bel_drewN (Below.refl wc.heap.size wc) n1).block p.b (lt_of_block K7.out.d0.rd)).trans K7.out.d0.rd)).bad HO.out hB hg2 true)
          obtain⟨f1,f2,f3,f4⟩:=K8.out.fin0 hB hg2 (.int .i64 (wrap64 st)) (.slice va os.length vc) (.int .i64 t)
          obtain⟨e0,e1,e2,-,-,-⟩:=res_three f4
          refine bodyPost_ret (v:=.agg #[.int .i64 (wrap64 st),.slice va os.length vc,.int .i64 t]) (by simp[results,Tryz.results38,go_sem,e0,e1,e2]) rfl ?_
          refine⟨f1,_,_,_,os,r5,true,rfl,f3,f2,by omega,st,?_,fun h=>by cases h⟩
          rw[HD.out,HTl.out,if_neg (fun h=>by have:=h.2.2.2;omega)]
          rfl
end Go.Proofs.YtfldcmdhneegmaaGreatDoor

import Derived.Test.YtfldcmdhneegmaaGreatDoorY31
import Derived.Deep.RegionLaw
import Derived.Deep.AppendLies
import Derived.Test.YtfldcmdhneegmaaGreatDoorY10
set_option maxHeartbeats 4000000
set_option maxRecDepth 1000000
namespace Go.Proofs.YtfldcmdhneegmaaGreatDoor
open Go.RowKit Go.Lib
theorem quiet_two_same {P:Program}{f:FuncId}{args:Array Value}{w:World}{q n:Nat}{v:Value}
  (h:Calls P f args (w.drewN (q+n)) fun e w'=>e=.returned v∧w'=w.drewN (q+n)):Calls P f args (w.drewN (q+n)) fun e w''=>e=.returned v∧∃m,w''=w.drewN (q+m):=
 h.mono fun _ _ ⟨he,hm⟩=>⟨he,n,hm⟩
structure REng (F:Nat→Prop)(w:World)(eb pb:Nat)(P:En.Pat)(W Next:Int)(vs vw vd vo:Value)(Q D:List En.Ev)(old:List RV):Prop where
 blk:w.heap[eb]?=some (.cells #[.pointer (some ⟨pb,0,none⟩),.int .i64 W,.int .i64 Next,vw,vd,vo] 86 (0,0))
 ne:¬ F eb
 pat:w.heap[pb]?=some (.cells #[vs,.int .i64 P.win] 99 (0,0))
 fp:F pb
 lt:∀b,F b→b < w.heap.size
 steps:RowAt F w vs 2 P.steps.length (stepRow P.steps)
 wait:w.ownsRow 0 89 3 vw Q.length (evCells Q)
 wne:∀g,vw.ownBlock=some g→¬ F g
 done:EvsAt F w vd D
 old:RunsAt F w vo old
theorem own_set {w:World}{base b o:Nat}{e:TypeId}{size:Nat}{v u:Value}{n:Nat}{xs:List Value}(h:w.ownsRow base e size v n xs)(hne:v.ownBlock≠some b):(w.setCell ⟨b,o,none⟩ u).ownsRow base e size v n xs:=by
 refine⟨h.1,?_⟩
 rcases h.2 with h2 | ⟨g,cap,cur,hv,hg,hh,r⟩
 ·exact Or.inl h2
 ·refine Or.inr ⟨g,cap,cur,hv,hg,?_,r⟩
  rw[Below.heap_setCell _ _ _ _ (fun e'=>hne (by rw[hv];exact congrArg some e'))]
  exact hh
section
variable {F:Nat→Prop} {w:World} {eb pb:Nat} {P:En.Pat} {W Next:Int} {vs vw vd vo:Value} {Q D:List En.Ev} {old:List RV}
theorem REng.c0 (h:REng F w eb pb P W Next vs vw vd vo Q D old):w.cell? ⟨eb,0,none⟩=some (.pointer (some ⟨pb,0,none⟩)):=by simp[World.cell?,h.blk]
theorem REng.c1 (h:REng F w eb pb P W Next vs vw vd vo Q D old):w.cell? ⟨eb,1,none⟩=some (.int .i64 W):=by simp[World.cell?,h.blk]
theorem REng.c2 (h:REng F w eb pb P W Next vs vw vd vo Q D old):w.cell? ⟨eb,2,none⟩=some (.int .i64 Next):=by simp[World.cell?,h.blk]
theorem REng.c3 (h:REng F w eb pb P W Next vs vw vd vo Q D old):w.cell? ⟨eb,3,none⟩=some vw:=by simp[World.cell?,h.blk]
theorem REng.c4 (h:REng F w eb pb P W Next vs vw vd vo Q D old):w.cell? ⟨eb,4,none⟩=some vd:=by simp[World.cell?,h.blk]
theorem REng.c5 (h:REng F w eb pb P W Next vs vw vd vo Q D old):w.cell? ⟨eb,5,none⟩=some vo:=by simp[World.cell?,h.blk]
theorem REng.fz (h:REng F w eb pb P W Next vs vw vd vo Q D old)(k:Nat):w.frozen? ⟨eb,k,none⟩=false:=by simp[World.frozen?,h.blk]
theorem REng.wneb (h:REng F w eb pb P W Next vs vw vd vo Q D old):vw.ownBlock≠some eb:=by
 intro e
 obtain⟨-,c,fz,h1⟩:=own_block h.wait eb e
 rw[h.blk] at h1
 cases h1
theorem REng.reads (h:REng F w eb pb P W Next vs vw vd vo Q D old):Reads F w eb pb P vs vd vo D old where
 e0:=h.c0
 e4:=h.c4
 e5:=h.c5
 p0:=by simp[World.cell?,h.pat]
 p1:=by simp[World.cell?,h.pat]
 steps:=h.steps
 done:=h.done
 old:=h.old
theorem REng.turned {w':World}{vw':Value}{W' N':Int}{Q':List En.Ev}(h:REng F w eb pb P W Next vs vw vd vo Q D old)(hs:w.heap.size≤w'.heap.size)(hb:∀b,b < w.heap.size→F b→w'.heap[b]?=w.heap[b]?)
  (hblk:w'.heap[eb]?=some (.cells #[.pointer (some ⟨pb,0,none⟩),.int .i64 W',.int .i64 N',vw',vd,vo] 86 (0,0))) (hw:w'.ownsRow 0 89 3 vw' Q'.length (evCells Q')) (hwn:∀g,vw'.ownBlock=some g→¬ F g) :
  REng F w' eb pb P W' N' vs vw' vd vo Q' D old where
 blk:=hblk
 ne:=h.ne
 pat:=by rw[hb pb (h.lt _ h.fp) h.fp];exact h.pat
 fp:=h.fp
 lt:=fun b hF=>Nat.lt_of_lt_of_le (h.lt b hF) hs
 steps:=h.steps.frame hs hb
 wait:=hw
 wne:=hwn
 done:=RowAt.frame h.done hs hb
 old:=h.old.frame hs hb
theorem REng.below {w':World}(h:REng F w eb pb P W Next vs vw vd vo Q D old)(hb:Below w.heap.size w w'):REng F w' eb pb P W Next vs vw vd vo Q D old:=
 h.turned hb.size (fun b hb' _=>hb.block b hb') (by rw[hb.block eb (lt_of_block h.blk)];exact h.blk) (own_below h.wait hb) h.wne
end
structure Apart (eb:Nat)(vw:Value)(w w':World):Prop where
 os:w'.os=w.os
 tape:w'.tape=w.tape
 output:w'.output=w.output
 size:w.heap.size≤w'.heap.size
 block:∀k,k < w.heap.size→k≠eb→some k≠vw.ownBlock→w'.heap[k]?=w.heap[k]?
theorem Apart.of {eb:Nat}{vw:Value}{w w':World}(h:Below w.heap.size w w'):Apart eb vw w w':=⟨h.os,h.tape,h.output,h.size,fun k hk _ _=>h.block k hk⟩
theorem Apart.after {eb:Nat}{vw:Value}{w w1 w':World}(h:Below w.heap.size w w1)(k:Apart eb vw w1 w'):Apart eb vw w w':=
 ⟨k.os.trans h.os,k.tape.trans h.tape,k.output.trans h.output,Nat.le_trans h.size k.size,fun b h1 h2 h3=>(k.block b (Nat.lt_of_lt_of_le h1 h.size) h2 h3).trans (h.block b h1)⟩
theorem Apart.setCell {eb:Nat}{vw:Value}{w w':World}(h:Apart eb vw w w')(o:Nat)(u:Value):Apart eb vw w (w'.setCell ⟨eb,o,none⟩ u):=
 ⟨h.os,h.tape,h.output,by simpa [World.setCell] using h.size,fun k h1 h2 h3=>by rw[Below.heap_setCell _ _ _ _ h2];exact h.block k h1 h2 h3⟩
def FeedEnd (F:Nat→Prop)(eb pb:Nat)(P:En.Pat)(W:Int)(vs vw vd vo:Value)(D:List En.Ev)(old:List RV)(r:(Int × Int) × Int × List En.Ev)(w:World)(e:Ending)(w':World):Prop:=
 e=.returned (.tuple #[.int .i64 r.1.1,.int .i64 r.1.2])∧Apart eb vw w w'∧∃vw',REng F w' eb pb P W r.2.1 vs vw' vd vo r.2.2 D old∧∀g,vw'.ownBlock=some g→vw.ownBlock=some g∨w.heap.size≤g
theorem blk6_set {w:World}{b:Nat}{x0 x1 x2 x3 x4 x5:Value}{t:TypeId}(h:w.heap[b]?=some (.cells #[x0,x1,x2,x3,x4,x5] t (0,0)))(u:Value) :
  (w.setCell ⟨b,1,none⟩ u).heap[b]?=some (.cells #[x0,u,x2,x3,x4,x5] t (0,0))∧(w.setCell ⟨b,2,none⟩ u).heap[b]?=some (.cells #[x0,x1,u,x3,x4,x5] t (0,0))∧(w.setCell ⟨b,3,none⟩ u).heap[b]?=some (.cells #[x0,x1,x2,u,x4,x5] t (0,0))∧(w.setCell ⟨b,4,none⟩ u).heap[b]?=some (.cells #[x0,x1,x2,x3,u,x5] t (0,0))∧(w.setCell ⟨b,5,none⟩ u).heap[b]?=some (.cells #[x0,x1,x2,x3,x4,u] t (0,0)):=by
 have hlt:=lt_of_block h
 have h':w.heap[b]=.cells #[x0,x1,x2,x3,x4,x5] t (0,0):=by simpa [Array.getElem?_eq_getElem hlt] using h
 refine⟨?_,?_,?_,?_,?_⟩
 all_goals
  show (w.heap.modify b _)[b]?=_
  rw[Array.getElem?_eq_getElem (by simpa using hlt),Array.getElem_modify_self,h']
  rfl
theorem feed_grown {F:Nat→Prop}{W2 V w3:World}{eb pb:Nat}{P:En.Pat}{W Next:Int}{vs vw vd vo:Value}{Q D:List En.Ev}{old:List RV}{ev:En.Ev}{g cap:Nat}(HE:REng F W2 eb pb P W Next vs vw vd vo Q D old)(hV:Below W2.heap.size W2 V)
  (own:w3.ownsRow 0 89 3 (.slice (some ⟨g,0,none⟩) (Q.length+1) cap) (Q.length+1) (evCells Q++[.int .i64 ev.off,.int .i32 ev.kind,.int .i64 ev.time])) (gr:V.grownBy w3 vw.ownBlock) (hg:vw.ownBlock=some g∨g=V.heap.size) :
  REng F (w3.setCell ⟨eb,3,none⟩ (.slice (some ⟨g,0,none⟩) (Q.length+1) cap)) eb pb P W Next vs (.slice (some ⟨g,0,none⟩) (Q.length+1) cap) vd vo (Q++[ev]) D old∧Apart eb vw W2 (w3.setCell ⟨eb,3,none⟩ (.slice (some ⟨g,0,none⟩) (Q.length+1) cap))∧∀g',(Value.slice (some ⟨g,0,none⟩) (Q.length+1) cap).ownBlock=some g'→vw.ownBlock=some g'∨W2.heap.size≤g':=by
 have hsz:W2.heap.size≤w3.heap.size:=Nat.le_trans hV.size gr.size
 have hblk:∀k,k < W2.heap.size→some k≠vw.ownBlock→w3.heap[k]?=W2.heap[k]?:=fun k hk hn=>(gr.block k (Nat.lt_of_lt_of_le hk hV.size) hn).trans (hV.block k hk)
 have he3:w3.heap[eb]?=some (.cells #[.pointer (some ⟨pb,0,none⟩),.int .i64 W,.int .i64 Next,vw,vd,vo] 86 (0,0)):=(hblk eb (lt_of_block HE.blk) (fun e=>HE.wneb e.symm)).trans HE.blk
 have hge:g≠eb:=by
  intro e
  obtain⟨-,c,fz,h1⟩:=own_block own g rfl
  rw[e,he3] at h1
  cases h1
 refine⟨HE.turned (by simpa [World.setCell] using hsz) (fun b hb hF=>?_) (blk6_set he3 _).2.2.1 ?_ (fun g' hg'=>?_),⟨?_,?_,?_,by simpa [World.setCell] using hsz,fun k hk h1 h2=>?_⟩,fun g' hg'=>?_⟩
 ·have hbe:b≠eb:=fun e=>HE.ne (by rw[← e];exact hF)
  rw[Below.heap_setCell _ _ _ _ hbe]
  exact hblk b hb (fun e=>HE.wne b e.symm hF)
 ·have:=own_set (u:=.slice (some ⟨g,0,none⟩) (Q.length+1) cap) (o:=3) own (b:=eb) (fun e=>hge (Option.some.inj e))
  simpa [evCells] using this
 ·have e1:g=g':=Option.some.inj hg'
  subst e1
  rcases hg with hg | hg
  ·exact HE.wne g hg
  ·intro hF
   have:=HE.lt g hF
   have:=hV.size
   omega
 ·exact gr.os.trans hV.os
 ·exact gr.tape.trans hV.tape
 ·exact gr.output.trans hV.output
 ·rw[Below.heap_setCell _ _ _ _ h1]
  exact hblk k hk h2
 ·have e1:g=g':=Option.some.inj hg'
  subst e1
  rcases hg with hg | hg
  ·exact Or.inl hg
  ·exact Or.inr (by have:=hV.size;omega)
theorem rNew_any (pb:Nat)(w:World) :
  Calls Tryz.prog 16 #[.pointer (some ⟨pb,0,none⟩)] w fun e w'=>e=.returned (.pointer (some ⟨w.heap.size,0,none⟩))∧w'=w.alloc (.cells #[.pointer (some ⟨pb,0,none⟩),.int .i64 (-9223372036854775808),.int .i64 0,.slice none 0 0,.slice none 0 0,.slice none 0 0] 86):=by
 go_enter Tryz.func16,Tryz.ntmps16
 go_wp2
 go_ret
 exact⟨rfl,rfl⟩
theorem rFeed_any (F:Nat→Prop)(eb pb:Nat)(P:En.Pat)(W Next:Int)(vs vw vd vo:Value)(Q D:List En.Ev)(old:List RV)(w:World)(h:REng F w eb pb P W Next vs vw vd vo Q D old)(hs4:P.steps.length≤4)(hQ:Q.length≤12)(n0:0≤Next)(n1:Next≤1000000000)(kind time:Int) :
  Calls Tryz.prog 17 #[.pointer (some ⟨eb,0,none⟩),.agg #[.int .i32 kind,.int .i64 time]] w fun e w'=>FeedEnd F eb pb P W vs vw vd vo D old (En.feed P W Next Q kind time) w e w':=by
 have hal:=(Below.refl w.heap.size w).alloc (Nat.le_refl _) (.cells #[.int .i32 kind,.int .i64 time] 39)
 have H1:=hid (h.below hal)
 have HAL:=hid hal
 obtain⟨aw,cw,rfl⟩:=own_slice h.wait
 have HWL:Hid (∀g,(Value.slice aw Q.length cw).ownBlock=some g→g < w.heap.size):=fun g hg=>(h.wait.lt g hg).2
 clear h hal
 go_enter Tryz.func17,Tryz.ntmps17
 go_wp2
 generalize hw1:w.alloc (.cells #[.int .i32 kind,.int .i64 time] 39)=w1 at H1 HAL ⊢
 have r0:w1.cell? ⟨w.heap.size,0,none⟩=some (.int .i32 kind):=by rw[← hw1];simp
 have r1:w1.cell? ⟨w.heap.size,1,none⟩=some (.int .i64 time):=by rw[← hw1];simp
 have hsz:w.heap.size < w1.heap.size:=World.block_lt_of_cell? w1 ⟨w.heap.size,0,none⟩ r0
 clear hw1
 have c0:=H1.out.c0
 have c1:=H1.out.c1
 have c2:=H1.out.c2
 have c3:=H1.out.c3
 have HHas:=hid (fun n=>rHas_any F eb pb P vs vd vo D old (w1.drewN n) (H1.out.reads.below (bel_drewN (Below.refl _ _) n)) hs4 kind)
 by_cases hlate:time≤W
 ·go_quiet (fail)
  revert nq;intro n1
  go_wp2
  go_ret2
  rw[show En.feed P W Next Q kind time=((0,3),Next,Q) by simp[En.feed,hlate]]
  exact⟨rfl,Apart.of (HAL.out.trans (bel_drewN (Below.refl _ _) _)),_,H1.out.below (bel_drewN (Below.refl _ _) _),fun g hg=>Or.inl hg⟩
 ·have hl':decide (time≤W)=false:=by simpa using hlate
  have HLT:=hid hlate
  cases hh:En.has P kind
  ·rw[hh] at HHas
   have HH:=hid hh
   clear hh hlate
   go_quiet (fail)
   revert nq;intro n1
   go_wp2
   go_quiet ((go_at_call 37;first | exact Calls.quiet_of_same (HHas.out _) | exact quiet_two_same (HHas.out _)))
   revert nq;intro n2
   have HD:=hid (((Dr.refl w1).step n1).step n2)
   have c2':=(HD.out.cell ⟨eb,2,none⟩).trans c2
   generalize (w1.drewN n1).drewN n2=W2 at HD c2' ⊢
   have HE:=hid (H1.out.below (HD.out.below _))
   have f2:=HE.out.fz 2
   go_wp2
   go_ret2
   rw[show En.feed P W Next Q kind time=((Next,0),Next+1,Q) by simp[En.feed,HLT.out,HH.out]]
   refine⟨by simp,(Apart.of (HAL.out.trans (HD.out.below _))).setCell 2 _,_,HE.out.turned (by simp[World.setCell]) (fun b hb hF=>Below.heap_setCell _ _ _ _ (fun e=>HE.out.ne (by have e':b=eb:=e;rw[← e'];exact hF))) (blk6_set HE.out.blk _).2.1 (own_set HE.out.wait HE.out.wneb) HE.out.wne,fun g hg=>Or.inl hg⟩
  ·rw[hh] at HHas
   have HH:=hid hh
   clear hh hlate
   by_cases h12:12≤Q.length
   ·have h12':(12:Int)≤(Q.length:Int):=by omega
    go_quiet (fail)
    revert nq;intro n1
    go_wp2
    go_quiet ((go_at_call 37;first | exact Calls.quiet_of_same (HHas.out _) | exact quiet_two_same (HHas.out _)))
    revert nq;intro n2
    have HD:=hid (((Dr.refl w1).step n1).step n2)
    have c3':=(HD.out.cell ⟨eb,3,none⟩).trans c3
    generalize (w1.drewN n1).drewN n2=W2 at HD c3' ⊢
    go_wp2
    go_ret2
    rw[show En.feed P W Next Q kind time=((0,4),Next,Q) by simp[En.feed,HLT.out,HH.out,h12]]
    exact⟨rfl,Apart.of (HAL.out.trans (HD.out.below _)),_,H1.out.below (HD.out.below _),fun g hg=>Or.inl hg⟩
   ·have h12':decide ((12:Int)≤(Q.length:Int))=false:=by simp;omega
    go_quiet (fail)
    revert nq;intro n1
    go_wp2
    go_quiet ((go_at_call 37;first | exact Calls.quiet_of_same (HHas.out _) | exact quiet_two_same (HHas.out _)))
    revert nq;intro n2
    have HD:=hid (((Dr.refl w1).step n1).step n2)
    have c2':=(HD.out.cell ⟨eb,2,none⟩).trans c2
    have c3':=(HD.out.cell ⟨eb,3,none⟩).trans c3
    have r0':=(HD.out.cell ⟨w.heap.size,0,none⟩).trans r0
    have r1':=(HD.out.cell ⟨w.heap.size,1,none⟩).trans r1
    generalize (w1.drewN n1).drewN n2=W2 at HD c2' c3' r0' r1' ⊢
    have HE:=hid (H1.out.below (HD.out.below _))
    have f3:=HE.out.fz 3
    have hze:eb < W2.heap.size:=lt_of_block HE.out.blk
    have hzw:w.heap.size < W2.heap.size:=Nat.lt_of_lt_of_le hsz (HD.out.below 0).size
    obtain⟨i0,hi,hz0,hz1,hz2⟩:=info_parts Tryz.infoEv
    clear c0 c1 c2 c3 r0 r1
    go_upto_region 7 with fail
    go_cut [] (fun wx=>∃vw',Hid (REng F wx eb pb P W Next vs vw' vd vo (Q++[⟨Next,kind,time⟩]) D old∧Apart eb (.slice aw Q.length cw) W2 wx∧∀g,vw'.ownBlock=some g→(Value.slice aw Q.length cw).ownBlock=some g∨W2.heap.size≤g))
    case first=>
     have hne1:some eb≠(Value.slice aw Q.length cw).ownBlock:=fun e=>HE.out.wneb e.symm
     have HNE:=hid hne1
     clear hne1
     go_region_law (refine step_append_lies _ rfl (.tmp 35) (.tmp 45) 83 rfl 0 89 i0 (.agg #[.int .i64 0,.int .i32 0,.int .i64 0]) 3 24 Tryz.underlying83 hi hz0 hz1 hz2 rfl (by decide) (.slice aw Q.length cw) Q.length (evCells Q) rfl (HE.out.wait.alloc _) ⟨W2.heap.size,0,none⟩ 1 1 [.int .i64 Next,.int .i32 kind,.int .i64 time] rfl rfl (World.news_of_block (cs:=#[.int .i64 Next,.int .i32 kind,.int .i64 time]) (new_at (by simp;done))) (by intro u hu;simp at hu;rcases hu with rfl | rfl | rfl<;>rfl) (by decide) (by unfold maxLen;omega) (by omega) (Nat.zero_le _) _ rfl ?_;intro g cap w3 ow2 gr2 hat hlt;have fz3:w3.frozen? ⟨eb,3,none⟩=false:=(World.frozen?_of_block (gr2.block eb (by simp;omega) HNE.out)).trans ((World.frozen?_alloc_old W2 _ ⟨eb,3,none⟩ (Nat.ne_of_lt hze)).trans f3);have q3:w3.cell? ⟨eb,3,none⟩=some (.slice aw Q.length cw):=gr2.cell (by simpa using (World.cell?_alloc_lt W2 _ ⟨eb,3,none⟩ hze).trans c3') HNE.out;have O2:=hid (feed_grown (ev:=⟨Next,kind,time⟩) HE.out (((Below.refl _ W2).alloc (Nat.le_refl _) _).drew) ow2 gr2 hat);clear ow2 gr2 hat hlt)
     all_goals (go_wp2;go_meet;case rel=>exact⟨_,O2⟩)
    case rest=>
     obtain⟨vw',hc⟩:=hcut
     have d2:=hc.out.1.c2
     have f2:=hc.out.1.fz 2
     go_wp2
     go_ret2
     rw[show En.feed P W Next Q kind time=((Next,0),Next+1,Q++[⟨Next,kind,time⟩]) by simp[En.feed,HLT.out,HH.out,h12]]
     refine⟨by simp,(Apart.after (HAL.out.trans ((HD.out.below _).mono HAL.out.size)) hc.out.2.1).setCell 2 _,_,hc.out.1.turned (by simp[World.setCell]) (fun b hb hF=>Below.heap_setCell _ _ _ _ (fun e=>hc.out.1.ne (by have e':b=eb:=e;rw[← e'];exact hF))) (blk6_set hc.out.1.blk _).2.1 (own_set hc.out.1.wait hc.out.1.wneb) hc.out.1.wne,fun g hg=>(hc.out.2.2 g hg).imp id (fun h=>by omega)⟩
def GG (F:Nat→Prop)(N:Nat)(v1 v2:Value)(b:Nat):Prop:=F b∨(N≤b∧v1.ownBlock≠some b∧v2.ownBlock≠some b)
structure RaMem (F:Nat→Prop)(w wr:World)(eb pb:Nat)(P:En.Pat)(W Next:Int)(vs vw vd vo vl vrest vout:Value)(Q D l R:List En.Ev)(old:List RV)(L:List MV):Prop where
 eng:wr.heap[eb]?=some (.cells #[.pointer (some ⟨pb,0,none⟩),.int .i64 W,.int .i64 Next,vw,vd,vo] 86 (0,0))
 done:EvsAt (GG F w.heap.size vrest vout) wr vd D
 lst:EvsAt (GG F w.heap.size vrest vout) wr vl l
 rest:wr.ownsRow w.heap.size 89 3 vrest R.length (evCells R)
 out:wr.ownsRow w.heap.size 109 2 vout L.length (mCells L)
 ints:∀y∈L,IntsAt (GG F w.heap.size vrest vout) wr y.2 y.1.1
 os:wr.os=w.os
 tape:wr.tape=w.tape
 output:wr.output=w.output
 size:w.heap.size≤wr.heap.size
 block:∀b,b < w.heap.size→b≠eb→wr.heap[b]?=w.heap[b]?
structure RaCtx (F:Nat→Prop)(w:World)(eb:Nat):Prop where
 leb:eb < w.heap.size
 ne:¬ F eb
 lt:∀b,F b→b < w.heap.size
section
variable {F:Nat→Prop} {w wr w':World} {eb pb:Nat} {P:En.Pat} {W Next:Int} {vs vw vd vo vl vrest vout vd0:Value} {Q D l R D0:List En.Ev} {old:List RV} {L:List MV}
theorem RaMem.below (h:RaMem F w wr eb pb P W Next vs vw vd vo vl vrest vout Q D l R old L)(hb:Below wr.heap.size wr w'):RaMem F w w' eb pb P W Next vs vw vd vo vl vrest vout Q D l R old L:=
 ⟨(hb.block _ (lt_of_block h.eng)).trans h.eng,RowAt.below h.done hb,RowAt.below h.lst hb,own_below h.rest hb,own_below h.out hb,fun y hy=>(h.ints y hy).below hb,hb.os.trans h.os,hb.tape.trans h.tape,hb.output.trans h.output,Nat.le_trans h.size hb.size,fun b h1 h2=>(hb.block b (Nat.lt_of_lt_of_le h1 h.size)).trans (h.block b h1 h2)⟩
theorem RaMem.newG (h:RaMem F w wr eb pb P W Next vs vw vd vo vl vrest vout Q D l R old L):∀b,wr.heap.size≤b→GG F w.heap.size vrest vout b:=fun b hb=>Or.inr ⟨Nat.le_trans h.size hb,fun e=>by
  obtain⟨-,c,fz,h1⟩:=own_block h.rest b e
  have:=lt_of_block h1
  omega,fun e=>by
  obtain⟨-,c,fz,h1⟩:=own_block h.out b e
  have:=lt_of_block h1
  omega⟩
theorem RaMem.reads {F0:Nat→Prop}(hE:REng F0 w eb pb P W Next vs vw vd0 vo Q D0 old)(hsub:∀b,F0 b→F b)(h:RaMem F w wr eb pb P W Next vs vw vd vo vl vrest vout Q D l R old L):Reads (GG F w.heap.size vrest vout) wr eb pb P vs vd vo D old:=by
 have hF:∀b,b < w.heap.size→F0 b→wr.heap[b]?=w.heap[b]?:=fun b hb hFb=>h.block b hb (fun e=>hE.ne (by rw[← e];exact hFb))
 have hp:=(hF pb (hE.lt _ hE.fp) hE.fp).trans hE.pat
 obtain⟨c0,c1,c2,c3,c4,c5,-⟩:wr.cell? ⟨eb,0,none⟩=some (.pointer (some ⟨pb,0,none⟩))∧wr.cell? ⟨eb,1,none⟩=some (.int .i64 W)∧wr.cell? ⟨eb,2,none⟩=some (.int .i64 Next)∧wr.cell? ⟨eb,3,none⟩=some vw∧wr.cell? ⟨eb,4,none⟩=some vd∧wr.cell? ⟨eb,5,none⟩=some vo∧True:=by simp[World.cell?,h.eng]
 exact⟨c0,c4,c5,by simp[World.cell?,hp],by simp[World.cell?,hp],RowAt.mono (hE.steps.frame h.size hF) (fun b _ hb=>Or.inl (hsub b hb)),h.done,RunsAt.mono (hE.old.frame h.size hF) (fun b _ hb=>Or.inl (hsub b hb))⟩
theorem gg_row {w0:World}{v1 v2 v1' v2' v:Value}{k n:Nat}{xs:List Value}{x:Option Nat}(h:RowAt (GG F w0.heap.size v1 v2) wr v k n xs)(hF:∀b,F b→b < w0.heap.size)(hx:x=v1.ownBlock∨x=v2.ownBlock)(hg:wr.grownBy w' x)(h12:∀b,x=some b→w0.heap.size≤b)(h1:∀b,v1'.ownBlock=some b→v1.ownBlock=some b∨wr.heap.size≤b)(h2:∀b,v2'.ownBlock=some b→v2.ownBlock=some b∨wr.heap.size≤b):RowAt (GG F w0.heap.size v1' v2') w' v k n xs:=by
 refine RowAt.mono (RowAt.frame (RowAt.mono h (G:=fun b=>GG F w0.heap.size v1 v2 b∧b < wr.heap.size) (fun b hb hG=>⟨hG,hb⟩)) hg.size (fun b hb hG=>hg.block b hb (fun e=>?_))) (fun b _ hG=>?_)
 ·rcases hG.1 with hG | ⟨h3,h4,h5⟩
  ·have:=hF b hG
   have:=h12 b e.symm
   omega
  ·rcases hx with hx | hx
   ·exact h4 (by rw[← hx,← e])
   ·exact h5 (by rw[← hx,← e])
 ·obtain⟨hG,hlt⟩:=hG
  rcases hG with hG | ⟨h3,h4,h5⟩
  ·exact Or.inl hG
  ·refine Or.inr ⟨h3,fun e=>?_,fun e=>?_⟩
   ·rcases h1 b e with h | h
    ·exact h4 h
    ·omega
   ·rcases h2 b e with h | h
    ·exact h5 h
    ·omega
theorem RaMem.ebne (hE:RaCtx F w eb)(h:RaMem F w wr eb pb P W Next vs vw vd vo vl vrest vout Q D l R old L):vrest.ownBlock≠some eb∧vout.ownBlock≠some eb:=by
 have:=hE.leb
 exact⟨fun e=>by have:=(own_block h.rest eb e).1;omega,fun e=>by have:=(own_block h.out eb e).1;omega⟩
theorem RaMem.restMore {g cap:Nat}{ev:En.Ev}(hE:RaCtx F w eb)(h:RaMem F w wr eb pb P W Next vs vw vd vo vl vrest vout Q D l R old L)
  (own5:w'.ownsRow w.heap.size 89 3 (.slice (some ⟨g,0,none⟩) (R.length+1) cap) (R.length+1) (evCells R++[.int .i64 ev.off,.int .i32 ev.kind,.int .i64 ev.time])) (gr:wr.grownBy w' vrest.ownBlock) (hg:vrest.ownBlock=some g∨g=wr.heap.size) :
  RaMem F w w' eb pb P W Next vs vw vd vo vl (.slice (some ⟨g,0,none⟩) (R.length+1) cap) vout Q D l (R++[ev]) old L:=by
 have hb:=h.ebne hE
 have hN:∀b,vrest.ownBlock=some b→w.heap.size≤b:=fun b e=>(own_block h.rest b e).1
 have h1:∀b,(Value.slice (some ⟨g,0,none⟩) (R.length+1) cap).ownBlock=some b→vrest.ownBlock=some b∨wr.heap.size≤b:=fun b e=>by
  have e':g=b:=by simpa [Value.ownBlock] using e
  subst e'
  exact hg.imp id (fun h=>by omega)
 have row:∀{v:Value} {k n:Nat} {xs:List Value},RowAt (GG F w.heap.size vrest vout) wr v k n xs→RowAt (GG F w.heap.size (.slice (some ⟨g,0,none⟩) (R.length+1) cap) vout) w' v k n xs:=fun hr=>
  gg_row hr hE.lt (Or.inl rfl) gr hN h1 (fun b e=>Or.inl e)
 refine⟨(gr.block eb (lt_of_block h.eng) (fun e=>hb.1 e.symm)).trans h.eng,row h.done,row h.lst,by simpa [evCells] using own5,h.out.kept gr (own_other h.out h.rest (by decide)),fun y hy=>row (h.ints y hy),gr.os.trans h.os,gr.tape.trans h.tape,gr.output.trans h.output,Nat.le_trans h.size gr.size,fun b hb1 hb2=>(gr.block b (Nat.lt_of_lt_of_le hb1 h.size) (fun e=>?_)).trans (h.block b hb1 hb2)⟩
 have:=hN b e.symm
 omega
theorem RaMem.outMore {g cap:Nat}{y:MV}(hE:RaCtx F w eb)(h:RaMem F w wr eb pb P W Next vs vw vd vo vl vrest vout Q D l R old L)(hy:IntsAt (GG F w.heap.size vrest vout) wr y.2 y.1.1)
  (own5:w'.ownsRow w.heap.size 109 2 (.slice (some ⟨g,0,none⟩) (L.length+1) cap) (L.length+1) (mCells L++[y.2,.int .i64 y.1.2])) (gr:wr.grownBy w' vout.ownBlock) (hg:vout.ownBlock=some g∨g=wr.heap.size) :
  RaMem F w w' eb pb P W Next vs vw vd vo vl vrest (.slice (some ⟨g,0,none⟩) (L.length+1) cap) Q D l R old (L++[y]):=by
 have hb:=h.ebne hE
 have hN:∀b,vout.ownBlock=some b→w.heap.size≤b:=fun b e=>(own_block h.out b e).1
 have h1:∀b,(Value.slice (some ⟨g,0,none⟩) (L.length+1) cap).ownBlock=some b→vout.ownBlock=some b∨wr.heap.size≤b:=fun b e=>by
  have e':g=b:=by simpa [Value.ownBlock] using e
  subst e'
  exact hg.imp id (fun h=>by omega)
 have row:∀{v:Value} {k n:Nat} {xs:List Value},RowAt (GG F w.heap.size vrest vout) wr v k n xs→RowAt (GG F w.heap.size vrest (.slice (some ⟨g,0,none⟩) (L.length+1) cap)) w' v k n xs:=fun hr=>
  gg_row hr hE.lt (Or.inr rfl) gr hN (fun b e=>Or.inl e) h1
 refine⟨(gr.block eb (lt_of_block h.eng) (fun e=>hb.2 e.symm)).trans h.eng,row h.done,row h.lst,h.rest.kept gr (own_other h.rest h.out (by decide)),by simpa [mCells] using own5,fun z hz=>?_,gr.os.trans h.os,gr.tape.trans h.tape,gr.output.trans h.output,Nat.le_trans h.size gr.size,fun b hb1 hb2=>(gr.block b (Nat.lt_of_lt_of_le hb1 h.size) (fun e=>?_)).trans (h.block b hb1 hb2)⟩
 ·rcases List.mem_append.1 hz with hz | hz
  ·exact row (h.ints z hz)
  ·obtain rfl:=List.mem_singleton.1 hz
   exact row hy
 ·have:=hN b e.symm
  omega
theorem blkR_set {w:World}{b:Nat}{x0 x1 x2 x3 x4 x5:Value}{t:TypeId}(h:w.heap[b]?=some (.cells #[x0,x1,x2,x3,x4,x5] t (0,0)))(u:Value)(i:Nat) :
  (w.setCell ⟨b,i,none⟩ u).heap[b]?=some (.cells (#[x0,x1,x2,x3,x4,x5].setIfInBounds i u) t (0,0)):=by
 show (w.heap.modify b _)[b]?=_
 rw[Array.getElem?_modify,if_pos rfl,h]
 rfl
theorem RaMem.doneSet {D':List En.Ev}{vd':Value}(hE:RaCtx F w eb)(h:RaMem F w wr eb pb P W Next vs vw vd vo vl vrest vout Q D l R old L)(hd:EvsAt (GG F w.heap.size vrest vout) wr vd' D') :
  RaMem F w (wr.setCell ⟨eb,4,none⟩ vd') eb pb P W Next vs vw vd' vo vl vrest vout Q D' l R old L:=by
 have leb:=hE.leb
 have hb:=h.ebne hE
 have gr:=grown_set wr eb 4 vd'
 have row:∀{v:Value} {k n:Nat} {xs:List Value},RowAt (GG F w.heap.size vrest vout) wr v k n xs→RowAt (GG F w.heap.size vrest vout) (wr.setCell ⟨eb,4,none⟩ vd') v k n xs:=fun hr=>
  RowAt.frame hr gr.size (fun b hb hG=>gr.block b hb (fun e=>by
   cases e
   rcases hG with hG | ⟨hG,-⟩
   ·exact hE.ne hG
   ·omega))
 refine⟨by simpa using blkR_set h.eng vd' 4,row hd,row h.lst,h.rest.kept gr (Or.inr hb.1),h.out.kept gr (Or.inr hb.2),fun y hy=>row (h.ints y hy),gr.os.trans h.os,gr.tape.trans h.tape,gr.output.trans h.output,Nat.le_trans h.size gr.size,fun b hb1 hb2=>(gr.block b (Nat.lt_of_lt_of_le hb1 h.size) (fun e=>by cases e;exact hb2 rfl)).trans (h.block b hb1 hb2)⟩
end
end Go.Proofs.YtfldcmdhneegmaaGreatDoor

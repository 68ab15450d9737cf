import Derived.Test.YtfldcmdhneegmaaGreatDoorY13
import Derived.Deep.DeepCutAuto
set_option maxHeartbeats 4000000
set_option maxRecDepth 1000000
namespace Go.Proofs.YtfldcmdhneegmaaGreatDoor
open Go.RowKit Go.Lib
structure PEng (F:Nat→Prop)(w:World)(eb:Nat)(P:En.Pat)(W Next:Int)(vs vq vr:Value)(Q:List En.Ev)(A:List RV):Prop where
 blk:w.heap[eb]?=some (.cells #[vs,.int .i64 P.win,.int .i64 W,.int .i64 Next,vq,vr] 159 (0,0))
 self:F eb
 steps:StepsAt (fun b=>F b∧b≠eb) w vs P.steps
 wait:QRow 0 w vq Q
 wself:∀g,vq.ownBlock=some g→F g
 sq:∀b,vs.ownBlock=some b→vq.ownBlock≠some b
 runs:RowAt (fun b=>F b∧RunT w b) w vr 3 A.length (runCells A)
 offs:∀x∈A,IntsAt (fun b=>F b∧I64 w b) w x.2 x.1.offs
theorem six_cl {w:World}{N:Nat}{x0 x1 x2 x3 x4 x5:Value}{t:TypeId}(h:w.heap[N]?=some (.cells #[x0,x1,x2,x3,x4,x5] t (0,0))):w.cell? ⟨N,0,none⟩=some x0∧w.cell? ⟨N,1,none⟩=some x1∧w.cell? ⟨N,2,none⟩=some x2∧w.cell? ⟨N,3,none⟩=some x3∧w.cell? ⟨N,4,none⟩=some x4∧w.cell? ⟨N,5,none⟩=some x5∧(∀i,w.frozen? ⟨N,i,none⟩=false):=by
 simp[World.cell?,World.frozen?,h]
theorem AvMem.start {F:Nat→Prop}{w wx:World}{eb wb:Nat}{P:En.Pat}{W Next:Int}{vs vq vr v1:Value}{Q:List En.Ev}{A:List RV}(h:PEng F w eb P W Next vs vq vr Q A)(hb:Below w.heap.size w wx)(hwb:w.heap.size≤wb)(hv:wx.heap[wb]?=some (.cells #[v1] 156 (0,0)))(hq:QRow w.heap.size wx v1 Q):AvMem F w wx wb v1 vr (.slice none 0 0) Q A []:=
 ⟨hb,hwb,hv,hq,RowAt.mono (RowAt.below h.runs hb) (fun _ _ hF=>Or.inr (hF.2.below hb)),fun x hx=>offs_below (RowAt.mono (h.offs x hx) (fun _ _ hF=>hF.2)) hb,fun x hx b hxb _=>by
  rcases (h.offs x hx).2 with ⟨he,-⟩ | ⟨b',o,cap,he,hF,-⟩
  ·rw[he] at hxb;cases hxb
  ·rw[he] at hxb
   cases hxb
   exact hF.1,MOwn.nil _ _,fun _ _ _ hy=>by cases hy⟩
def qLenOf (w:World)(wb:Nat):Nat:=match w.cell? ⟨wb,0,none⟩ with
 | some (.slice _ n _)=>n
 | _=>0
theorem AvMem.qlen {F:Nat→Prop}{w wr:World}{wb:Nat}{vq vr vm:Value}{Q:List En.Ev}{A:List RV}{L:List MV}(h:AvMem F w wr wb vq vr vm Q A L):qLenOf wr wb=Q.length:=by
 obtain⟨a,c,rfl⟩:=own_slice h.qrow
 unfold qLenOf
 rw[one_of h.qvar]
def AvFull (w:World)(e:Ending)(w':World):Prop:=
 e=.returned (.tuple #[.slice none 0 0,.iface 137 (.agg #[.string ⟨#[114,117,110,115,32,119,111,117,108,100,32,98,101,32,117,110,100,101,114,32,119,97,121]⟩,.int .i64 24])])∧Below w.heap.size w w'
def newF (F:Nat→Prop)(N:Nat)(vm:Value)(L:List MV)(b:Nat):Prop:=F b∨(N≤b∧vm.ownBlock≠some b∧∀y∈L,y.2.ownBlock≠some b)
def AvOk (F:Nat→Prop)(eb:Nat)(P:En.Pat)(Next t:Int)(vs:Value)(ψ:Int→Int)(K:Nat)(Q:List En.Ev)(A:List En.Rn)(w:World)(e:Ending)(w':World):Prop:=
 ∃(vm vq vr:Value) (L:List MV) (Q':List En.Ev) (A' B:List RV) (D:List En.Ev),e=.returned (.tuple #[vm,.nilIface])∧En.advInc P A ((En.sortEv Q).filter fun e=>decide (e.time≤t))=some (L.map Prod.fst,B.map Prod.fst)∧A'=B.filter (fun x=>lastsP P.win t x.1)∧En.sortEv Q'=(En.sortEv Q).filter (fun e=>decide (t < e.time)) ∧
  AvPl P ψ A Q t K Q' B L D∧PEng (newF F w.heap.size vm L) w' eb P t Next vs vq vr Q' A'∧MOwn w.heap.size w' vm L∧w.grownBy w' (some eb)
theorem PEng.turned {F F':Nat→Prop}{w w':World}{eb:Nat}{P:En.Pat}{W Next W' Next':Int}{vs vq vr vq':Value}{Q Q':List En.Ev}{A:List RV}(h:PEng F w eb P W Next vs vq vr Q A)(hsz:w.heap.size≤w'.heap.size)(hF:∀b,b < w.heap.size→b≠eb→some b≠vq.ownBlock→w'.heap[b]?=w.heap[b]?)
  (hblk:w'.heap[eb]?=some (.cells #[vs,.int .i64 P.win,.int .i64 W',.int .i64 Next',vq',vr] 159 (0,0))) (hq:QRow 0 w' vq' Q') (hqs:∀g,vq'.ownBlock=some g→F' g∧(vq.ownBlock=some g∨w.heap.size≤g)) (hFF:∀b,F b→F' b):PEng F' w' eb P W' Next' vs vq' vr Q' A:=by
 have ne:∀(b:Nat) (c:Array Value) (t:TypeId) (fz:Nat × Nat),w.heap[b]?=some (.cells c t fz)→t≠159→t≠194→w'.heap[b]?=some (.cells c t fz):=fun b c t fz hb h1 h2=>(hF b (lt_of_block hb) (fun e=>by subst e;exact h1 (block_type hb h.blk)) (fun e=>by
  obtain⟨-,c',fz',h'⟩:=own_block h.wait b e.symm
  exact h2 (block_type hb h'))).trans hb
 have hvs:∀b,vs.ownBlock=some b→b < w.heap.size:=fun b hb=>by
  rcases h.steps.2 with ⟨he,-⟩ | ⟨b',o,cap,he,-,hlt,-⟩
  ·rw[he] at hb;cases hb
  ·rw[he] at hb
   cases hb
   exact hlt
 refine⟨hblk,hFF _ h.self,?_,hq,fun g hg=>(hqs g hg).1,fun b hb hb'=>?_,?_,fun x hx=>?_⟩
 ·have hs:=h.steps
  rcases hs.2 with ⟨he,h0⟩ | ⟨b,o,cap,he,hFb,r1,r2,r3,r4⟩
  ·exact⟨hs.1,Or.inl ⟨he,h0⟩⟩
  ·have hb:w'.heap[b]?=w.heap[b]?:=hF b r1 hFb.2 (fun e=>h.sq b (by rw[he];rfl) e.symm)
   exact⟨hs.1,Or.inr ⟨b,o,cap,he,⟨hFF _ hFb.1,hFb.2⟩,Nat.lt_of_lt_of_le r1 hsz,r2,r3,fun j u hj=>by rw[← r4 j u hj];exact World.cell?_of_block hb⟩⟩
 ·rcases (hqs b hb').2 with h1 | h1
  ·exact h.sq b hb h1
  ·have:=hvs b hb
   omega
 ·refine RowAt.mono (RowAt.frame h.runs hsz (fun b _ hFb=>?_)) (fun b _ hFb=>?_)
  ·obtain⟨c,fz,h2⟩:=hFb.2
   exact (ne b c 164 fz h2 (by decide) (by decide)).trans h2.symm
  ·obtain⟨c,fz,h2⟩:=hFb.2
   exact⟨hFF _ hFb.1,c,fz,ne b c 164 fz h2 (by decide) (by decide)⟩
 ·refine RowAt.mono (RowAt.frame (h.offs x hx) hsz (fun b _ hFb=>?_)) (fun b _ hFb=>?_)
  ·obtain⟨c,fz,h2⟩:=hFb.2
   exact (ne b c 3 fz h2 (by decide) (by decide)).trans h2.symm
  ·obtain⟨c,fz,h2⟩:=hFb.2
   exact⟨hFF _ hFb.1,c,fz,ne b c 3 fz h2 (by decide) (by decide)⟩
theorem own_kept {w w':World}{N base size n:Nat}{e t:TypeId}{v:Value}{xs:List Value}{c:Array Value}{fz:Nat × Nat}(h:w.ownsRow base e size v n xs)(hN:w.heap[N]?=some (.cells c t fz))(hne:e≠t)(gr:w.grownBy w' (some N)):w'.ownsRow base e size v n xs:=by
 refine h.kept gr ?_
 cases hv:v.ownBlock with
 | none=>exact Or.inl rfl
 | some g=>
  refine Or.inr (fun e1=>?_)
  cases e1
  obtain⟨-,c',fz',h'⟩:=own_block h _ hv
  exact hne (block_type h' hN)
theorem own_runT {w:World}{base:Nat}{v:Value}{A:List RV}(h:w.ownsRow base 164 3 v A.length (runCells A)):RowAt (fun b=>base≤b∧RunT w b) w v 3 A.length (runCells A):=by
 have hr:=RowAt.ofOwn h
 rcases h.2 with ⟨rfl,h0⟩ | ⟨g,cap,cur,rfl,h1,h2,-⟩
 ·exact⟨hr.1,Or.inl ⟨rfl,h0⟩⟩
 ·rcases hr.2 with ⟨he,-⟩ | ⟨b,o,cap',he,-,k2,k3,k4,k5⟩
  ·cases he
  ·cases he
   exact⟨hr.1,Or.inr ⟨g,0,cap,rfl,⟨h1,cur,_,h2⟩,k2,k3,k4,k5⟩⟩
theorem PEng.advanced {F:Nat→Prop}{w w3:World}{eb wb:Nat}{P:En.Pat}{W Next t:Int}{vs vq0 vr0 vq v3 vm:Value}{Q Q1:List En.Ev}{A C:List RV}{L:List MV}(h:PEng F w eb P W Next vs vq0 vr0 Q A)(hm:AvMem F w w3 wb vq v3 vm Q1 C L)(hrow:w3.ownsRow w.heap.size 164 3 v3 C.length (runCells C)) :
  PEng (newF F w.heap.size vm L) (((w3.setCell ⟨eb,2,none⟩ (.int .i64 t)).setCell ⟨eb,4,none⟩ vq).setCell ⟨eb,5,none⟩ v3) eb P t Next vs vq v3 Q1 C∧MOwn w.heap.size (((w3.setCell ⟨eb,2,none⟩ (.int .i64 t)).setCell ⟨eb,4,none⟩ vq).setCell ⟨eb,5,none⟩ v3) vm L∧w.grownBy (((w3.setCell ⟨eb,2,none⟩ (.int .i64 t)).setCell ⟨eb,4,none⟩ vq).setCell ⟨eb,5,none⟩ v3) (some eb):=by
 have leb:=lt_of_block h.blk
 have hb3:=(hm.bel.block _ leb).trans h.blk
 have one:∀(w:World) (i:Nat) (u:Value) (cs:Array Value),w.heap[eb]?=some (.cells cs 159 (0,0))→(w.setCell ⟨eb,i,none⟩ u).heap[eb]?=some (.cells (cs.setIfInBounds i u) 159 (0,0)):=by
  intro w i u cs h
  show (w.heap.modify eb _)[eb]?=_
  rw[Array.getElem?_modify,if_pos rfl,h]
  rfl
 have k1:=one _ 2 (.int .i64 t) _ hb3
 have k2:=one _ 4 vq _ k1
 have k3:=one _ 5 v3 _ k2
 have gr:w3.grownBy (((w3.setCell ⟨eb,2,none⟩ (.int .i64 t)).setCell ⟨eb,4,none⟩ vq).setCell ⟨eb,5,none⟩ v3) (some eb):=grown_trans (grown_trans (grown_set w3 eb 2 _) (grown_set _ eb 4 _)) (grown_set _ eb 5 _)
 generalize ((w3.setCell ⟨eb,2,none⟩ (.int .i64 t)).setCell ⟨eb,4,none⟩ vq).setCell ⟨eb,5,none⟩ v3=w' at k3 gr ⊢
 have keep:∀(b:Nat) (c:Array Value) (ty:TypeId) (fz:Nat × Nat),w3.heap[b]?=some (.cells c ty fz)→ty≠159→w'.heap[b]?=some (.cells c ty fz):=fun b c ty fz hb h1=>
  (gr.block b (lt_of_block hb) (fun e=>by cases e;exact h1 (block_type hb hb3))).trans hb
 have old:∀b,b < w.heap.size→b≠eb→w'.heap[b]?=w.heap[b]?:=fun b hb hne=>(gr.block b (Nat.lt_of_lt_of_le hb hm.bel.size) (fun e=>by cases e;exact hne rfl)).trans (hm.bel.block b hb)
 have hmt:∀b c ty fz,w3.heap[b]?=some (.cells c ty fz)→ty≠109→vm.ownBlock≠some b:=fun b c ty fz hb h1 e=>by
  obtain⟨-,c',fz',h'⟩:=own_block hm.mat.row b e
  exact h1 (block_type hb h')
 have hyt:∀b c ty fz,w3.heap[b]?=some (.cells c ty fz)→ty≠3→∀y∈L,y.2.ownBlock≠some b:=fun b c ty fz hb h1 y hy e=>by
  obtain⟨-,c',fz',h'⟩:=own_block (hm.mat.offs y hy).1 b e
  exact h1 (block_type hb h')
 refine⟨⟨by simpa using k3,Or.inl h.self,?_,own_mono (own_kept hm.qrow hb3 (by decide) gr) (Nat.zero_le _),fun g hg=>?_,fun b hb hq=>?_,?_,fun x hx=>?_⟩,⟨own_kept hm.mat.row hb3 (by decide) gr,fun y hy=>⟨own_kept (hm.mat.offs y hy).1 hb3 (by decide) gr,(hm.mat.offs y hy).2⟩,hm.mat.dist⟩,⟨gr.os.trans hm.bel.os,gr.tape.trans hm.bel.tape,gr.output.trans hm.bel.output,Nat.le_trans hm.bel.size gr.size,fun b hb hne=>old b hb (fun e=>hne (by rw[e]))⟩⟩
 ·exact RowAt.mono (RowAt.frame h.steps (Nat.le_trans hm.bel.size gr.size) (fun b hb hF=>old b hb hF.2)) (fun b _ hF=>⟨Or.inl hF.1,hF.2⟩)
 ·obtain⟨h1,c,fz,h2⟩:=own_block hm.qrow g hg
  exact Or.inr ⟨h1,hmt g c _ fz h2 (by decide),hyt g c _ fz h2 (by decide)⟩
 ·have h1:=(own_block hm.qrow b hq).1
  rcases h.steps.2 with ⟨he,-⟩ | ⟨b',o,cap,he,-,hlt,-⟩
  ·rw[he] at hb;cases hb
  ·rw[he] at hb
   have e:b'=b:=by simpa [Value.ownBlock] using hb
   omega
 ·refine RowAt.mono (RowAt.frame (own_runT hrow) gr.size (fun b _ hF=>?_)) (fun b _ hF=>?_)
  ·obtain⟨c,fz,hF2⟩:=hF.2
   exact (keep b c _ fz hF2 (by decide)).trans hF2.symm
  ·obtain⟨c,fz,hF2⟩:=hF.2
   exact⟨Or.inr ⟨hF.1,hmt b c _ fz hF2 (by decide),hyt b c _ fz hF2 (by decide)⟩,c,fz,keep b c _ fz hF2 (by decide)⟩
 ·have hx1:=hm.offs x hx
  rcases hx1.2 with ⟨he,h0⟩ | ⟨b,o,cap,he,⟨c,fz,hF⟩,r1,r2,r3,r4⟩
  ·exact⟨hx1.1,Or.inl ⟨he,h0⟩⟩
  ·have hown:x.2.ownBlock=some b:=by rw[he];rfl
   have hkb:=keep b c _ fz hF (by decide)
   refine⟨hx1.1,Or.inr ⟨b,o,cap,he,⟨?_,c,fz,hkb⟩,Nat.lt_of_lt_of_le r1 gr.size,r2,r3,fun j u hj=>?_⟩⟩
   ·by_cases hlt:b < w.heap.size
    ·exact Or.inl (hm.src x hx b hown hlt)
    ·exact Or.inr ⟨by omega,hmt b c _ fz hF (by decide),fun y hy e=>hm.dis x hx y hy (by rw[hown,e])⟩
   ·rw[← r4 j u hj]
    exact World.cell?_of_block (by rw[hkb,hF])
theorem eAdvance_any (F:Nat→Prop)(eb:Nat)(P:En.Pat)(W Next t:Int)(vs vq vr:Value)(Q:List En.Ev)(A:List RV)(w:World)(h:PEng F w eb P W Next vs vq vr Q A)(hge:W≤t)(hQ:Q.length≤12)(hP0:0 < P.steps.length)(hPn:P.steps.length≤100)(hw0:0≤P.win)(hw1:P.win≤9999)(ψ:Int→Int)(K:Nat)(hK:K≤90000)(hpl:AvPl P ψ (A.map Prod.fst) Q t K Q A [] []) :
  Calls Tryz.prog 60 #[.pointer (some ⟨eb,0,none⟩),.int .i64 t] w fun e w'=>(En.advInc P (A.map Prod.fst) ((En.sortEv Q).filter fun e=>decide (e.time≤t))=none∧AvFull w e w')∨AvOk F eb P Next t vs ψ K Q (A.map Prod.fst) w e w':=by
 obtain⟨e0,e1,e2,e3,e4,e5,ef⟩:=six_cl h.blk
 have hlt:decide (t < W)=false:=decide_eq_false (by omega)
 obtain⟨aq,cq,rfl⟩:=own_slice h.wait
 obtain⟨ar,cr,rfl,-,-⟩:=RowAt.slice h.runs
 have HP:=hid (And.intro h hpl)
 have HQ:=hid (fun W (hW:Below w.heap.size w W)=>cloneQ_any (fun _=>True) (.slice aq Q.length cq) Q W ((RowAt.mono (RowAt.ofOwn (own_below h.wait hW)) (fun _ _ _=>trivial))) (by omega))
 clear h ef hpl
 have leb:=lt_of_block HP.out.1.blk
 have nb1:¬ (w.heap.size=eb):=by omega
 have nb2:¬ (eb=w.heap.size):=by omega
 go_enter Tryz.func60,Tryz.ntmps60
 go_upto_region 3 with fail
 go_cut [6,7] (fun s6 s7 wx=>∃(wb:Nat) (v1:Value),s6=.pointer (some ⟨wb,0,none⟩)∧s7=.slice ar A.length cr∧Hid (AvMem F w wx wb v1 (.slice ar A.length cr) (.slice none 0 0) Q A []))
 case first=>
  go_region_held3 (fun W=>W.cell? ⟨eb,4,none⟩=some (.slice aq Q.length cq)∧W.cell? ⟨eb,5,none⟩=some (.slice ar A.length cr)) (go_keep) ((go_at_call 102;refine (HQ.out _ (by repeat (first | exact Below.refl _ _ | refine Below.drew ?_ | refine Below.alloc ?_ (by simp;try omega) _))).mono ?_;rintro e w1 ⟨v1,rfl,ho1,hb1⟩;obtain⟨a1,c1,rfl⟩:=own_slice ho1;have B1:Below w.heap.size w w1:=Below.trans (by repeat (first | exact Below.refl _ _ | refine Below.drew ?_ | refine Below.alloc ?_ (by simp;try omega) _)) (hb1.mono (by simp;try omega));have z0:=(cell_bel B1 ⟨eb,4,none⟩ leb).trans e4;have z1:=(cell_bel B1 ⟨eb,5,none⟩ leb).trans e5;(try (have hN:w1.heap[w.heap.size]?=some (.cells #[.slice none 0 0] 156 (0,0)):=(hb1.block w.heap.size (by simp;try omega)).trans (new_at (by simp;done));have n0:=one_of hN;have n1:w1.frozen? ⟨w.heap.size,0,none⟩=false:=(by simp[World.frozen?,hN])));have H1:=hid (And.intro ho1 (And.intro hb1 B1));clear hb1 ho1 B1))
  ·go_wp2
   go_meet
   case rel=>
    have hbx:Below w.heap.size w (w1.alloc (.cells #[.slice a1 Q.length c1] 156)):=H1.out.2.2.alloc H1.out.2.2.size _
    exact⟨_,_,rfl,rfl,AvMem.start HP.out.1 hbx H1.out.2.2.size (heap_alloc_new w1 _) (World.ownsRow.alloc H1.out.1 _)⟩
  ·have hset:=var_set (u:=.slice a1 Q.length c1) hN
   have hgr:=grown_set w1 w.heap.size 0 (.slice a1 Q.length c1)
   have hne:(Value.slice a1 Q.length c1).ownBlock≠some w.heap.size:=fun e=>by
    have:=(own_block H1.out.1 _ e).1
    simp at this
    omega
   have HS:=hid (And.intro hset.1 (And.intro (World.ownsRow.kept H1.out.1 hgr (Or.inr hne)) (H1.out.2.2.grown hgr H1.out.2.2.size (fun k hk=>by cases hk;exact Nat.le_refl _))))
   clear hset hgr hne
   go_wp2
   go_meet
   case rel=>
    exact⟨_,_,rfl,rfl,AvMem.start HP.out.1 HS.out.2.2 (Nat.le_refl _) HS.out.1 (own_mono HS.out.2.1 (by simp))⟩
 case rest=>
  obtain⟨wb,v1,rfl,rfl,hc⟩:=hcut
  clear e4 e5 HQ nb1 nb2
  go_wp2
  go_loopw [7,8] (fun s7 s8 wr=>∃(vq vr vm:Value) (Q1:List En.Ev) (A1:List RV) (L:List MV) (D:List En.Ev),s7=vr∧s8=vm∧Hid (AvMem F w wr wb vq vr vm Q1 A1 L∧AvPl P ψ (A.map Prod.fst) Q t K Q1 A1 L D)) (fun _ _ wr=>qLenOf wr wb)
  case atStart=>exact⟨_,_,_,Q,A,[],[],rfl,rfl,hc.out,HP.out.2⟩
  case round=>
   obtain⟨vq,vr,vm,Q1,A1,L,D,rfl,rfl,hr⟩:=hrel
   obtain⟨ar1,cr1,rfl,-,-⟩:=hr.out.1.runsAt.slice
   obtain⟨am1,cm1,rfl⟩:=hr.out.1.mat.len
   have hq1:=hr.out.2.qlen
   by_cases hn:Q1=[]∨t < (En.nth Q1 0).time
   ·have HN:=hid hn
    go_wp2_with (go_at_call 103;refine (qTake_none w.heap.size wb 0 vq Q1 t _ (one_of hr.out.1.qvar) hr.out.1.qrow HN.out).mono ?_;rintro e w2 ⟨rfl,hb2⟩;have H2:=hid hb2;clear hb2)
    have hM2:=hr.out.1.below H2.out
    have hq2:=one_of hM2.qvar
    obtain⟨aq1,cq1,rfl⟩:=own_slice hM2.qrow
    have lwb:=lt_of_block hM2.qvar
    have hwe:¬ (wb=eb):=by have:=hM2.hwb;omega
    have hwe2:¬ (eb=wb):=by have:=hM2.hwb;omega
    have leb2:eb < w2.heap.size:=Nat.lt_of_lt_of_le leb hM2.bel.size
    have d1:=(cell_bel hM2.bel ⟨eb,1,none⟩ leb).trans e1
    have hal3:A1.length≤24:=hr.out.2.alen
    have HM2:=hid hM2
    have HC:=hid (fun W (hW:Below w2.heap.size w2 W)=>lasting_any (fun _=>True) (.slice ar1 A1.length cr1) A1 eb t P.win W (hM2.runsAt.below hW) (by omega) hw0 hw1 ((cell_bel hW ⟨eb,1,none⟩ leb2).trans d1))
    clear hM2
    go_region_held3 (fun W=>W.cell? ⟨wb,0,none⟩=some (.slice aq1 Q1.length cq1)) (go_keep) ((go_at_call 110;refine (HC.out _ (by repeat (first | exact Below.refl _ _ | refine Below.drew ?_ | refine Below.alloc ?_ (by simp;try omega) _))).mono ?_;rintro e w3 ⟨v3,rfl,ho3,hb3⟩;have B3:Below w2.heap.size w2 w3:=Below.trans (by repeat (first | exact Below.refl _ _ | refine Below.drew ?_ | refine Below.alloc ?_ (by simp;try omega) _)) (hb3.mono (by simp;try omega));obtain⟨a3,c3,rfl⟩:=own_slice ho3;have z0:=(cell_bel B3 ⟨wb,0,none⟩ lwb).trans hq2;obtain⟨s0,s1,s2,s3,s4,s5,sf⟩:=six_cl ((B3.block _ leb2).trans ((HM2.out.bel.block _ leb).trans HP.out.1.blk));have sf2:=sf 2;have sf4:=sf 4;have sf5:=sf 5;have H3:=hid (And.intro (own_mono ho3 (base':=w2.heap.size) (by simp;try omega)) B3);clear ho3 hb3 B3 sf s0 s1 s3))
    have hm3:=HM2.out.next H3.out.2 H3.out.1 (fun x hx=>Or.inl (List.mem_filter.1 hx).1)
    have hadv:=PEng.advanced (t:=t) HP.out.1 hm3 (own_mono H3.out.1 HM2.out.bel.size)
    have hfin:=hr.out.2.fin HN.out
    have HF:=hid (And.intro hadv hfin)
    clear hm3 hadv hfin
    go_wp2
    go_ret2
    exact Or.inr ⟨_,_,_,L,Q1,_,A1,D,rfl,HF.out.2.1,rfl,HF.out.2.2,hr.out.2,HF.out.1.1,HF.out.1.2.1,HF.out.1.2.2⟩
   ·have hne:Q1≠[]:=fun e=>hn (Or.inl e)
    have hq0:0 < Q1.length:=List.length_pos_iff.2 hne
    have hfr:(En.nth Q1 0).time≤t:=by have:¬ t < (En.nth Q1 0).time:=fun e=>hn (Or.inr e);omega
    obtain⟨g,cap,hvq⟩:∃g cap,vq=.slice (some ⟨g,0,none⟩) Q1.length cap:=by
     rcases hr.out.1.qrow.2 with ⟨-,h0⟩ | ⟨g,cap,cur,h1,-⟩
     ·omega
     ·exact⟨g,cap,h1⟩
    subst hvq
    have hgw:wb≠g:=fun e=>by
     obtain⟨-,c,fz,h1⟩:=own_block hr.out.1.qrow g rfl
     rw[← e] at h1
     have:=block_type h1 hr.out.1.qvar
     exact absurd this (by decide)
    have hfz:wr.frozen? ⟨wb,0,none⟩=false:=by simp[World.frozen?,hr.out.1.qvar]
    obtain⟨k,hk⟩:∃k,Q1.length=k+1:=⟨Q1.length - 1,by omega⟩
    have HT:=hid (qTake_some w.heap.size wb 0 g Q1.length cap Q1 t wr ⟨one_of hr.out.1.qvar,hr.out.1.qrow,hgw⟩ hfz k hk (by omega) hr.out.2.hp hfr)
    clear hfz hgw
    go_wp2_with (go_at_call 103;refine HT.out.mono ?_;rintro e w2 ⟨rest,p2,hp2,rfl,ha2,ht2⟩;have H2:=hid (And.intro p2 (And.intro hp2 (hr.out.1.take rfl ht2 ha2 rfl)));clear p2 hp2 ha2 ht2)
    obtain⟨W3,hW3⟩:∃W,w2.alloc (.cells #[.int .i64 (En.nth Q1 0).off,.int .i32 (En.nth Q1 0).kind,.int .i64 (En.nth Q1 0).time] 194)=W:=⟨_,rfl⟩
    have hb3:Below w2.heap.size w2 W3:=by rw[← hW3];exact (Below.refl _ _).alloc (Nat.le_refl _) _
    have hev3:W3.heap[w2.heap.size]?=some (.cells #[.int .i64 (En.nth Q1 0).off,.int .i32 (En.nth Q1 0).kind,.int .i64 (En.nth Q1 0).time] 194 (0,0)):=by rw[← hW3];exact heap_alloc_new w2 _
    rw[hW3]
    have hM3:=H2.out.2.2.below hb3
    have B3:=hM3.bel
    have hst3:StepsAt (fun b=>F b∧b≠eb) W3 vs P.steps:=HP.out.1.steps.below B3
    have d0:=(cell_bel B3 ⟨eb,0,none⟩ leb).trans e0
    have d1:=(cell_bel B3 ⟨eb,1,none⟩ leb).trans e1
    have hr3:=hM3.runsAt
    have hal3:A1.length≤24:=hr.out.2.alen
    have HM3:=hid (And.intro hM3 (And.intro hst3 (And.intro hr3 (And.intro hb3 hev3))))
    clear hW3 hM3 hst3 hr3 hb3 hev3
    refine (inWindow_any (fun _=>True) _ A1 eb (En.nth Q1 0).time P.win W3 HM3.out.2.2.1 (by omega) hw0 hw1 d1).mono ?_
    rintro e w4 ⟨v4,rfl,ho4,hb4⟩
    obtain⟨a4,c4,rfl⟩:=own_slice ho4
    obtain⟨live,hlive⟩:∃live,(A1.filter fun x=>inWinP P.win (En.nth Q1 0).time x.1)=live:=⟨_,rfl⟩
    rw[hlive] at ho4 ⊢
    have hll:live.length≤24:=by rw[← hlive];exact Nat.le_trans (List.length_filter_le _ _) hal3
    have hlr:RunsAt (fun _=>True) w4 (.slice a4 live.length c4) live:=⟨(RowAt.ofOwn ho4).mono (fun _ _ _=>trivial),fun x hx=>by
     rw[← hlive] at hx
     exact (HM3.out.2.2.1.offs x (List.mem_filter.1 hx).1).below hb4⟩
    have hlo:∀x∈live,x.1.offs.length≤100000∧x.1.step≤1000:=fun x hx=>by
     rw[← hlive] at hx
     have h1:=hr.out.2.ofl x (List.mem_filter.1 hx).1
     have h2:=hr.out.2.stp x (List.mem_filter.1 hx).1
     omega
    have l3:=lt_of_block HM3.out.2.2.2.2
    have leb3:eb < W3.heap.size:=Nat.lt_of_lt_of_le leb B3.size
    have f0:=(cell_bel hb4 ⟨eb,0,none⟩ leb3).trans d0
    have f1:=(cell_bel hb4 ⟨eb,1,none⟩ leb3).trans d1
    obtain⟨x0,x1,x2,-⟩:=three_cl ((hb4.block _ l3).trans HM3.out.2.2.2.2)
    have H4:=hid (And.intro ho4 (And.intro hb4 (And.intro hlr (And.intro hlo hlive))))
    clear ho4 hb4 hlr hlo hlive
    go_wp2_with (first | (go_at_call 105;refine (grown_any (fun _=>True) (fun b=>F b∧b≠eb) _ live (En.nth Q1 0) eb P.win vs P.steps _ H4.out.2.2.1 (by omega) H4.out.2.2.2.1 (HM3.out.2.1.below H4.out.2.1) hPn f0 f1).mono ?_;rintro e w5 ⟨v5,S5,M5,rfl,p5,s5,m5,ho5,oo5,hb5⟩;obtain⟨a5,c5,rfl⟩:=own_slice ho5;have H5:=hid (And.intro p5 (And.intro s5 (And.intro m5 (And.intro ho5 (And.intro oo5 hb5)))));clear p5 s5 m5 ho5 oo5 hb5) | (go_at_call 108;fail))
    have hE5:=hr.out.2.ended (S:=S5) (M:=M5) hPn (En.nth Q1 0) (hr.out.2.evs _ (by rw[En.nth_eq hq0];exact List.getElem_mem hq0)) (by rw[H4.out.2.2.2.2];exact H5.out.2.2.1) H5.out.1
    have hE5r:RunsAt (fun _=>True) w5 (.slice a5 (cmpctR S5).length c5) (cmpctR S5):=⟨(RowAt.ofOwn H5.out.2.2.2.1).mono (fun _ _ _=>trivial),fun x hx=>RowAt.mono (RowAt.ofOwn (H5.out.2.2.2.2.1 x (hE5.1 x hx).1)) (fun _ _ _=>trivial)⟩
    have leb4:eb < w4.heap.size:=Nat.lt_of_lt_of_le leb3 H4.out.2.1.size
    have g0:=(cell_bel H5.out.2.2.2.2.2 ⟨eb,0,none⟩ leb4).trans f0
    have g1:=(cell_bel H5.out.2.2.2.2.2 ⟨eb,1,none⟩ leb4).trans f1
    have HE5:=hid (And.intro hE5 hE5r)
    have hE5n:=hE5.2
    clear hE5 hE5r
    refine (ableToGoOn_any (fun _=>True) (fun b=>F b∧b≠eb) _ (cmpctR S5) eb P.win vs P.steps _ HE5.out.2 (by omega) ((HM3.out.2.1.below H4.out.2.1).below H5.out.2.2.2.2.2) (by omega) (fun x hx=>(HE5.out.1.1 x hx).2.1) g0 g1).mono ?_
    rintro e w6 ⟨v6,rfl,ho6,hb6⟩
    obtain⟨a6,c6,rfl⟩:=own_slice ho6
    obtain⟨able,hable⟩:∃able,((cmpctR S5).filter fun x=>goesOn P.steps x.1.step)=able:=⟨_,rfl⟩
    rw[hable] at ho6 ⊢
    have hal6:able.length≤3000:=by rw[← hable];exact Nat.le_trans (List.length_filter_le _ _) hE5n
    have B56:Below w4.heap.size w4 w6:=H5.out.2.2.2.2.2.trans (hb6.mono H5.out.2.2.2.2.2.size)
    have H6:=hid (And.intro ho6 (And.intro hb6 (And.intro hable B56)))
    clear ho6 hb6 hable B56
    go_wp2_with (go_at_call 107;fail)
    have hB7:Below w6.heap.size w6 (w6.alloc (.cells #[.slice a4 live.length c4,.slice a6 able.length c6] 157)):=(Below.refl _ _).alloc (Nat.le_refl _) _
    have hoL:∀x∈live,IntsAt (fun _=>True) w6 x.2 x.1.offs:=fun x hx=>(H4.out.2.2.1.offs x hx).below H6.out.2.2.2
    have hoA:∀x∈able,IntsAt (fun _=>True) w6 x.2 x.1.offs:=fun x hx=>by
     rw[← H6.out.2.2.1] at hx
     exact (HE5.out.2.offs x (List.mem_filter.1 hx).1).below H6.out.2.1
    refine (concatR_two (fun _=>True) (fun _=>True) w6.heap.size (.slice a4 live.length c4) (.slice a6 able.length c6) live.length able.length (runCells live) (runCells able) _ (heap_alloc_new w6 _) (RowAt.below (RowAt.below H4.out.2.2.1.row H6.out.2.2.2) hB7) (RowAt.below ((RowAt.ofOwn H6.out.1).mono (fun _ _ _=>trivial)) hB7) (oneCell_runs live hoL) (oneCell_runs able hoA) (by omega)).mono ?_
    rintro e w7 ⟨v7,rfl,ho7,hb7⟩
    obtain⟨a7,c7,rfl⟩:=own_slice ho7
    have B67:Below w6.heap.size w6 w7:=hB7.trans (hb7.mono hB7.size)
    have B47:Below w4.heap.size w4 w7:=H6.out.2.2.2.trans (B67.mono H6.out.2.2.2.size)
    have B37:Below W3.heap.size W3 w7:=H4.out.2.1.trans (B47.mono H4.out.2.1.size)
    have ho7':w7.ownsRow w6.heap.size 164 3 (.slice a7 (live.length+able.length) c7) (live++able).length (runCells (live++able)):=by
     rw[List.length_append,runCells_append]
     exact own_mono ho7 hB7.size
    have hM5I:∀x∈M5,w7.ownsRow w4.heap.size 3 1 x.2 x.1.offs.length (intCells x.1.offs):=fun x hx=>own_below (own_below (H5.out.2.2.2.2.1 x hx) H6.out.2.1) B67
    have hR7:ROwn w6.heap.size w7 (.slice a7 (live.length+able.length) c7) (live++able):=⟨ho7',fun x hx=>by
     rcases List.mem_append.1 hx with hx | hx
     ·rw[← H4.out.2.2.2.2] at hx
      exact offs_below (HM3.out.1.offs x (List.mem_filter.1 hx).1) B37
     ·rw[← H6.out.2.2.1] at hx
      exact own_I64 (hM5I x (HE5.out.1.1 x (List.mem_filter.1 hx).1).1)⟩
    have H7:=hid (And.intro hR7 (And.intro B67 (And.intro B47 (And.intro B37 hM5I))))
    clear ho7 hb7 ho7' hM5I hR7 B67 B47 B37 hB7 hoL hoA
    go_wp2_with (go_at_call 106;fail)
    refine (arranged_any w6.heap.size _ (live++able) _ H7.out.1 (by rw[List.length_append];omega)).mono ?_
    rintro e w8 ⟨v8,Sn,rfl,p8,s8,o8,g8,-⟩
    have hb78:Below w6.heap.size w6 w8:=H7.out.2.1.grown g8 H7.out.2.1.size (fun k hk=>(own_block H7.out.1.row k hk).1)
    have B38:Below W3.heap.size W3 w8:=(H4.out.2.1.trans (H6.out.2.2.2.mono H4.out.2.1.size)).trans (hb78.mono (by have:=H4.out.2.1.size;have:=H6.out.2.2.2.size;omega))
    have B48:Below w4.heap.size w4 w8:=H6.out.2.2.2.trans (hb78.mono H6.out.2.2.2.size)
    have hM8:∀x∈M5,w8.ownsRow w4.heap.size 3 1 x.2 x.1.offs.length (intCells x.1.offs):=fun x hx=>own_below (own_below (H5.out.2.2.2.2.1 x hx) H6.out.2.1) hb78
    have hstep:=hr.out.2.step (Lv:=[]) hP0 hPn H2.out.1 hq0 H2.out.2.1 hfr (by rw[H4.out.2.2.2.2];exact H5.out.2.2.1) H5.out.1 H5.out.2.1 (Sn:=Sn) (by rw[H4.out.2.2.2.2,H6.out.2.2.1];exact p8) s8
    have hN8:AvMem F w w8 wb _ v8 _ rest (cmpctR Sn) L:=HM3.out.1.next B38 o8.row (fun x hx=>(hstep.2.1 x hx).imp id (fun h=>own_mono (hM8 x h) H4.out.2.1.size))
    obtain⟨a8,c8,rfl⟩:=own_slice o8.row
    have H8:=hid (And.intro hN8 (And.intro p8 (And.intro s8 (And.intro hM8 (And.intro B38 (And.intro B48 (And.intro hb78 hstep)))))))
    clear p8 s8 o8 g8 hb78 B38 B48 hM8 hstep hN8
    by_cases h24:24 < (cmpctR Sn).length
    ·have h24':(24:Int) < ((cmpctR Sn).length:Int):=by omega
     go_wp2
     go_ret2
     exact Or.inl ⟨hr.out.2.full H2.out.1 hfr (by rw[← H8.out.2.2.2.2.2.2.2.1,List.length_map];exact h24),rfl,H8.out.1.bel⟩
    ·have h24':decide ((24:Int) < ((cmpctR Sn).length:Int))=false:=decide_eq_false (by omega)
     have leb8:eb < w4.heap.size:=leb4
     have i0:=(cell_bel H8.out.2.2.2.2.2.1 ⟨eb,0,none⟩ leb8).trans f0
     have i1:=(cell_bel H8.out.2.2.2.2.2.1 ⟨eb,1,none⟩ leb8).trans f1
     have l4:w2.heap.size < w4.heap.size:=Nat.lt_of_lt_of_le l3 H4.out.2.1.size
     have y2:=(cell_bel H8.out.2.2.2.2.2.1 ⟨w2.heap.size,2,none⟩ l4).trans x2
     go_wp2_with (go_at_call 109;fail)
     have hB58:Below w5.heap.size w5 w8:=H6.out.2.1.trans (H8.out.2.2.2.2.2.2.1.mono H6.out.2.1.size)
     have hD12:D.length≤12:=by omega
     refine (matches_any (fun _=>True) (fun b=>F b∧b≠eb) _ (cmpctR S5) eb (En.nth Q1 0).time P.win vs P.steps _ (HE5.out.2.below hB58) (by omega) (fun x hx=>⟨by have:=(HE5.out.1.1 x hx).2.2.1;omega,(HE5.out.1.1 x hx).2.2.2⟩) ((HM3.out.2.1.below H4.out.2.1).below H8.out.2.2.2.2.2.1) (by omega) i0 i1).mono ?_
     rintro e w9 ⟨v9,Lv,rfl,o9,m9,b9⟩
     obtain⟨a9,c9,rfl⟩:=o9.len
     have hN9:=H8.out.1.below b9
     have hLv:Lv.length≤3000:=by
      have h1:=congrArg List.length m9
      rw[List.length_map,List.length_map] at h1
      have h2:=List.length_filter_le (fun x=>decide (x.1.step+1=P.steps.length)) (cmpctR S5)
      omega
     have hLl:L.length≤1200000:=by have:=hr.out.2.llen;omega
     have hone:∀u∈mCells Lv,u.oneCell'=true:=by
      intro u hu
      obtain⟨y,hy,hu⟩:=List.mem_flatMap.1 hu
      obtain⟨a,c,hv⟩:=own_slice (o9.offs y hy).1
      simp at hu
      rcases hu with rfl | rfl
      ·rw[hv];rfl
      ·rfl
     have H9:=hid (And.intro o9 (And.intro m9 (And.intro b9 (And.intro hN9 hone))))
     clear o9 m9 b9 hN9 hone hB58
     obtain⟨j0,hj0,hz0,hz1,hz2⟩:=info_parts Tryz.infoMatch
     go_wp2_with (at_builtin;refine wpList_append_row rfl _ _ 35 rfl w.heap.size 109 j0 (.agg #[.slice none 0 0,.int .i64 0]) 2 32 Tryz.underlying35 hj0 hz0 hz1 hz2 rfl (by decide) _ _ _ rfl H9.out.2.2.2.1.mat.row (fun b=>w8.heap.size≤b) _ Lv.length (mCells Lv) rfl (RowAt.ofOwn H9.out.1.row) H9.out.2.2.2.2 (by unfold maxLen;omega) (by omega) H9.out.2.2.2.1.bel.size ?_)
     intro v10 w10 own10 gr10
     have hM10:AvMem F w w10 wb _ _ v10 rest (cmpctR Sn) (L++Lv):=H9.out.2.2.2.1.more H9.out.1 H8.out.1.bel.size (fun x hx b hb=>ints_lt (H8.out.1.offs x hx) hb) (fun y hy b hb=>by
      obtain⟨g,h1,-,h3⟩:=own_some (H8.out.1.mat.offs y hy).1 (H8.out.1.mat.offs y hy).2
      rw[h1] at hb
      cases hb
      exact h3) own10 gr10
     have hst10:=(hr.out.2.step (Lv:=Lv) hP0 hPn H2.out.1 hq0 H2.out.2.1 hfr (by rw[H4.out.2.2.2.2];exact H5.out.2.2.1) H5.out.1 H5.out.2.1 (Sn:=Sn) (by rw[H4.out.2.2.2.2,H6.out.2.2.1];exact H8.out.2.1) H8.out.2.2.1).2.2.2.2 (by omega) H9.out.2.1
     have HF:=hid (And.intro hM10 hst10)
     clear own10 gr10 hM10 hst10
     go_wp2
     go_roundw
     case rel=>exact⟨_,_,_,rest,cmpctR Sn,L++Lv,D++[En.nth Q1 0],rfl,rfl,HF⟩
     case measure=>
      rw[HF.out.1.qlen,hr.out.1.qlen]
      have:=H2.out.1.length_eq
      simp at this
      omega
theorem eAdvance_late (F:Nat→Prop)(eb:Nat)(P:En.Pat)(W Next t:Int)(vs vq vr:Value)(Q:List En.Ev)(A:List RV)(w:World)(h:PEng F w eb P W Next vs vq vr Q A)(hlt:t < W) :
  Calls Tryz.prog 60 #[.pointer (some ⟨eb,0,none⟩),.int .i64 t] w fun e w'=>e=.returned (.tuple #[.slice none 0 0,.iface 135 (.agg #[.int .i64 t,.int .i64 W])])∧Below w.heap.size w w':=by
 obtain⟨e0,e1,e2,e3,e4,e5,ef⟩:=six_cl h.blk
 clear h ef e0 e1 e3 e4 e5
 go_enter Tryz.func60,Tryz.ntmps60
 go_wp2
 go_quiet (fail)
 revert nq;intro n1
 go_wp2
 go_ret2
 exact⟨rfl,bel_drewN (Below.refl _ _) _⟩
theorem eFeed_late (F:Nat→Prop)(eb:Nat)(P:En.Pat)(W Next kind time:Int)(vs vq vr:Value)(Q:List En.Ev)(A:List RV)(w:World)(h:PEng F w eb P W Next vs vq vr Q A)(hlt:time≤W) :
  Calls Tryz.prog 59 #[.pointer (some ⟨eb,0,none⟩),.agg #[.int .i32 kind,.int .i64 time]] w fun e w'=>e=.returned (.tuple #[.int .i64 0,.iface 135 (.agg #[.int .i64 time,.int .i64 W])])∧Below w.heap.size w w':=by
 have leb:=lt_of_block h.blk
 have hal:=(Below.refl w.heap.size w).alloc (Nat.le_refl _) (.cells #[.int .i32 kind,.int .i64 time] 39)
 have ha:(w.alloc (.cells #[.int .i32 kind,.int .i64 time] 39)).heap[w.heap.size]?=some (.cells #[.int .i32 kind,.int .i64 time] 39 (0,0)):=heap_alloc_new w _
 generalize hW1:w.alloc (.cells #[.int .i32 kind,.int .i64 time] 39)=W1 at hal ha
 obtain⟨x0,x1,-⟩:=two_cl ha
 obtain⟨e0,e1,e2,e3,e4,e5,ef⟩:=six_cl ((hal.block _ leb).trans h.blk)
 have HB:=hid hal
 have leb1:eb < W1.heap.size:=Nat.lt_of_lt_of_le leb hal.size
 have lev:=lt_of_block ha
 clear h ef e0 e1 e3 e4 e5 hal ha
 go_enter Tryz.func59,Tryz.ntmps59
 go_wp2
 go_quiet (fail)
 revert nq;intro n1
 have hB1:Below W1.heap.size W1 (W1.drewN n1):=bel_drewN (Below.refl _ _) _
 generalize W1.drewN n1=W2 at hB1 ⊢
 have y1:=(cell_bel hB1 ⟨w.heap.size,1,none⟩ lev).trans x1
 have y2:=(cell_bel hB1 ⟨eb,2,none⟩ leb1).trans e2
 have HB1:=hid hB1
 clear x0 x1 e2 hB1
 go_wp2
 go_quiet (fail)
 revert nq;intro n2
 go_wp2
 go_ret2
 exact⟨rfl,HB.out.trans ((bel_drewN HB1.out n2).mono HB.out.size)⟩
theorem set6 {w:World}{b:Nat}{x0 x1 x2 x3 x4 x5:Value}{t:TypeId}(h:w.heap[b]?=some (.cells #[x0,x1,x2,x3,x4,x5] t (0,0)))(u:Value) :
  (w.setCell ⟨b,3,none⟩ u).heap[b]?=some (.cells #[x0,x1,x2,u,x4,x5] t (0,0))∧(w.setCell ⟨b,4,none⟩ u).heap[b]?=some (.cells #[x0,x1,x2,x3,u,x5] t (0,0)):=by
 have one:∀i,(w.setCell ⟨b,i,none⟩ u).heap[b]?=some (.cells (#[x0,x1,x2,x3,x4,x5].setIfInBounds i u) t (0,0)):=by
  intro i
  show (w.heap.modify b _)[b]?=_
  rw[Array.getElem?_modify,if_pos rfl,h]
  rfl
 exact⟨by simpa using one 3,by simpa using one 4⟩
def FdOk (F:Nat→Prop)(eb:Nat)(P:En.Pat)(W Next:Int)(vs vq vr:Value)(Q:List En.Ev)(A:List RV)(w:World)(e:Ending)(w':World):Prop:=
 e=.returned (.tuple #[.int .i64 Next,.nilIface])∧∃vq' Q',Q'.Perm Q∧En.Hp Q' Q'.length∧PEng (newF F w.heap.size (.slice none 0 0) []) w' eb P W (Next+1) vs vq' vr Q' A ∧
  w'.os=w.os∧w'.tape=w.tape∧w'.output=w.output∧w.heap.size≤w'.heap.size∧∀k,k < w.heap.size→k≠eb→some k≠vq.ownBlock→w'.heap[k]?=w.heap[k]?
theorem eFeed_other (F:Nat→Prop)(eb:Nat)(P:En.Pat)(W Next kind time:Int)(vs vq vr:Value)(Q:List En.Ev)(A:List RV)(w:World)(h:PEng F w eb P W Next vs vq vr Q A)(hlt:W < time)(hPn:P.steps.length≤100)(hN0:0≤Next)(hN1:Next≤9007199254740992)(hh:(P.steps.any fun x=>x.1 == kind)=false)(hp:En.Hp Q Q.length) :
  Calls Tryz.prog 59 #[.pointer (some ⟨eb,0,none⟩),.agg #[.int .i32 kind,.int .i64 time]] w (FdOk F eb P W Next vs vq vr Q A w):=by
 have leb:=lt_of_block h.blk
 have hal:=(Below.refl w.heap.size w).alloc (Nat.le_refl _) (.cells #[.int .i32 kind,.int .i64 time] 39)
 have ha:(w.alloc (.cells #[.int .i32 kind,.int .i64 time] 39)).heap[w.heap.size]?=some (.cells #[.int .i32 kind,.int .i64 time] 39 (0,0)):=heap_alloc_new w _
 generalize hW1:w.alloc (.cells #[.int .i32 kind,.int .i64 time] 39)=W1 at hal ha
 obtain⟨x0,x1,-⟩:=two_cl ha
 obtain⟨e0,e1,e2,e3,e4,e5,ef⟩:=six_cl ((hal.block _ leb).trans h.blk)
 have hlt':decide (time≤W)=false:=decide_eq_false (by omega)
 obtain⟨ss,cs,rfl,-,-⟩:=RowAt.slice h.steps
 have leb1:eb < W1.heap.size:=Nat.lt_of_lt_of_le leb hal.size
 have lev:=lt_of_block ha
 have HC:=hid (fun W' (hW:Below W1.heap.size W1 W')=>pHas_any (fun b=>F b∧b≠eb) (.slice ss P.steps.length cs) P.steps P.win kind W' ((h.steps.below hal).below hW) (by omega))
 rw[hh] at HC
 have HP:=hid (And.intro h (And.intro hal hp))
 clear h ef hal ha hp
 go_enter Tryz.func59,Tryz.ntmps59
 go_wp2
 go_quiet (fail)
 revert nq;intro n1
 have hB1:Below W1.heap.size W1 (W1.drewN n1):=bel_drewN (Below.refl _ _) _
 generalize W1.drewN n1=W2 at hB1 ⊢
 have y0:=(cell_bel hB1 ⟨w.heap.size,0,none⟩ lev).trans x0
 have y1:=(cell_bel hB1 ⟨eb,0,none⟩ leb1).trans e0
 have y2:=(cell_bel hB1 ⟨eb,1,none⟩ leb1).trans e1
 have leb2:eb < W2.heap.size:=Nat.lt_of_lt_of_le leb1 hB1.size
 have lev2:w.heap.size < W2.heap.size:=Nat.lt_of_lt_of_le lev hB1.size
 have HC2:=hid (fun W' (hW:Below W2.heap.size W2 W')=>HC.out W' (hB1.trans (hW.mono hB1.size)))
 have HB1:=hid hB1
 clear x0 x1 e0 e1 e2 e3 e4 e5 hB1 HC
 go_wp2
 go_region_held3 (fun W=>W.cell? ⟨eb,0,none⟩=some (.slice ss P.steps.length cs)∧W.cell? ⟨eb,1,none⟩=some (.int .i64 P.win)∧W.cell? ⟨w.heap.size,0,none⟩=some (.int .i32 kind)) (go_keep) ((go_at_call 100;refine (HC2.out _ (by first | exact bel_drewN (Below.refl _ _) _ | exact Below.drew (Below.refl _ _) | exact Below.refl _ _)).mono ?_;rintro e w3 ⟨rfl,hb3⟩;have z0:=(cell_bel hb3 ⟨eb,0,none⟩ leb2).trans y1;have z1:=(cell_bel hb3 ⟨eb,1,none⟩ leb2).trans y2;have z2:=(cell_bel hb3 ⟨w.heap.size,0,none⟩ lev2).trans y0;have H3:=hid hb3;clear hb3))
 have HB3:Hid (Below W2.heap.size W2 w3):=hid (by first | exact H3.out | exact (bel_drewN (Below.refl _ _) _).trans H3.out | exact (Below.drew (Below.refl _ _)).trans H3.out)
 have hBw:Below w.heap.size w w3:=(HP.out.2.1.trans (HB1.out.mono HP.out.2.1.size)).trans (HB3.out.mono (by have:=HP.out.2.1.size;have:=HB1.out.size;omega))
 have hblk:=(hBw.block _ leb).trans HP.out.1.blk
 obtain⟨q0,q1,q2,q3,q4,q5,qf⟩:=six_cl hblk
 have qf3:=qf 3
 have hw:IntKind.i64.wrap (Next+1)=Next+1:=wrap_small (by omega) (by omega)
 have HW:=hid (And.intro hBw hblk)
 clear qf hBw hblk
 go_wp2
 have hset:=(set6 HW.out.2 (.int .i64 (Next+1))).1
 go_ret2
 refine⟨rfl,vq,Q,List.Perm.refl _,HP.out.2.2,HP.out.1.turned (by simpa [World.setCell] using HW.out.1.size) (fun b hb hne _=>(Below.heap_setCell _ _ _ _ hne).trans (HW.out.1.block b hb)) hset (own_kept (own_below HP.out.1.wait HW.out.1) HW.out.2 (by decide) (grown_set _ _ _ _)) (fun g hg=>⟨Or.inl (HP.out.1.wself g hg),Or.inl hg⟩) (fun b hb=>Or.inl hb),HW.out.1.os,HW.out.1.tape,HW.out.1.output,by simpa [World.setCell] using HW.out.1.size,fun k hk hne _=>(Below.heap_setCell _ _ _ _ hne).trans (HW.out.1.block k hk)⟩
theorem eFeed_full (F:Nat→Prop)(eb:Nat)(P:En.Pat)(W Next kind time:Int)(vs vq vr:Value)(Q:List En.Ev)(A:List RV)(w:World)(h:PEng F w eb P W Next vs vq vr Q A)(hlt:W < time)(hPn:P.steps.length≤100)(hh:(P.steps.any fun x=>x.1 == kind)=true)(hp:En.Hp Q Q.length)(h12:12≤Q.length) :
  Calls Tryz.prog 59 #[.pointer (some ⟨eb,0,none⟩),.agg #[.int .i32 kind,.int .i64 time]] w fun e w'=>e=.returned (.tuple #[.int .i64 0,.iface 137 (.agg #[.string ⟨#[101,118,101,110,116,115,32,119,111,117,108,100,32,119,97,105,116]⟩,.int .i64 12])])∧Below w.heap.size w w':=by
 have leb:=lt_of_block h.blk
 have h12':(12:Int)≤(Q.length:Int):=by omega
 obtain⟨aq,cq,rfl⟩:=own_slice h.wait
 have hal:=(Below.refl w.heap.size w).alloc (Nat.le_refl _) (.cells #[.int .i32 kind,.int .i64 time] 39)
 have ha:(w.alloc (.cells #[.int .i32 kind,.int .i64 time] 39)).heap[w.heap.size]?=some (.cells #[.int .i32 kind,.int .i64 time] 39 (0,0)):=heap_alloc_new w _
 generalize hW1:w.alloc (.cells #[.int .i32 kind,.int .i64 time] 39)=W1 at hal ha
 obtain⟨x0,x1,-⟩:=two_cl ha
 obtain⟨e0,e1,e2,e3,e4,e5,ef⟩:=six_cl ((hal.block _ leb).trans h.blk)
 have hlt':decide (time≤W)=false:=decide_eq_false (by omega)
 obtain⟨ss,cs,rfl,-,-⟩:=RowAt.slice h.steps
 have leb1:eb < W1.heap.size:=Nat.lt_of_lt_of_le leb hal.size
 have lev:=lt_of_block ha
 have HC:=hid (fun W' (hW:Below W1.heap.size W1 W')=>pHas_any (fun b=>F b∧b≠eb) (.slice ss P.steps.length cs) P.steps P.win kind W' ((h.steps.below hal).below hW) (by omega))
 rw[hh] at HC
 have HP:=hid (And.intro h (And.intro hal hp))
 clear h ef hal ha hp
 go_enter Tryz.func59,Tryz.ntmps59
 go_wp2
 go_quiet (fail)
 revert nq;intro n1
 have hB1:Below W1.heap.size W1 (W1.drewN n1):=bel_drewN (Below.refl _ _) _
 generalize W1.drewN n1=W2 at hB1 ⊢
 have y0:=(cell_bel hB1 ⟨w.heap.size,0,none⟩ lev).trans x0
 have y1:=(cell_bel hB1 ⟨eb,0,none⟩ leb1).trans e0
 have y2:=(cell_bel hB1 ⟨eb,1,none⟩ leb1).trans e1
 have leb2:eb < W2.heap.size:=Nat.lt_of_lt_of_le leb1 hB1.size
 have lev2:w.heap.size < W2.heap.size:=Nat.lt_of_lt_of_le lev hB1.size
 have HC2:=hid (fun W' (hW:Below W2.heap.size W2 W')=>HC.out W' (hB1.trans (hW.mono hB1.size)))
 have HB1:=hid hB1
 clear x0 x1 e0 e1 e2 e3 e4 e5 hB1 HC
 go_wp2
 go_region_held3 (fun W=>W.cell? ⟨eb,0,none⟩=some (.slice ss P.steps.length cs)∧W.cell? ⟨eb,1,none⟩=some (.int .i64 P.win)∧W.cell? ⟨w.heap.size,0,none⟩=some (.int .i32 kind)) (go_keep) ((go_at_call 100;refine (HC2.out _ (by first | exact bel_drewN (Below.refl _ _) _ | exact Below.drew (Below.refl _ _) | exact Below.refl _ _)).mono ?_;rintro e w3 ⟨rfl,hb3⟩;have z0:=(cell_bel hb3 ⟨eb,0,none⟩ leb2).trans y1;have z1:=(cell_bel hb3 ⟨eb,1,none⟩ leb2).trans y2;have z2:=(cell_bel hb3 ⟨w.heap.size,0,none⟩ lev2).trans y0;have H3:=hid hb3;clear hb3))
 have HB3:Hid (Below W2.heap.size W2 w3):=hid (by first | exact H3.out | exact (bel_drewN (Below.refl _ _) _).trans H3.out | exact (Below.drew (Below.refl _ _)).trans H3.out)
 have hBw:Below w.heap.size w w3:=(HP.out.2.1.trans (HB1.out.mono HP.out.2.1.size)).trans (HB3.out.mono (by have:=HP.out.2.1.size;have:=HB1.out.size;omega))
 have hblk:=(hBw.block _ leb).trans HP.out.1.blk
 obtain⟨q0,q1,q2,q3,q4,q5,qf⟩:=six_cl hblk
 have HW:=hid hBw
 clear qf hBw hblk
 go_wp2
 go_ret2
 exact⟨rfl,HW.out⟩
theorem eFeed_take (F:Nat→Prop)(eb:Nat)(P:En.Pat)(W Next kind time:Int)(vs vq vr:Value)(Q:List En.Ev)(A:List RV)(w:World)(h:PEng F w eb P W Next vs vq vr Q A)(hlt:W < time)(hPn:P.steps.length≤100)(hN0:0≤Next)(hN1:Next≤9007199254740992)(hh:(P.steps.any fun x=>x.1 == kind)=true)(hp:En.Hp Q Q.length)(h12:Q.length < 12) :
  Calls Tryz.prog 59 #[.pointer (some ⟨eb,0,none⟩),.agg #[.int .i32 kind,.int .i64 time]] w (FdOk F eb P W Next vs vq vr (Q++[⟨Next,kind,time⟩]) A w):=by
 have leb:=lt_of_block h.blk
 have h12':decide ((12:Int)≤(Q.length:Int))=false:=decide_eq_false (by omega)
 obtain⟨aq,cq,rfl⟩:=own_slice h.wait
 have hal:=(Below.refl w.heap.size w).alloc (Nat.le_refl _) (.cells #[.int .i32 kind,.int .i64 time] 39)
 have ha:(w.alloc (.cells #[.int .i32 kind,.int .i64 time] 39)).heap[w.heap.size]?=some (.cells #[.int .i32 kind,.int .i64 time] 39 (0,0)):=heap_alloc_new w _
 generalize hW1:w.alloc (.cells #[.int .i32 kind,.int .i64 time] 39)=W1 at hal ha
 obtain⟨x0,x1,-⟩:=two_cl ha
 obtain⟨e0,e1,e2,e3,e4,e5,ef⟩:=six_cl ((hal.block _ leb).trans h.blk)
 have hlt':decide (time≤W)=false:=decide_eq_false (by omega)
 obtain⟨ss,cs,rfl,-,-⟩:=RowAt.slice h.steps
 have leb1:eb < W1.heap.size:=Nat.lt_of_lt_of_le leb hal.size
 have lev:=lt_of_block ha
 have HC:=hid (fun W' (hW:Below W1.heap.size W1 W')=>pHas_any (fun b=>F b∧b≠eb) (.slice ss P.steps.length cs) P.steps P.win kind W' ((h.steps.below hal).below hW) (by omega))
 rw[hh] at HC
 have HP:=hid (And.intro h (And.intro hal hp))
 clear h ef hal ha hp
 go_enter Tryz.func59,Tryz.ntmps59
 go_wp2
 go_quiet (fail)
 revert nq;intro n1
 have hB1:Below W1.heap.size W1 (W1.drewN n1):=bel_drewN (Below.refl _ _) _
 generalize W1.drewN n1=W2 at hB1 ⊢
 have y0:=(cell_bel hB1 ⟨w.heap.size,0,none⟩ lev).trans x0
 have y3:=(cell_bel hB1 ⟨w.heap.size,1,none⟩ lev).trans x1
 have y1:=(cell_bel hB1 ⟨eb,0,none⟩ leb1).trans e0
 have y2:=(cell_bel hB1 ⟨eb,1,none⟩ leb1).trans e1
 have leb2:eb < W2.heap.size:=Nat.lt_of_lt_of_le leb1 hB1.size
 have lev2:w.heap.size < W2.heap.size:=Nat.lt_of_lt_of_le lev hB1.size
 have HC2:=hid (fun W' (hW:Below W2.heap.size W2 W')=>HC.out W' (hB1.trans (hW.mono hB1.size)))
 have HB1:=hid hB1
 clear x0 x1 e0 e1 e2 e3 e4 e5 hB1 HC
 go_wp2
 go_region_held3 (fun W=>W.cell? ⟨eb,0,none⟩=some (.slice ss P.steps.length cs)∧W.cell? ⟨eb,1,none⟩=some (.int .i64 P.win)∧W.cell? ⟨w.heap.size,0,none⟩=some (.int .i32 kind)) (go_keep) ((go_at_call 100;refine (HC2.out _ (by first | exact bel_drewN (Below.refl _ _) _ | exact Below.drew (Below.refl _ _) | exact Below.refl _ _)).mono ?_;rintro e w3 ⟨rfl,hb3⟩;have z0:=(cell_bel hb3 ⟨eb,0,none⟩ leb2).trans y1;have z1:=(cell_bel hb3 ⟨eb,1,none⟩ leb2).trans y2;have z2:=(cell_bel hb3 ⟨w.heap.size,0,none⟩ lev2).trans y0;have H3:=hid hb3;clear hb3))
 have HB3:Hid (Below W2.heap.size W2 w3):=hid (by first | exact H3.out | exact (bel_drewN (Below.refl _ _) _).trans H3.out | exact (Below.drew (Below.refl _ _)).trans H3.out)
 have hBw:Below w.heap.size w w3:=(HP.out.2.1.trans (HB1.out.mono HP.out.2.1.size)).trans (HB3.out.mono (by have:=HP.out.2.1.size;have:=HB1.out.size;omega))
 have hblk:=(hBw.block _ leb).trans HP.out.1.blk
 obtain⟨q0,q1,q2,q3,q4,q5,qf⟩:=six_cl hblk
 have t0:=(cell_bel HB3.out ⟨w.heap.size,0,none⟩ lev2).trans y0
 have t1:=(cell_bel HB3.out ⟨w.heap.size,1,none⟩ lev2).trans y3
 have hqb:∀c fz,w3.heap[eb]?≠some (.cells c 194 fz):=fun c fz e=>by
  have:=block_type e hblk
  exact absurd this (by decide)
 have lev3:w.heap.size < w3.heap.size:=Nat.lt_of_lt_of_le lev2 HB3.out.size
 have hvq:∀k,w.heap.size≤k→some k≠(Value.slice aq Q.length cq).ownBlock:=fun k hk e=>by
  obtain⟨-,c,fz,h'⟩:=own_block HP.out.1.wait k e.symm
  have:=lt_of_block h'
  omega
 have HA:=hid (fun W' (hW:Below w3.heap.size w3 W')=>qAdd_any 0 eb 4 (.slice aq Q.length cq) Q ⟨Next,kind,time⟩ W' (six_cl ((hW.block _ (lt_of_block hblk)).trans hblk)).2.2.2.2.1 ((six_cl ((hW.block _ (lt_of_block hblk)).trans hblk)).2.2.2.2.2.2 4) (own_below (own_below HP.out.1.wait hBw) hW) (fun c fz e=>by
  rw[hW.block _ (lt_of_block hblk)] at e
  exact hqb c fz e) (by omega) (Nat.zero_le _) HP.out.2.2)
 have HW:=hid (And.intro hBw (And.intro hblk hvq))
 have hw:IntKind.i64.wrap (Next+1)=Next+1:=wrap_small (by omega) (by omega)
 clear qf hBw hblk hqb z0 z1 z2 hvq
 go_wp2
 go_region_held3 (fun W=>W.cell? ⟨eb,3,none⟩=some (.int .i64 Next)∧W.cell? ⟨w.heap.size,0,none⟩=some (.int .i32 kind)∧W.cell? ⟨w.heap.size,1,none⟩=some (.int .i64 time)) (go_keep) ((go_at_call 101;have BW:Below w3.heap.size w3 _:=(by first | exact bel_drewN (Below.refl _ _) _ | exact Below.drew (Below.refl _ _) | exact Below.refl _ _);refine (HA.out _ BW).mono ?_;rintro e w4 ⟨rfl,g,cap',l',hQ4,hp4,hh4,hT4,hg4⟩;have hb4:=hT4.self.trans (set6 ((BW.block _ (lt_of_block HW.out.2.1)).trans HW.out.2.1) _).2;obtain⟨s0,s1,s2,s3,s4,s5,sf⟩:=six_cl hb4;have sf3:=sf 3;have u0:=(World.cell?_of_block (a:=⟨w.heap.size,0,none⟩) (hT4.block w.heap.size (Nat.lt_of_lt_of_le lev3 BW.size) (by omega) (HW.out.2.2 _ (Nat.le_refl _)))).trans ((cell_bel BW ⟨w.heap.size,0,none⟩ lev3).trans t0);have u1:=(World.cell?_of_block (a:=⟨w.heap.size,1,none⟩) (hT4.block w.heap.size (Nat.lt_of_lt_of_le lev3 BW.size) (by omega) (HW.out.2.2 _ (Nat.le_refl _)))).trans ((cell_bel BW ⟨w.heap.size,1,none⟩ lev3).trans t1);have H4:=hid (And.intro hQ4 (And.intro hp4 (And.intro hh4 (And.intro hb4 (And.intro hT4 (And.intro hg4 BW))))));clear hQ4 hp4 hh4 hb4 hT4 hg4 BW sf))
 go_wp2
 have hset:=(set6 H4.out.2.2.2.1 (.int .i64 (Next+1))).1
 have hfr:∀k,k < w.heap.size→k≠eb→some k≠(Value.slice aq Q.length cq).ownBlock→(w4.setCell ⟨eb,3,none⟩ (.int .i64 (Next+1))).heap[k]?=w.heap[k]?:=fun k hk hne hv=>
  (Below.heap_setCell _ _ _ _ hne).trans ((H4.out.2.2.2.2.1.block k (by have:=HW.out.1.size;have:=H4.out.2.2.2.2.2.2.size;omega) hne hv).trans ((H4.out.2.2.2.2.2.2.block k (by have:=HW.out.1.size;omega)).trans (HW.out.1.block k hk)))
 have hsz:w.heap.size≤(w4.setCell ⟨eb,3,none⟩ (.int .i64 (Next+1))).heap.size:=by
  have h1:=HW.out.1.size
  have h2:=H4.out.2.2.2.2.2.2.size
  have h3:=H4.out.2.2.2.2.1.size
  simp[World.setCell]
  omega
 go_ret2
 refine⟨rfl,_,l',H4.out.2.1,H4.out.2.2.1,HP.out.1.turned hsz hfr hset (own_kept H4.out.1.row H4.out.2.2.2.1 (by decide) (grown_set _ _ _ _)) (fun g' hg'=>?_) (fun b hb=>Or.inl hb),?_,?_,?_,hsz,hfr⟩
 ·have e:g=g':=by simpa [Value.ownBlock] using hg'
  subst e
  rcases H4.out.2.2.2.2.2.1 with h1 | h1
  ·exact⟨Or.inl (HP.out.1.wself g h1),Or.inl h1⟩
  ·have h2:=HW.out.1.size
   have h3:=H4.out.2.2.2.2.2.2.size
   exact⟨Or.inr ⟨by omega,by simp[Value.ownBlock],by intro y hy;cases hy⟩,Or.inr (by omega)⟩
 ·exact (H4.out.2.2.2.2.1.os.trans H4.out.2.2.2.2.2.2.os).trans HW.out.1.os
 ·exact (H4.out.2.2.2.2.1.tape.trans H4.out.2.2.2.2.2.2.tape).trans HW.out.1.tape
 ·exact (H4.out.2.2.2.2.1.output.trans H4.out.2.2.2.2.2.2.output).trans HW.out.1.output
theorem eNew_any (ss:Option Addr)(n cs:Nat)(win:Int)(w:World) :
  Calls Tryz.prog 84 #[.agg #[.slice ss n cs,.int .i64 win]] w fun e w'=>∃eb,e=.returned (.pointer (some ⟨eb,0,none⟩))∧w.heap.size≤eb∧w'.heap[eb]?=some (.cells #[.slice ss n cs,.int .i64 win,.int .i64 (-9223372036854775808),.int .i64 0,.slice none 0 0,.slice none 0 0] 159 (0,0))∧Below w.heap.size w w':=by
 go_enter Tryz.func84,Tryz.ntmps84
 go_wp2
 go_ret
 exact⟨_,rfl,by simp,new_at (by simp),by repeat (first | exact Below.refl _ _ | refine Below.drew ?_ | refine Below.alloc ?_ (by simp;try omega) _)⟩
end Go.Proofs.YtfldcmdhneegmaaGreatDoor

import Derived.Test.YtfldcmdhneegmaaGreatDoorX13
import Derived.Deep.DeepCutAuto
set_option maxHeartbeats 4000000
set_option maxRecDepth 1000000
namespace Go.Proofs.YtfldcmdhneegmaaGreatDoor
open Go.RowKit Go.Lib
structure PEng (F:Nat→Prop)(w:World)(eb:Nat)(P:En.Pat)(W Next:Int)(vs vq vr:Value)(Q:List En.Ev)(A:List RV):Prop where
 blk:w.heap[eb]?=some (.cells #[vs,.int .i64 P.win,.int .i64 W,.int .i64 Next,vq,vr] 159 (0,0))
 self:F eb
 steps:StepsAt (fun b=>F b∧b≠eb) w vs P.steps
 wait:QRow 0 w vq Q
 wself:∀g,vq.ownBlock=some g→F g
 sq:∀b,vs.ownBlock=some b→vq.ownBlock≠some b
 runs:RowAt (fun b=>F b∧RunT w b) w vr 3 A.length (runCells A)
 offs:∀x∈A,IntsAt (fun b=>F b∧I64 w b) w x.2 x.1.offs
theorem six_cl {w:World}{N:Nat}{x0 x1 x2 x3 x4 x5:Value}{t:TypeId}(h:w.heap[N]?=some (.cells #[x0,x1,x2,x3,x4,x5] t (0,0))):w.cell? ⟨N,0,none⟩=some x0∧w.cell? ⟨N,1,none⟩=some x1∧w.cell? ⟨N,2,none⟩=some x2∧w.cell? ⟨N,3,none⟩=some x3∧w.cell? ⟨N,4,none⟩=some x4∧w.cell? ⟨N,5,none⟩=some x5∧(∀i,w.frozen? ⟨N,i,none⟩=false):=by
 simp[World.cell?,World.frozen?,h]
theorem AvMem.start {F:Nat→Prop}{w wx:World}{eb wb:Nat}{P:En.Pat}{W Next:Int}{vs vq vr v1:Value}{Q:List En.Ev}{A:List RV}(h:PEng F w eb P W Next vs vq vr Q A)(hb:Below w.heap.size w wx)(hwb:w.heap.size≤wb)(hv:wx.heap[wb]?=some (.cells #[v1] 156 (0,0)))(hq:QRow w.heap.size wx v1 Q):AvMem F w wx wb v1 vr (.slice none 0 0) Q A []:=
 ⟨hb,hwb,hv,hq,RowAt.mono (RowAt.below h.runs hb) (fun _ _ hF=>Or.inr (hF.2.below hb)),fun x hx=>offs_below (RowAt.mono (h.offs x hx) (fun _ _ hF=>hF.2)) hb,fun x hx b hxb _=>by
  rcases (h.offs x hx).2 with ⟨he,-⟩ | ⟨b',o,cap,he,hF,-⟩
  ·rw[he] at hxb;cases hxb
  ·rw[he] at hxb
   cases hxb
   exact hF.1,MOwn.nil _ _,fun _ _ _ hy=>by cases hy⟩
def qLenOf (w:World)(wb:Nat):Nat:=match w.cell? ⟨wb,0,none⟩ with
 | some (.slice _ n _)=>n
 | _=>0
theorem AvMem.qlen {F:Nat→Prop}{w wr:World}{wb:Nat}{vq vr vm:Value}{Q:List En.Ev}{A:List RV}{L:List MV}(h:AvMem F w wr wb vq vr vm Q A L):qLenOf wr wb=Q.length:=by
 obtain⟨a,c,rfl⟩:=own_slice h.qrow
 unfold qLenOf
 rw[one_of h.qvar]
def AvFull (w:World)(e:Ending)(w':World):Prop:=
 e=.returned (.tuple #[.slice none 0 0,.iface 137 (.agg #[.string ⟨#[114,117,110,115,32,119,111,117,108,100,32,98,101,32,117,110,100,101,114,32,119,97,121]⟩,.int .i64 24])])∧Below w.heap.size w w'
def newF (F:Nat→Prop)(N:Nat)(vm:Value)(L:List MV)(b:Nat):Prop:=F b∨(N≤b∧vm.ownBlock≠some b∧∀y∈L,y.2.ownBlock≠some b)
def AvOk (F:Nat→Prop)(eb:Nat)(P:En.Pat)(Next t:Int)(vs:Value)(ψ:Int→Int)(K:Nat)(Q:List En.Ev)(A:List En.Rn)(w:World)(e:Ending)(w':World):Prop:=
 ∃(vm vq vr:Value) (L:List MV) (Q':List En.Ev) (A' B:List RV) (D:List En.Ev),e=.returned (.tuple #[vm,.nilIface])∧En.advInc P A ((En.sortEv Q).filter fun e=>decide (e.time≤t))=some (L.map Prod.fst,B.map Prod.fst)∧A'=B.filter (fun x=>lastsP P.win t x.1)∧En.sortEv Q'=(En.sortEv Q).filter (fun e=>decide (t < e.time)) ∧
  AvPl P ψ A Q t K Q' B L D∧PEng (newF F w.heap.size vm L) w' eb P t Next vs vq vr Q' A'∧MOwn w.heap.size w' vm L∧w.grownBy w' (some eb)
theorem PEng.turned {F F':Nat→Prop}{w w':World}{eb:Nat}{P:En.Pat}{W Next W' Next':Int}{vs vq vr vq':Value}{Q Q':List En.Ev}{A:List RV}(h:PEng F w eb P W Next vs vq vr Q A)(hsz:w.heap.size≤w'.heap.size)(hF:∀b,b < w.heap.size→b≠eb→some b≠vq.ownBlock→w'.heap[b]?=w.heap[b]?)
  (hblk:w'.heap[eb]?=some (.cells #[vs,.int .i64 P.win,.int .i64 W',.int .i64 Next',vq',vr] 159 (0,0))) (hq:QRow 0 w' vq' Q') (hqs:∀g,vq'.ownBlock=some g→F' g∧(vq.ownBlock=some g∨w.heap.size≤g)) (hFF:∀b,F b→F' b):PEng F' w' eb P W' Next' vs vq' vr Q' A:=by
 have ne:∀(b:Nat) (c:Array Value) (t:TypeId) (fz:Nat × Nat),w.heap[b]?=some (.cells c t fz)→t≠159→t≠194→w'.heap[b]?=some (.cells c t fz):=fun b c t fz hb h1 h2=>(hF b (lt_of_block hb) (fun e=>by subst e;exact h1 (block_type hb h.blk)) (fun e=>by
  obtain⟨-,c',fz',h'⟩:=own_block h.wait b e.symm
  exact h2 (block_type hb h'))).trans hb
 have hvs:∀b,vs.ownBlock=some b→b < w.heap.size:=fun b hb=>by
  rcases h.steps.2 with ⟨he,-⟩ | ⟨b',o,cap,he,-,hlt,-⟩
  ·rw[he] at hb;cases hb
  ·rw[he] at hb
   cases hb
   exact hlt
 refine⟨hblk,hFF _ h.self,?_,hq,fun g hg=>(hqs g hg).1,fun b hb hb'=>?_,?_,fun x hx=>?_⟩
 ·have hs:=h.steps
  rcases hs.2 with ⟨he,h0⟩ | ⟨b,o,cap,he,hFb,r1,r2,r3,r4⟩
  ·exact⟨hs.1,Or.inl ⟨he,h0⟩⟩
  ·have hb:w'.heap[b]?=w.heap[b]?:=hF b r1 hFb.2 (fun e=>h.sq b (by rw[he];rfl) e.symm)
   exact⟨hs.1,Or.inr ⟨b,o,cap,he,⟨hFF _ hFb.1,hFb.2⟩,Nat.lt_of_lt_of_le r1 hsz,r2,r3,fun j u hj=>by rw[← r4 j u hj];exact World.cell?_of_block hb⟩⟩
 ·rcases (hqs b hb').2 with h1 | h1
  ·exact h.sq b hb h1
  ·have:=hvs b hb
   omega
 ·refine RowAt.mono (RowAt.frame h.runs hsz (fun b _ hFb=>?_)) (fun b _ hFb=>?_)
  ·obtain⟨c,fz,h2⟩:=hFb.2
   exact (ne b c 164 fz h2 (by decide) (by decide)).trans h2.symm
  ·obtain⟨c,fz,h2⟩:=hFb.2
   exact⟨hFF _ hFb.1,c,fz,ne b c 164 fz h2 (by decide) (by decide)⟩
 ·refine RowAt.mono (RowAt.frame (h.offs x hx) hsz (fun b _ hFb=>?_)) (fun b _ hFb=>?_)
  ·obtain⟨c,fz,h2⟩:=hFb.2
   exact (ne b c 3 fz h2 (by decide) (by decide)).trans h2.symm
  ·obtain⟨c,fz,h2⟩:=hFb.2
   exact⟨hFF _ hFb.1,c,fz,ne b c 3 fz h2 (by decide) (by decide)⟩
def FdOk (F:Nat→Prop)(eb:Nat)(P:En.Pat)(W Next:Int)(vs vq vr:Value)(Q:List En.Ev)(A:List RV)(w:World)(e:Ending)(w':World):Prop:=
 e=.returned (.tuple #[.int .i64 Next,.nilIface])∧∃vq' Q',Q'.Perm Q∧En.Hp Q' Q'.length∧PEng (newF F w.heap.size (.slice none 0 0) []) w' eb P W (Next+1) vs vq' vr Q' A ∧
  w'.os=w.os∧w'.tape=w.tape∧w'.output=w.output∧w.heap.size≤w'.heap.size∧∀k,k < w.heap.size→k≠eb→some k≠vq.ownBlock→w'.heap[k]?=w.heap[k]?
end Go.Proofs.YtfldcmdhneegmaaGreatDoor

import Derived.Test.YtfldcmdhneegmaaGreatDoorX14
import Derived.Test.YtfldcmdhneegmaaGreatDoorX16
set_option maxHeartbeats 4000000
set_option maxRecDepth 1000000
namespace Go.Proofs.YtfldcmdhneegmaaGreatDoor
open Go.RowKit Go.Lib
theorem PEng.below {F F':Nat→Prop}{w w':World}{eb:Nat}{P:En.Pat}{W Next:Int}{vs vq vr:Value}{Q:List En.Ev}{A:List RV}(h:PEng F w eb P W Next vs vq vr Q A)(hb:Below w.heap.size w w')(hFF:∀b,F b→F' b):PEng F' w' eb P W Next vs vq vr Q A:=
 h.turned hb.size (fun b hlt _ _=>hb.block b hlt) ((hb.block _ (lt_of_block h.blk)).trans h.blk) (own_below h.wait hb) (fun g hg=>⟨hFF _ (h.wself g hg),Or.inl hg⟩) hFF
def FdEnd (F:Nat→Prop)(eb:Nat)(P:En.Pat)(W Next:Int)(vs vq vr:Value)(Q:List En.Ev)(A:List RV)(kind time:Int)(w:World)(e:Ending)(w':World):Prop:=
 e=.returned (.tuple #[.int .i64 (En.feed P W Next Q kind time).1.1,.int .i64 (En.feed P W Next Q kind time).1.2])∧∃vq' Q',Q'.Perm (En.feed P W Next Q kind time).2.2∧En.Hp Q' Q'.length∧PEng (newF F w.heap.size (.slice none 0 0) []) w' eb P W (En.feed P W Next Q kind time).2.1 vs vq' vr Q' A ∧
  w'.os=w.os∧w'.tape=w.tape∧w'.output=w.output∧w.heap.size≤w'.heap.size∧∀k,k < w.heap.size→k≠eb→some k≠vq.ownBlock→w'.heap[k]?=w.heap[k]?
theorem FdOk.far {F:Nat→Prop}{eb:Nat}{P:En.Pat}{W Next:Int}{vs vq vr:Value}{Q Q0:List En.Ev}{A:List RV}{w w':World}{e:Ending}(h:PEng F w eb P W Next vs vq vr Q A)(hf:FdOk F eb P W Next vs vq vr Q0 A w e w'){b:Nat}(hb:b < w.heap.size)(hF:¬ F b):w'.heap[b]?=w.heap[b]?:=by
 obtain⟨-,-,-,-,-,-,-,-,-,-,hk⟩:=hf
 exact hk b hb (fun e=>hF (by rw[e];exact h.self)) (fun e=>hF (h.wself b e.symm))
def AvBody (F:Nat→Prop)(eb:Nat)(P:En.Pat)(Next t:Int)(vs:Value)(ψ:Int→Int)(K:Nat)(Q:List En.Ev)(A:List En.Rn)(w:World)(vm:Value)(w':World):Prop:=
 ∃(vq vr:Value) (L:List MV) (Q':List En.Ev) (A' B:List RV) (D:List En.Ev),En.advInc P A ((En.sortEv Q).filter fun e=>decide (e.time≤t))=some (L.map Prod.fst,B.map Prod.fst)∧A'=B.filter (fun x=>lastsP P.win t x.1)∧En.sortEv Q'=(En.sortEv Q).filter (fun e=>decide (t < e.time)) ∧
  AvPl P ψ A Q t K Q' B L D∧PEng (newF F w.heap.size vm L) w' eb P t Next vs vq vr Q' A'∧MOwn w.heap.size w' vm L∧w.grownBy w' (some eb)
end Go.Proofs.YtfldcmdhneegmaaGreatDoor
namespace Go.Proofs.YtfldcmdhneegmaaGreatDoor
namespace En
def Agr (ψ T:Int→Int)(n:Int):Prop:=∀k,k < n→ψ k=T k
structure Pw (P:Pat)(W Next:Int)(Q:List Ev)(B:List Rn)(K:Nat)(T:Int→Int):Prop where
 w0:0≤P.win
 w1:P.win≤9999
 s0:0 < P.steps.length
 s4:P.steps.length≤4
 n0:0≤Next
 wlo:-9223372036854775808≤W
 q12:Q.length≤12
 evs:∀e∈Q,W < e.time∧e.time≤9223372036854775807∧e.off < Next∧e.time=T e.off
 apt:Apt Q
 ord:Ord B
 det:∀ψ,Agr ψ T Next→∀r∈B,Det ψ r
 lo:∀r∈B,-9223372036854775808≤r.first∧r.first≤W
 go:∀r∈B,r.step < P.steps.length∧goes P r.step=true
 b24:B.length≤24
 ofl:∀r∈B,r.offs.length≤K
def upd (T:Int→Int)(n t:Int)(k:Int):Int:=if k=n then t else T k
theorem Agr.upd {ψ T:Int→Int}{n n' t:Int}(h:Agr ψ (upd T n t) n')(hn:n≤n'):Agr ψ T n:=fun k hk=>by
 rw[h k (by omega)]
 unfold En.upd
 rw[if_neg (by omega)]
section
variable {P:Pat} {W Next:Int} {Q:List Ev} {B:List Rn} {K:Nat} {T:Int→Int}
theorem Pw.start (P:Pat)(w0:0≤P.win)(w1:P.win≤9999)(s0:0 < P.steps.length)(s4:P.steps.length≤4):Pw P (-9223372036854775808) 0 [] [] 0 (fun _=>0):=
 ⟨w0,w1,s0,s4,by omega,by omega,by simp,by simp,by simp[Apt],trivial,by simp,by simp,by simp,by simp,by simp⟩
theorem Pw.more {K':Nat}(h:Pw P W Next Q B K T)(hk:K≤K'):Pw P W Next Q B K' T:=⟨h.w0,h.w1,h.s0,h.s4,h.n0,h.wlo,h.q12,h.evs,h.apt,h.ord,h.det,h.lo,h.go,h.b24,fun r hr=>Nat.le_trans (h.ofl r hr) hk⟩
theorem ord_mono {l:List Ev}(h:InOrd l):∀(i j:Nat) (a b:Ev),i≤j→l[i]?=some a→l[j]?=some b→a.time≤b.time:=by
 intro i j a b hij ha hb
 have hj:j < l.length:=by
  rcases Nat.lt_or_ge j l.length with h | h
  ·exact h
  ·rw[List.getElem?_eq_none h] at hb;cases hb
 have h1:=h.at i j hij hj
 rw[nth_eq (by omega),nth_eq hj] at h1
 rw[List.getElem?_eq_getElem (by omega)] at ha
 rw[List.getElem?_eq_getElem hj] at hb
 cases ha
 cases hb
 rw[evLe_iff] at h1
 omega
theorem InOrd.filter {l:List Ev}(p:Ev→Bool)(h:InOrd l):InOrd (l.filter p):=by
 induction l with
 | nil=>exact trivial
 | cons x t ih=>
  rw[List.filter_cons]
  split
  ·exact⟨fun y hy=>h.1 y (List.mem_filter.1 hy).1,ih h.2⟩
  ·exact ih h.2
theorem Pw.ctx (h:Pw P W Next Q B K T)(t:Int)(ψ:Int→Int)(ha:Agr ψ T Next):Ctx P ([]++(sortEv Q).filter fun e=>decide (e.time≤t)) B ψ:=by
 have hm:∀d∈[]++(sortEv Q).filter (fun e=>decide (e.time≤t)),d∈Q:=fun d hd=>(sortEv_perm Q).mem_iff.1 (List.mem_filter.1 (show d∈(sortEv Q).filter (fun e=>decide (e.time≤t)) from hd)).1
 refine⟨h.w0,by have:=h.w1;omega,fun d hd=>?_,fun d hd=>?_,fun d hd=>(h.evs d (hm d hd)).2.1,ord_mono (by simpa using InOrd.filter _ (sortEv_ord Q)),h.det ψ ha,fun r hr=>(h.lo r hr).1,fun r hr d hd=>?_⟩
 ·obtain⟨-,-,h3,h4⟩:=h.evs d (hm d hd)
  rw[h4,ha _ h3]
 ·have:=(h.evs d (hm d hd)).1
  have:=h.wlo
  omega
 ·have:=(h.evs d (hm d hd)).1
  have:=(h.lo r hr).2
  omega
theorem lasts_filter (P:Pat)(t:Int)(l:List Rn):(l.filter fun r=>decide (0≤P.win - 1∧far t r.first≤P.win - 1))=l.filter (lastsP P.win t):=by
 apply List.filter_congr
 intro r _
 have h0:0≤far t r.first:=by unfold far;omega
 unfold lastsP
 apply decide_eq_decide.2
 omega
theorem Pw.adv (h:Pw P W Next Q B K T)(t:Int)(hW:W≤t)(ht:t≤9223372036854775807) :
  (advLoop P B t [] [] [] (sortEv Q)=none∧advInc P B ((sortEv Q).filter fun e=>decide (e.time≤t))=none)∨∃m B',advLoop P B t [] [] [] (sortEv Q)=some (m,(sortEv Q).filter (fun e=>decide (t < e.time)),(sortEv Q).filter fun e=>decide (e.time≤t))∧advInc P B ((sortEv Q).filter fun e=>decide (e.time≤t))=some (m,B') ∧
   under P ((sortEv Q).filter fun e=>decide (e.time≤t)) B t (P.win - 1)=B'.filter (lastsP P.win t) ∧
   (B'.length≤24→(∀r∈B',r.offs.length≤K+12)→Pw P t Next ((sortEv Q).filter fun e=>decide (t < e.time)) (B'.filter (lastsP P.win t)) (K+12) T):=by
 have C:=h.ctx t T (fun _ _=>rfl)
 have hc:=cover_start (P:=P) (old:=B) (ψ:=T) (h.det T (fun _ _=>rfl)) h.ord (fun r hr=>(h.lo r hr).1) h.go
 have hle:∀d∈(sortEv Q).filter (fun e=>decide (e.time≤t)),d.time≤t:=fun d hd=>of_decide_eq_true (List.mem_filter.1 hd).2
 rw[advLoop_eq]
 rcases adv_eq _ [] B C h.go hc with ⟨h1,h2⟩ | ⟨m,B',h1,h2,hC⟩
 ·exact Or.inl ⟨by rw[h1];rfl,h2⟩
 ·refine Or.inr ⟨m,B',by rw[h1];simp,h2,?_,fun h24 hofl=>?_⟩
  ·have:=under_later C h.go hC t ht (fun d hd=>hle d hd)
   rw[lasts_filter] at this
   simpa using this
  ·have hsub:∀r∈B'.filter (lastsP P.win t),r∈B':=fun r hr=>(List.mem_filter.1 hr).1
   refine⟨h.w0,h.w1,h.s0,h.s4,h.n0,by have:=h.wlo;omega,?_,fun e he=>?_,?_,ord_filter _ hC.ord,fun ψ ha r hr=>?_,fun r hr=>⟨hC.lo r (hsub r hr),?_⟩,fun r hr=>hC.go r (hsub r hr),Nat.le_trans (List.length_filter_le _ _) h24,fun r hr=>hofl r (hsub r hr)⟩
   ·refine Nat.le_trans (List.length_filter_le _ _) ?_
    rw[(sortEv_perm Q).length_eq]
    exact h.q12
   ·obtain⟨he1,he2⟩:=List.mem_filter.1 he
    obtain⟨-,e2,e3,e4⟩:=h.evs e ((sortEv_perm Q).mem_iff.1 he1)
    exact⟨of_decide_eq_true he2,e2,e3,e4⟩
   ·have h1:=h.apt.perm (sortEv_perm Q)
    exact List.Nodup.sublist (List.Sublist.map _ (List.filter_sublist)) h1
   ·have hc':=cover_start (P:=P) (old:=B) (ψ:=ψ) (h.det ψ ha) h.ord (fun r hr=>(h.lo r hr).1) h.go
    rcases adv_eq _ [] B (h.ctx t ψ ha) h.go hc' with ⟨-,h2'⟩ | ⟨m',B'',-,h2',hC'⟩
    ·rw[h2'] at h2;cases h2
    ·rw[h2'] at h2
     injection h2 with h2
     injection h2 with _ h2
     subst h2
     exact hC'.det r (hsub r hr)
   ·rcases hC.sub r (hsub r hr) with h3 | ⟨j,hj,h3⟩
    ·have:=(h.lo r h3).2
     omega
    ·have hd:=List.getElem?_eq_getElem hj
     have h4:=(good_ends C r.step j _ hd r h3).hi
     have h5:=hle (([]++(sortEv Q).filter fun e=>decide (e.time≤t))[j]) (List.getElem_mem hj)
     omega
end
end En
end Go.Proofs.YtfldcmdhneegmaaGreatDoor
namespace Go.Proofs.YtfldcmdhneegmaaGreatDoor
open Go.RowKit Go.Lib
theorem own_frame {w w':World}{base:Nat}{e:TypeId}{size:Nat}{v:Value}{n:Nat}{xs:List Value}(h:w.ownsRow base e size v n xs)(hb:∀g,v.ownBlock=some g→w'.heap[g]?=w.heap[g]?):w'.ownsRow base e size v n xs:=by
 refine⟨h.1,?_⟩
 rcases h.2 with h2 | ⟨g,cap,cur,hv,hg,hh,r⟩
 ·exact Or.inl h2
 ·exact Or.inr ⟨g,cap,cur,hv,hg,(hb g (by rw[hv];rfl)).trans hh,r⟩
structure Moved (G:Nat→Prop)(w w':World):Prop where
 os:w'.os=w.os
 tape:w'.tape=w.tape
 output:w'.output=w.output
 size:w.heap.size≤w'.heap.size
 block:∀k,k < w.heap.size→¬ G k→w'.heap[k]?=w.heap[k]?
theorem Moved.ofBelow {G:Nat→Prop}{w w':World}(h:Below w.heap.size w w'):Moved G w w':=⟨h.os,h.tape,h.output,h.size,fun k hk _=>h.block k hk⟩
theorem Moved.trans {G G':Nat→Prop}{w w1 w2:World}(h:Moved G w w1)(h':Moved G' w1 w2)(hG:∀b,G' b→G b∨w.heap.size≤b):Moved G w w2:=
 ⟨h'.os.trans h.os,h'.tape.trans h.tape,h'.output.trans h.output,Nat.le_trans h.size h'.size,fun k hk hn=>(h'.block k (Nat.lt_of_lt_of_le hk h.size) (fun e=>(hG k e).elim hn (fun h=>by omega))).trans (h.block k hk hn)⟩
theorem Moved.mono {G G':Nat→Prop}{w w1:World}(h:Moved G w w1)(hG:∀b,G b→G' b):Moved G' w w1:=⟨h.os,h.tape,h.output,h.size,fun k hk hn=>h.block k hk (fun e=>hn (hG k e))⟩
section
variable {F F':Nat→Prop} {w w':World} {eb:Nat} {P:En.Pat} {W Next:Int} {vs vq vr:Value} {Q:List En.Ev} {A:List RV}
theorem PEng.frame (h:PEng F w eb P W Next vs vq vr Q A)(hs:w.heap.size≤w'.heap.size)(hb:∀b,b < w.heap.size→F b→w'.heap[b]?=w.heap[b]?):PEng F w' eb P W Next vs vq vr Q A where
 blk:=(hb eb (lt_of_block h.blk) h.self).trans h.blk
 self:=h.self
 steps:=RowAt.frame h.steps hs (fun b hlt hF=>hb b hlt hF.1)
 wait:=own_frame h.wait (fun g hg=>hb g (h.wait.lt g hg).2 (h.wself g hg))
 wself:=h.wself
 sq:=h.sq
 runs:=RowAt.mono (RowAt.frame (RowAt.mono (G:=fun b=>F b∧RunT w b∧b < w.heap.size) h.runs (fun b hlt hF=>⟨hF.1,hF.2,hlt⟩)) hs (fun b hlt hF=>hb b hlt hF.1)) (fun b _ hF=>⟨hF.1,by
  obtain⟨c,fz,h1⟩:=hF.2.1
  exact⟨c,fz,(hb b hF.2.2 hF.1).trans h1⟩⟩)
 offs:=fun x hx=>RowAt.mono (RowAt.frame (RowAt.mono (G:=fun b=>F b∧I64 w b∧b < w.heap.size) (h.offs x hx) (fun b hlt hF=>⟨hF.1,hF.2,hlt⟩)) hs (fun b hlt hF=>hb b hlt hF.1)) (fun b _ hF=>⟨hF.1,by
  obtain⟨c,fz,h1⟩:=hF.2.1
  exact⟨c,fz,(hb b hF.2.2 hF.1).trans h1⟩⟩)
theorem PEng.mono (h:PEng F w eb P W Next vs vq vr Q A)(hF:∀b,b < w.heap.size→F b→F' b):PEng F' w eb P W Next vs vq vr Q A where
 blk:=h.blk
 self:=hF _ (lt_of_block h.blk) h.self
 steps:=RowAt.mono h.steps (fun b hlt hb=>⟨hF b hlt hb.1,hb.2⟩)
 wait:=h.wait
 wself:=fun g hg=>hF g (h.wait.lt g hg).2 (h.wself g hg)
 sq:=h.sq
 runs:=RowAt.mono h.runs (fun b hlt hb=>⟨hF b hlt hb.1,hb.2⟩)
 offs:=fun x hx=>RowAt.mono (h.offs x hx) (fun b hlt hb=>⟨hF b hlt hb.1,hb.2⟩)
end
end Go.Proofs.YtfldcmdhneegmaaGreatDoor
namespace Go.Proofs.YtfldcmdhneegmaaGreatDoor
namespace En
def abP (win:Int):Pat:={ steps:=[(97,false),(98,false)],win:=win }
theorem Pw.first {P:Pat}{W Next:Int}{Q:List Ev}{B:List Rn}{K:Nat}{T:Int→Int}(h:Pw P W Next Q B K T)(t:Int)(hW:W≤t){m:List (List Int × Int)}{B':List Rn}(ha:advInc P B ((sortEv Q).filter fun e=>decide (e.time≤t))=some (m,B')) :
  ∀r∈B',-9223372036854775808≤r.first∧r.first≤t:=by
 have C:=h.ctx t T (fun _ _=>rfl)
 have hc:=cover_start (P:=P) (old:=B) (ψ:=T) (h.det T (fun _ _=>rfl)) h.ord (fun r hr=>(h.lo r hr).1) h.go
 have hle:∀d∈(sortEv Q).filter (fun e=>decide (e.time≤t)),d.time≤t:=fun d hd=>of_decide_eq_true (List.mem_filter.1 hd).2
 rcases adv_eq _ [] B C h.go hc with ⟨-,h2⟩ | ⟨m',B'',-,h2,hC⟩
 ·rw[h2] at ha;cases ha
 ·rw[h2] at ha
  injection ha with ha
  injection ha with _ ha
  subst ha
  intro r hr
  refine⟨hC.lo r hr,?_⟩
  rcases hC.sub r hr with h3 | ⟨j,hj,h3⟩
  ·have:=(h.lo r h3).2
   omega
  ·have hd:=List.getElem?_eq_getElem hj
   have h4:=(good_ends C r.step j _ hd r h3).hi
   have h5:=hle (([]++(sortEv Q).filter fun e=>decide (e.time≤t))[j]) (List.getElem_mem hj)
   omega
end En
end Go.Proofs.YtfldcmdhneegmaaGreatDoor
namespace Go.Proofs.YtfldcmdhneegmaaGreatDoor
open Go.RowKit Go.Lib
structure GEn (F:Nat→Prop)(w:World)(sb eb:Nat)(P:En.Pat)(W Next:Int)(vs vq vr:Value)(Q R:List En.Ev)(A:List RV)(K:Nat)(T:Int→Int):Prop where
 sblk:w.heap[sb]?=some (.cells #[.pointer (some ⟨eb,0,none⟩)] 74 (0,0))
 pe:PEng F w eb P W Next vs vq vr Q A
 hp:En.Hp Q Q.length
 perm:Q.Perm R
 pw:En.Pw P W Next R (A.map Prod.fst) K T
 lt:∀b,F b→b < w.heap.size
 ns:¬ F sb
def GAt (G:Nat→Prop)(w:World)(sb eb:Nat)(P:En.Pat)(W Next:Int)(R:List En.Ev)(B:List En.Rn)(K:Nat)(T:Int→Int):Prop:=
 ∃(F:Nat→Prop) (vs vq vr:Value) (Q:List En.Ev) (A:List RV),GEn F w sb eb P W Next vs vq vr Q R A K T∧A.map Prod.fst=B∧∀b,G b↔F b∨b=sb
section
variable {G:Nat→Prop} {w w':World} {sb eb:Nat} {P:En.Pat} {W Next:Int} {R:List En.Ev} {B:List En.Rn} {K:Nat} {T:Int→Int}
theorem GAt.pw (h:GAt G w sb eb P W Next R B K T):En.Pw P W Next R B K T:=by
 obtain⟨F,vs,vq,vr,Q,A,h1,rfl,h3⟩:=h
 exact h1.pw
theorem GAt.glt (h:GAt G w sb eb P W Next R B K T):∀b,G b→b < w.heap.size:=by
 obtain⟨F,vs,vq,vr,Q,A,h1,h2,h3⟩:=h
 intro b hb
 rcases (h3 b).1 hb with hb | rfl
 ·exact h1.lt b hb
 ·exact lt_of_block h1.sblk
theorem GAt.eng (h:GAt G w sb eb P W Next R B K T):∃c fz,w.heap[eb]?=some (.cells c 159 fz):=by
 obtain⟨F,vs,vq,vr,Q,A,h1,h2,h3⟩:=h
 exact⟨_,_,h1.pe.blk⟩
theorem GAt.frame (h:GAt G w sb eb P W Next R B K T)(hs:w.heap.size≤w'.heap.size)(hb:∀b,G b→w'.heap[b]?=w.heap[b]?):GAt G w' sb eb P W Next R B K T:=by
 obtain⟨F,vs,vq,vr,Q,A,h1,h2,h3⟩:=h
 exact⟨F,vs,vq,vr,Q,A,⟨(hb sb ((h3 sb).2 (Or.inr rfl))).trans h1.sblk,h1.pe.frame hs (fun b _ hF=>hb b ((h3 b).2 (Or.inl hF))),h1.hp,h1.perm,h1.pw,fun b hF=>Nat.lt_of_lt_of_le (h1.lt b hF) hs,h1.ns⟩,h2,h3⟩
theorem GAt.below (h:GAt G w sb eb P W Next R B K T)(hb:Below w.heap.size w w'):GAt G w' sb eb P W Next R B K T:=h.frame hb.size (fun b hG=>hb.block b (h.glt b hG))
end
def GFed (G:Nat→Prop)(sb eb:Nat)(P:En.Pat)(W Next:Int)(R:List En.Ev)(B:List En.Rn)(K:Nat)(T:Int→Int)(kind time:Int)(w w':World):Prop:=
 ∃G',GAt G' w' sb eb P W (En.feed P W Next R kind time).2.1 (En.feed P W Next R kind time).2.2 B K (En.upd T Next time)∧(∀b,G' b→G b∨w.heap.size≤b)∧(∀b,G b→G' b)∧Moved G w w'
def GAdv (G:Nat→Prop)(sb eb:Nat)(P:En.Pat)(Next:Int)(R:List En.Ev)(B:List En.Rn)(K:Nat)(T:Int→Int)(t:Int)(w:World)(vm:Value)(w':World):Prop:=
 ∃(L:List MV) (B':List En.Rn) (G':Nat→Prop),En.advInc P B ((En.sortEv R).filter fun e=>decide (e.time≤t))=some (L.map Prod.fst,B')∧MOwn w.heap.size w' vm L∧L.length≤1200000∧(∀y∈L,y.1.1.length≤K+12) ∧
  GAt G' w' sb eb P t Next ((En.sortEv R).filter fun e=>decide (t < e.time)) (B'.filter (lastsP P.win t)) (K+12) T∧(∀b,G' b→G b∨(w.heap.size≤b∧vm.ownBlock≠some b∧∀y∈L,y.2.ownBlock≠some b))∧(∀b,G b→G' b)∧w.grownBy w' (some eb)
end Go.Proofs.YtfldcmdhneegmaaGreatDoor

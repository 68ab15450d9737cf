import Derived.Test.YtfldcmdhneegmaaGreatDoorY33
import Derived.Test.YtfldcmdhneegmaaGreatDoorY42
set_option maxHeartbeats 4000000
set_option maxRecDepth 1000000
namespace Go.Proofs.YtfldcmdhneegmaaGreatDoor
namespace En
structure Px (P:Pat)(W Next:Int)(Q:List Ev)(B:List Rn):Prop where
 fine:Pl.Fine P.steps P.win
 v:Pv P Next Q B
 z:Pz P W Q B
 wm:W≤9223372036854775807
theorem Px.start {l:List (Int × Bool)}{win:Int}(hf:Pl.Fine l win):Px ⟨l,win⟩ (-9223372036854775808) 0 [] []:=⟨hf,Pv.start _,Pz.start _ _,by omega⟩
theorem Px.fed {P:Pat}{W Next:Int}{Q:List Ev}{B:List Rn}(h:Px P W Next Q B)(hn:0≤Next)(kind time:Int):Px P W (feed P W Next Q kind time).2.1 (feed P W Next Q kind time).2.2 B:=
 ⟨h.fine,h.v.fed hn kind time,h.z.fed h.v kind time,h.wm⟩
theorem Px.adv {P:Pat}{W Next t:Int}{Q:List Ev}{B B':List Rn}{K:Nat}{T:Int→Int}{m:List (List Int × Int)}(h:Px P W Next Q B)(hw:Pw P W Next Q B K T)(ha:advInc P B ((sortEv Q).filter fun e=>decide (e.time≤t))=some (m,B'))(ht:t≤9223372036854775807) :
  Px P t Next ((sortEv Q).filter fun e=>decide (t < e.time)) (B'.filter (lastsP P.win t)):=⟨h.fine,h.v.adv hw ha,h.z.adv hw ha,ht⟩
end En
end Go.Proofs.YtfldcmdhneegmaaGreatDoor
namespace Go.Proofs.YtfldcmdhneegmaaGreatDoor
open Go.RowKit Go.Lib
theorem REng.frame {F:Nat→Prop}{w w':World}{eb pb:Nat}{P:En.Pat}{W Next:Int}{vs vw vd vo:Value}{Q D:List En.Ev}{old:List RV}(h:REng F w eb pb P W Next vs vw vd vo Q D old)(hs:w.heap.size≤w'.heap.size)(hb:∀b,b < w.heap.size→F b→w'.heap[b]?=w.heap[b]?)(he:w'.heap[eb]?=w.heap[eb]?)(hw:∀g,vw.ownBlock=some g→w'.heap[g]?=w.heap[g]?):REng F w' eb pb P W Next vs vw vd vo Q D old:=
 h.turned hs hb (he.trans h.blk) (own_frame h.wait hw) h.wne
def SdG (F1 F2:Nat→Prop)(cb sb rb:Nat)(vw:Value)(b:Nat):Prop:=F1 b∨F2 b∨b=cb∨b=sb∨b=rb∨vw.ownBlock=some b
structure SdIn (F1 F2:Nat→Prop)(w:World)(cb sb eb rb pb:Nat)(P:En.Pat)(W Next:Int)(vs vq vr vp vw vd vo:Value)(Q R:List En.Ev)(A old:List RV)(K:Nat)(T:Int→Int):Prop where
 blk:w.heap[cb]?=some (.cells #[.pointer (some ⟨sb,0,none⟩),.pointer (some ⟨rb,0,none⟩)] 128 (0,0))
 sblk:w.heap[sb]?=some (.cells #[.pointer (some ⟨eb,0,none⟩)] 74 (0,0))
 pe:PEng F1 w eb P W Next vs vq vr Q A
 re:REng F2 w rb pb P W Next vp vw vd vo R [] old
 hp:En.Hp Q Q.length
 perm:Q.Perm R
 same:A.map Prod.fst=old.map Prod.fst
 pw:En.Pw P W Next R (old.map Prod.fst) K T
 lt1:∀b,F1 b→b < w.heap.size
 d1:∀b,F1 b→¬ F2 b∧b≠cb∧b≠sb∧b≠rb∧vw.ownBlock≠some b
 d2:¬ F2 cb∧¬ F2 sb
 px:En.Px P W Next R (old.map Prod.fst)
section
variable {F1 F2:Nat→Prop} {w w':World} {cb sb eb rb pb:Nat} {P:En.Pat} {W Next:Int} {vs vq vr vp vw vd vo:Value} {Q R:List En.Ev} {A old:List RV} {K:Nat} {T:Int→Int}
theorem SdIn.glt (h:SdIn F1 F2 w cb sb eb rb pb P W Next vs vq vr vp vw vd vo Q R A old K T):∀b,SdG F1 F2 cb sb rb vw b→b < w.heap.size:=by
 rintro b (hb | hb | rfl | rfl | rfl | hb)
 ·exact h.lt1 b hb
 ·exact h.re.lt b hb
 ·exact lt_of_block h.blk
 ·exact lt_of_block h.sblk
 ·exact lt_of_block h.re.blk
 ·exact (h.re.wait.lt b hb).2
theorem SdIn.frame (h:SdIn F1 F2 w cb sb eb rb pb P W Next vs vq vr vp vw vd vo Q R A old K T)(hs:w.heap.size≤w'.heap.size)(hb:∀b,SdG F1 F2 cb sb rb vw b→w'.heap[b]?=w.heap[b]?):SdIn F1 F2 w' cb sb eb rb pb P W Next vs vq vr vp vw vd vo Q R A old K T where
 blk:=(hb cb (Or.inr (Or.inr (Or.inl rfl)))).trans h.blk
 sblk:=(hb sb (Or.inr (Or.inr (Or.inr (Or.inl rfl))))).trans h.sblk
 pe:=h.pe.frame hs (fun b _ hF=>hb b (Or.inl hF))
 re:=h.re.frame hs (fun b _ hF=>hb b (Or.inr (Or.inl hF))) (hb rb (Or.inr (Or.inr (Or.inr (Or.inr (Or.inl rfl)))))) (fun g hg=>hb g (Or.inr (Or.inr (Or.inr (Or.inr (Or.inr hg))))))
 hp:=h.hp
 perm:=h.perm
 same:=h.same
 pw:=h.pw
 lt1:=fun b hF=>Nat.lt_of_lt_of_le (h.lt1 b hF) hs
 d1:=h.d1
 d2:=h.d2
 px:=h.px
theorem SdIn.ne (h:SdIn F1 F2 w cb sb eb rb pb P W Next vs vq vr vp vw vd vo Q R A old K T):rb≠cb∧rb≠sb∧vw.ownBlock≠some cb∧vw.ownBlock≠some sb:=by
 refine⟨fun e=>?_,fun e=>?_,fun e=>?_,fun e=>?_⟩
 ·have h1:=h.re.blk
  rw[e,h.blk] at h1
  cases h1
 ·have h1:=h.re.blk
  rw[e,h.sblk] at h1
  cases h1
 ·obtain⟨-,c,fz,h1⟩:=own_block h.re.wait cb e
  rw[h.blk] at h1
  cases h1
 ·obtain⟨-,c,fz,h1⟩:=own_block h.re.wait sb e
  rw[h.sblk] at h1
  cases h1
end
def SdAt (G:Nat→Prop)(w:World)(cb n:Nat):Prop:=
 ∃(F1 F2:Nat→Prop) (sb eb rb pb:Nat) (P:En.Pat) (W Next:Int) (vs vq vr vp vw vd vo:Value) (Q R:List En.Ev) (A old:List RV) (K:Nat) (T:Int→Int),SdIn F1 F2 w cb sb eb rb pb P W Next vs vq vr vp vw vd vo Q R A old K T∧(∀b,G b↔SdG F1 F2 cb sb rb vw b)∧Next≤n∧K≤12 * n
theorem SdAt.glt {G:Nat→Prop}{w:World}{cb n:Nat}(h:SdAt G w cb n):∀b,G b→b < w.heap.size:=by
 obtain⟨F1,F2,sb,eb,rb,pb,P,W,Next,vs,vq,vr,vp,vw,vd,vo,Q,R,A,old,K,T,h1,h2,-⟩:=h
 exact fun b hb=>h1.glt b ((h2 b).1 hb)
theorem SdAt.frame {G:Nat→Prop}{w w':World}{cb n:Nat}(h:SdAt G w cb n)(hs:w.heap.size≤w'.heap.size)(hb:∀b,G b→w'.heap[b]?=w.heap[b]?):SdAt G w' cb n:=by
 obtain⟨F1,F2,sb,eb,rb,pb,P,W,Next,vs,vq,vr,vp,vw,vd,vo,Q,R,A,old,K,T,h1,h2,h3⟩:=h
 exact⟨F1,F2,sb,eb,rb,pb,P,W,Next,vs,vq,vr,vp,vw,vd,vo,Q,R,A,old,K,T,h1.frame hs (fun b hG=>hb b ((h2 b).2 hG)),h2,h3⟩
theorem SdAt.more {G:Nat→Prop}{w:World}{cb n:Nat}(h:SdAt G w cb n):SdAt G w cb (n+1):=by
 obtain⟨F1,F2,sb,eb,rb,pb,P,W,Next,vs,vq,vr,vp,vw,vd,vo,Q,R,A,old,K,T,h1,h2,h3,h4⟩:=h
 exact⟨F1,F2,sb,eb,rb,pb,P,W,Next,vs,vq,vr,vp,vw,vd,vo,Q,R,A,old,K,T,h1,h2,by omega,by omega⟩
section
variable {F1 F2:Nat→Prop} {w w1 w2:World} {cb sb eb rb pb:Nat} {P:En.Pat} {W Next:Int} {vs vq vr vp vw vd vo:Value} {Q R:List En.Ev} {A old:List RV} {K:Nat} {T:Int→Int}
theorem SdIn.apart (h:SdIn F1 F2 w cb sb eb rb pb P W Next vs vq vr vp vw vd vo Q R A old K T):¬ F2 eb∧cb≠eb∧sb≠eb∧rb≠eb∧vw.ownBlock≠some eb:=by
 obtain⟨h1,h2,h3,h4,h5⟩:=h.d1 eb h.pe.self
 exact⟨h1,Ne.symm h2,Ne.symm h3,Ne.symm h4,h5⟩
theorem SdIn.other (h:SdIn F1 F2 w cb sb eb rb pb P W Next vs vq vr vp vw vd vo Q R A old K T)(hs:w.heap.size≤w1.heap.size)(hb:∀b,b < w.heap.size→¬ F1 b→w1.heap[b]?=w.heap[b]?):REng F2 w1 rb pb P W Next vp vw vd vo R [] old:=
 h.re.frame hs (fun b hlt hF=>hb b hlt (fun h1=>(h.d1 b h1).1 hF)) (hb rb (lt_of_block h.re.blk) (fun h1=>(h.d1 rb h1).2.2.2.1 rfl)) (fun g hg=>hb g (h.re.wait.lt g hg).2 (fun h1=>(h.d1 g h1).2.2.2.2 hg))
theorem SdIn.fed1 {kind time:Int}{e:Ending}(h:SdIn F1 F2 w cb sb eb rb pb P W Next vs vq vr vp vw vd vo Q R A old K T)(h1:FdEnd F1 eb P W Next vs vq vr Q A kind time w e w1):w.heap.size≤w1.heap.size∧(∀b,b < w.heap.size→¬ F1 b→w1.heap[b]?=w.heap[b]?):=by
 obtain⟨-,vq',Q',-,-,-,-,-,-,hs,fr⟩:=h1
 exact⟨hs,fun b hlt hF=>fr b hlt (fun e=>hF (by rw[e];exact h.pe.self)) (fun e=>hF (h.pe.wself b e.symm))⟩
theorem SdIn.fed2 {kind time:Int}{e e':Ending}{n:Nat}(h:SdIn F1 F2 w cb sb eb rb pb P W Next vs vq vr vp vw vd vo Q R A old K T)(ht:time≤9223372036854775807)(hN:Next≤n)(hK:K≤12 * n)(h1:FdEnd F1 eb P W Next vs vq vr Q A kind time w e w1)
  (h2:FeedEnd F2 rb pb P W vp vw vd vo [] old (En.feed P W Next R kind time) w1 e' w2):∃G',SdAt G' w2 cb (n+1)∧(∀b,G' b→SdG F1 F2 cb sb rb vw b∨w.heap.size≤b)∧Moved (SdG F1 F2 cb sb rb vw) w w2:=by
 obtain⟨hs1,fr1⟩:=h.fed1 h1
 obtain⟨-,vq',Q',hq',hp',hPE,os1,ta1,ou1,-,-⟩:=h1
 obtain⟨-,hap,vw',hRE,hvw⟩:=h2
 obtain⟨f1,f2,f3⟩:=En.feed_perm P W Next h.perm kind time
 obtain⟨q1,q2,q3⟩:=h.pw.fed kind time ht
 obtain⟨z1,z2,z3,z4⟩:=h.ne
 have hs2:=hap.size
 have hlt:=h.glt
 have lcb:=lt_of_block h.blk
 have lsb:=lt_of_block h.sblk
 have lrb:=lt_of_block h.re.blk
 have fr2:∀b,b < w1.heap.size→(newF F1 w.heap.size (.slice none 0 0) [] b∧b < w1.heap.size)→w2.heap[b]?=w1.heap[b]?:=fun b hb hF=>hap.block b hb (fun e=>by
   subst e
   rcases hF.1 with h3 | h3
   ·exact (h.d1 b h3).2.2.2.1 rfl
   ·omega) (fun e=>by
   rcases hF.1 with h3 | h3
   ·exact (h.d1 b h3).2.2.2.2 e.symm
   ·have:=(h.re.wait.lt b e.symm).2
    omega)
 refine⟨SdG (fun b=>newF F1 w.heap.size (.slice none 0 0) [] b∧b < w1.heap.size) F2 cb sb rb vw',⟨_,F2,sb,eb,rb,pb,P,W,_,vs,vq',vr,vp,vw',vd,vo,Q',_,A,old,K,_,⟨?_,?_,?_,hRE,hp',?_,h.same,q1,?_,?_,h.d2,h.px.fed h.pw.n0 kind time⟩,fun b=>Iff.rfl,by omega,by omega⟩,?_,?_⟩
 ·exact ((hap.block cb (by omega) (fun e=>z1 e.symm) (fun e=>z3 e.symm)).trans (fr1 cb lcb (fun h3=>(h.d1 cb h3).2.1 rfl))).trans h.blk
 ·exact ((hap.block sb (by omega) (fun e=>z2 e.symm) (fun e=>z4 e.symm)).trans (fr1 sb lsb (fun h3=>(h.d1 sb h3).2.2.1 rfl))).trans h.sblk
 ·rw[f2] at hPE
  exact (hPE.mono (F':=fun b=>newF F1 w.heap.size (.slice none 0 0) [] b∧b < w1.heap.size) (fun b hb hF=>⟨hF,hb⟩)).frame hs2 fr2
 ·exact hq'.trans f3
 ·exact fun b hF=>Nat.lt_of_lt_of_le hF.2 hs2
 ·intro b hF
  rcases hF.1 with h3 | ⟨h3,-,-⟩
  ·obtain⟨k1,k2,k3,k4,k5⟩:=h.d1 b h3
   refine⟨k1,k2,k3,k4,fun e=>?_⟩
   rcases hvw b e with h4 | h4
   ·exact k5 h4
   ·omega
  ·refine⟨fun h4=>?_,by omega,by omega,by omega,fun e=>?_⟩
   ·have:=h.re.lt b h4
    omega
   ·rcases hvw b e with h4 | h4
    ·have:=(h.re.wait.lt b h4).2
     omega
    ·omega
 ·rintro b (h3 | h3 | h3 | h3 | h3 | h3)
  ·rcases h3.1 with h4 | h4
   ·exact Or.inl (Or.inl h4)
   ·exact Or.inr h4.1
  ·exact Or.inl (Or.inr (Or.inl h3))
  ·exact Or.inl (Or.inr (Or.inr (Or.inl h3)))
  ·exact Or.inl (Or.inr (Or.inr (Or.inr (Or.inl h3))))
  ·exact Or.inl (Or.inr (Or.inr (Or.inr (Or.inr (Or.inl h3)))))
  ·rcases hvw b h3 with h4 | h4
   ·exact Or.inl (Or.inr (Or.inr (Or.inr (Or.inr (Or.inr h4)))))
   ·exact Or.inr (by omega)
 ·refine⟨hap.os.trans os1,hap.tape.trans ta1,hap.output.trans ou1,Nat.le_trans hs1 hs2,fun k hk hn=>(hap.block k (by omega) (fun e=>hn (Or.inr (Or.inr (Or.inr (Or.inr (Or.inl e)))))) (fun e=>hn (Or.inr (Or.inr (Or.inr (Or.inr (Or.inr e.symm))))))).trans (fr1 k hk (fun e=>hn (Or.inl e)))⟩
theorem SdIn.adv {t:Int}{ψ:Int→Int}{vm:Value}{e:Ending}{n:Nat}(h:SdIn F1 F2 w cb sb eb rb pb P W Next vs vq vr vp vw vd vo Q R A old K T)(hW:W≤t)(ht:t≤9223372036854775807)(hN:Next≤n)(hK:K≤12 * n)(hK2:K≤90000)(hψ:En.Agr ψ T Next)
  (h1:AvBody F1 eb P Next t vs ψ K Q (A.map Prod.fst) w vm w1) (h2:RaOk F2 rb pb P Next t vp vw R old w1 e w2):∃(vout:Value) (L M:List MV),e=.returned (.tuple #[vout,.int .i64 0])∧MOwn w.heap.size w2 vm L∧MRd w2 vout M∧L.map Prod.fst=M.map Prod.fst∧L.length≤2000000000∧(∀y∈L,y.1.1.length≤1000000) ∧
   ∀w3,Spoilt L vm w2 w3→∃G',SdAt G' w3 cb (n+1)∧(∀b,G' b→SdG F1 F2 cb sb rb vw b∨w.heap.size≤b)∧Moved (SdG F1 F2 cb sb rb vw) w w3:=by
 obtain⟨vq',vr',L,Q',A',B',D,ha,hA',hQ',hpl,hPE,hmo,gr1⟩:=h1
 obtain⟨vout,vrest,vo',M,R',D',old',hb,he,hold,hRE,hout,hints,gr2,hvr⟩:=h2
 have hsq:En.sortEv Q=En.sortEv R:=En.sortEv_congr h.perm (h.pw.apt.perm h.perm)
 rw[hsq,h.same] at ha
 rw[hsq] at hQ'
 rcases h.pw.adv t hW ht with ⟨h3,-⟩ | ⟨m,Bp,h3,h4,h5,h6⟩
 ·rw[hb] at h3;cases h3
 rw[h3] at hb
 rw[h4] at ha
 simp only[Option.some.injEq,Prod.mk.injEq] at hb ha
 obtain⟨hm,hR',hD'⟩:=hb
 obtain⟨hm',hB'⟩:=ha
 have hpw:=h6 (by rw[hB'];simpa using hpl.alen) (fun r hr=>by
  rw[hB'] at hr
  obtain⟨x,hx,rfl⟩:=List.mem_map.1 hr
  have h7:=hpl.ofl x hx
  have h8:=hpl.qlen
  have h9:=h.pw.q12
  have h10:=h.perm.length_eq
  omega)
 have hAm:A'.map Prod.fst=Bp.filter (lastsP P.win t):=by
  rw[hA',hB',List.filter_map]
  rfl
 have hOm:old'.map Prod.fst=Bp.filter (lastsP P.win t):=by rw[hold,← hD',h5]
 obtain⟨z1,z2,z3,z4⟩:=h.ne
 obtain⟨y1,y2,y3,y4,y5⟩:=h.apart
 have hs1:=gr1.size
 have hs2:=gr2.size
 have lcb:=lt_of_block h.blk
 have lsb:=lt_of_block h.sblk
 have lrb:=lt_of_block h.re.blk
 have leb:=lt_of_block h.pe.blk
 have hmb:∀b,vm.ownBlock=some b→w.heap.size≤b∧b < w1.heap.size:=fun b hb=>hmo.row.lt b hb
 have hLb:∀y∈L,∀b,y.2.ownBlock=some b→w.heap.size≤b∧b < w1.heap.size:=fun y hy b hb=>(hmo.offs y hy).1.lt b hb
 have fr1:∀b,b < w.heap.size→b≠eb→w1.heap[b]?=w.heap[b]?:=fun b hb hn=>gr1.block b hb (fun e=>hn (Option.some.inj e))
 have fr2:∀b,b < w1.heap.size→b≠rb→w2.heap[b]?=w1.heap[b]?:=fun b hb hn=>gr2.block b hb (fun e=>hn (Option.some.inj e))
 have hmo2:MOwn w.heap.size w2 vm L:=⟨own_frame hmo.row (fun g hg=>fr2 g (hmb g hg).2 (by have:=(hmb g hg).1;omega)),fun y hy=>⟨own_frame (hmo.offs y hy).1 (fun g hg=>fr2 g (hLb y hy g hg).2 (by have:=(hLb y hy g hg).1;omega)),(hmo.offs y hy).2⟩,hmo.dist⟩
 have hrd:MRd w2 vout M:=⟨(RowAt.ofOwn hout).mono (fun _ _ _=>trivial),hints⟩
 refine⟨vout,L,M,he,hmo2,hrd,by rw[← hm,← hm'],?_,fun y hy=>?_,fun w3 hsp=>?_⟩
 ·have h7:=hpl.llen
  have h8:=hpl.qlen
  have h9:=h.pw.q12
  have h10:=h.perm.length_eq
  omega
 ·have hl:=En.advInc_len (P:=P) ψ _ K _ _ _ (h.pw.det ψ hψ) (fun e he=>?_) h.pw.ofl h4 y.1 (by rw[hm'];exact List.mem_map_of_mem hy)
  ·have h7:=List.length_filter_le (fun e=>decide (e.time≤t)) (En.sortEv R)
   rw[(En.sortEv_perm R).length_eq] at h7
   have h9:=h.pw.q12
   omega
  ·obtain⟨-,-,h8,h9⟩:=h.pw.evs e ((En.sortEv_perm R).mem_iff.1 (List.mem_filter.1 he).1)
   rw[h9,hψ _ h8]
 ·have hin:SdIn (fun b=>newF F1 w.heap.size vm L b∧b < w1.heap.size) (fun b=>GG (plusB F2 vw) w1.heap.size vrest vout b∧b < w2.heap.size) w2 cb sb eb rb pb P t Next vs vq' vr' vp vrest (.slice none 0 0) vo' Q' R' A' old' (K+12) T:=by
   refine⟨?_,?_,?_,hRE,?_,?_,by rw[hAm,hOm],?_,?_,?_,?_,by rw[hOm,← hR'];exact h.px.adv h.pw h4 ht⟩
   ·exact ((fr2 cb (by omega) (fun e=>z1 e.symm)).trans (fr1 cb lcb y2)).trans h.blk
   ·exact ((fr2 sb (by omega) (fun e=>z2 e.symm)).trans (fr1 sb lsb y3)).trans h.sblk
   ·refine (hPE.mono (F':=fun b=>newF F1 w.heap.size vm L b∧b < w1.heap.size) (fun b hb hF=>⟨hF,hb⟩)).frame hs2 (fun b hb hF=>fr2 b hb (fun e=>?_))
    subst e
    rcases hF.1 with h7 | h7
    ·exact (h.d1 b h7).2.2.2.1 rfl
    ·omega
   ·exact hpl.hp
   ·have h7:=(En.sortEv_perm Q').symm
    rw[hQ',hR'] at h7
    exact h7
   ·rw[hOm,← hR']
    exact hpw
   ·exact fun b hF=>Nat.lt_of_lt_of_le hF.2 hs2
   ·intro b hF
    have hb2:b < w1.heap.size:=hF.2
    rcases hF.1 with h7 | ⟨h7,-,-⟩
    ·obtain⟨k1,k2,k3,k4,k5⟩:=h.d1 b h7
     have hlt:=h.lt1 b h7
     refine⟨fun h8=>?_,k2,k3,k4,fun e=>by have:=hvr b e;omega⟩
     rcases h8.1 with (h9 | h9) | ⟨h9,-⟩
     ·exact k1 h9
     ·exact k5 h9
     ·omega
    ·refine⟨fun h8=>?_,by omega,by omega,by omega,fun e=>by have:=hvr b e;omega⟩
     rcases h8.1 with (h9 | h9) | ⟨h9,-⟩
     ·have:=h.re.lt b h9
      omega
     ·have:=(h.re.wait.lt b h9).2
      omega
     ·omega
   ·refine⟨fun h8=>?_,fun h8=>?_⟩
    ·rcases h8.1 with (h9 | h9) | ⟨h9,-⟩
     ·exact h.d2.1 h9
     ·exact z3 h9
     ·omega
    ·rcases h8.1 with (h9 | h9) | ⟨h9,-⟩
     ·exact h.d2.2 h9
     ·exact z4 h9
     ·omega
  have hfr:∀b,SdG (fun b=>newF F1 w.heap.size vm L b∧b < w1.heap.size) (fun b=>GG (plusB F2 vw) w1.heap.size vrest vout b∧b < w2.heap.size) cb sb rb vrest b→w3.heap[b]?=w2.heap[b]?:=by
   intro b hb
   have hlt:=hin.glt b hb
   have key:(b < w.heap.size∨w1.heap.size≤b)→w3.heap[b]?=w2.heap[b]?:=fun hh=>hsp.block b hlt (fun e=>by have:=hmb b e;omega) (fun y hy e=>by have:=hLb y hy b e;omega)
   rcases hb with h7 | h7 | h7 | h7 | h7 | h7
   ·rcases h7.1 with h8 | ⟨h8,h9,h10⟩
    ·exact key (Or.inl (h.lt1 b h8))
    ·exact hsp.block b hlt h9 h10
   ·rcases h7.1 with (h9 | h9) | ⟨h9,-⟩
    ·exact key (Or.inl (h.re.lt b h9))
    ·exact key (Or.inl (h.re.wait.lt b h9).2)
    ·exact key (Or.inr h9)
   ·exact key (Or.inl (by omega))
   ·exact key (Or.inl (by omega))
   ·exact key (Or.inl (by omega))
   ·exact key (Or.inr (hvr b h7))
  refine⟨_,⟨_,_,sb,eb,rb,pb,P,t,Next,vs,vq',vr',vp,vrest,.slice none 0 0,vo',Q',R',A',old',K+12,T,hin.frame hsp.size hfr,fun b=>Iff.rfl,by omega,by omega⟩,?_,?_⟩
  ·rintro b (h7 | h7 | h7 | h7 | h7 | h7)
   ·rcases h7.1 with h8 | ⟨h8,-⟩
    ·exact Or.inl (Or.inl h8)
    ·exact Or.inr h8
   ·rcases h7.1 with (h9 | h9) | ⟨h9,-⟩
    ·exact Or.inl (Or.inr (Or.inl h9))
    ·exact Or.inl (Or.inr (Or.inr (Or.inr (Or.inr (Or.inr h9)))))
    ·exact Or.inr (by omega)
   ·exact Or.inl (Or.inr (Or.inr (Or.inl h7)))
   ·exact Or.inl (Or.inr (Or.inr (Or.inr (Or.inl h7))))
   ·exact Or.inl (Or.inr (Or.inr (Or.inr (Or.inr (Or.inl h7)))))
   ·exact Or.inr (by have:=hvr b h7;omega)
  ·refine⟨(hsp.os.trans gr2.os).trans gr1.os,(hsp.tape.trans gr2.tape).trans gr1.tape,(hsp.output.trans gr2.output).trans gr1.output,Nat.le_trans hs1 (Nat.le_trans hs2 hsp.size),fun k hk hn=>?_⟩
   refine (hsp.block k (by omega) (fun e=>by have:=hmb k e;omega) (fun y hy e=>by have:=hLb y hy k e;omega)).trans ((fr2 k (by omega) (fun e=>hn (Or.inr (Or.inr (Or.inr (Or.inr (Or.inl e))))))).trans (fr1 k hk (fun e=>hn (Or.inl (by rw[e];exact h.pe.self)))))
end
end Go.Proofs.YtfldcmdhneegmaaGreatDoor

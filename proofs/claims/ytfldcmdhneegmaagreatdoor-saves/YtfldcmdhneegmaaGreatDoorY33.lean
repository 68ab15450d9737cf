import Derived.Test.YtfldcmdhneegmaaGreatDoorY32
set_option maxHeartbeats 4000000
set_option maxRecDepth 1000000
namespace Go.Proofs.YtfldcmdhneegmaaGreatDoor
open Go.RowKit Go.Lib
theorem RaMem.start {F F0:Nat→Prop}{w wx:World}{eb pb:Nat}{P:En.Pat}{W Next:Int}{vs vw vd vo vl:Value}{Q D l:List En.Ev}{old:List RV}(hE:REng F0 w eb pb P W Next vs vw vd vo Q D old)(hsub:∀b,F0 b→F b)(hb:Below w.heap.size w wx)(hl:EvsAt (GG F w.heap.size (.slice none 0 0) (.slice none 0 0)) wx vl l) :
  RaMem F w wx eb pb P W Next vs vw vd vo vl (.slice none 0 0) (.slice none 0 0) Q D l [] old []:=
 ⟨(hb.block _ (lt_of_block hE.blk)).trans hE.blk,RowAt.mono (RowAt.below hE.done hb) (fun b _ h=>Or.inl (hsub b h)),hl,World.ownsRow_nil _ _ _ _,World.ownsRow_nil _ _ _ _,fun _ h=>(by cases h),hb.os,hb.tape,hb.output,hb.size,fun b h1 _=>hb.block b h1⟩
theorem row_in {F:Nat→Prop}{w:World}{b o n cap k m:Nat}{xs:List Value}(h:RowAt F w (.slice (some ⟨b,o,none⟩) n cap) k m xs):F b:=by
 rcases h.2 with ⟨he,-⟩ | ⟨b',o',cap',he,hF,-⟩
 ·cases he
 ·cases he
  exact hF
theorem gg_not {F:Nat→Prop}{w:World}{v1 v2:Value}{b:Nat}(h:GG F w.heap.size v1 v2 b)(hF:∀b,F b→b < w.heap.size)(h2:∀b,v2.ownBlock=some b→w.heap.size≤b):some b≠v2.ownBlock:=fun e=>by
 rcases h with h | ⟨-,-,h⟩
 ·have:=hF b h
  have:=h2 b e.symm
  omega
 ·exact h e.symm
theorem gg_nil (F:Nat→Prop)(N:Nat):∀b,N≤b→GG F N (.slice none 0 0) (.slice none 0 0) b:=fun b hb=>Or.inr ⟨hb,by simp[Value.ownBlock],by simp[Value.ownBlock]⟩
def plusB (F:Nat→Prop)(v:Value)(b:Nat):Prop:=F b∨v.ownBlock=some b
theorem Reads.eset {F:Nat→Prop}{w w':World}{eb pb:Nat}{P:En.Pat}{vs vd vo x1 x2 x3:Value}{D:List En.Ev}{old:List RV}(h:Reads F w eb pb P vs vd vo D old)(hne:∀b,F b→b≠eb)(hp:pb≠eb)(gr:w.grownBy w' (some eb))(hb:w'.heap[eb]?=some (.cells #[.pointer (some ⟨pb,0,none⟩),x1,x2,x3,vd,vo] 86 (0,0))):Reads F w' eb pb P vs vd vo D old:=by
 have hF:∀b,b < w.heap.size→F b→w'.heap[b]?=w.heap[b]?:=fun b hb hFb=>gr.block b hb (fun e=>by cases e;exact hne _ hFb rfl)
 have hpb:=gr.block pb (World.block_lt_of_cell? w _ h.p0) (fun e=>by cases e;exact hp rfl)
 exact⟨by simp[World.cell?,hb],by simp[World.cell?,hb],by simp[World.cell?,hb],(World.cell?_of_block hpb).trans h.p0,(World.cell?_of_block hpb).trans h.p1,RowAt.frame h.steps gr.size hF,RowAt.frame h.done gr.size hF,h.old.frame gr.size hF⟩
theorem RaOk.of {F:Nat→Prop}{w wr W6 w7 w8:World}{eb pb:Nat}{P:En.Pat}{W Next t:Int}{vs vw vd0 vd vo vl vrest vout v7:Value}{Q D D0 l R:List En.Ev}{old l7:List RV}{L:List MV}(hE:REng F w eb pb P W Next vs vw vd0 vo Q D0 old)(hsub:∀b,F b→plusB F vw b)(hctx:RaCtx (plusB F vw) w eb)(h:RaMem (plusB F vw) w wr eb pb P W Next vs vw vd vo vl vrest vout Q D l R old L)
  (g1:wr.grownBy W6 (some eb)) (b1:Below W6.heap.size W6 w7) (g2:w7.grownBy w8 (some eb)) (hblk:w8.heap[eb]?=some (.cells #[.pointer (some ⟨pb,0,none⟩),.int .i64 t,.int .i64 Next,vrest,.slice none 0 0,v7] 86 (0,0))) (hr7:RunsAt (GG (plusB F vw) w.heap.size vrest vout) w7 v7 l7) :
  REng (fun b=>GG (plusB F vw) w.heap.size vrest vout b∧b < w8.heap.size) w8 eb pb P t Next vs vrest (.slice none 0 0) v7 R [] l7∧w8.ownsRow w.heap.size 109 2 vout L.length (mCells L)∧(∀y∈L,IntsAt (fun _=>True) w8 y.2 y.1.1)∧w.grownBy w8 (some eb)∧∀b,vrest.ownBlock=some b→w.heap.size≤b:=by
 have hGe:∀b,GG (plusB F vw) w.heap.size vrest vout b→b≠eb:=fun b hb e=>by
  have:=hctx.leb
  rcases hb with hb | ⟨hb,-⟩
  ·exact hctx.ne (by rw[← e];exact hb)
  ·omega
 have s1:wr.heap.size≤w8.heap.size:=Nat.le_trans g1.size (Nat.le_trans b1.size g2.size)
 have mid:∀b,b < wr.heap.size→b≠eb→w8.heap[b]?=wr.heap[b]?:=fun b hb hne=>((g2.block b (Nat.lt_of_lt_of_le hb (Nat.le_trans g1.size b1.size)) (fun e=>by cases e;exact hne rfl)).trans (b1.block b (Nat.lt_of_lt_of_le hb g1.size))).trans (g1.block b hb (fun e=>by cases e;exact hne rfl))
 have hgw:wr.grownBy w8 (some eb):=⟨(g2.os.trans b1.os).trans g1.os,(g2.tape.trans b1.tape).trans g1.tape,(g2.output.trans b1.output).trans g1.output,s1,fun b hb hne=>mid b hb (fun e=>hne (by rw[e]))⟩
 have hall:∀b,b < w.heap.size→b≠eb→w8.heap[b]?=w.heap[b]?:=fun b hb hne=>(mid b (Nat.lt_of_lt_of_le hb h.size) hne).trans (h.block b hb hne)
 have hb:=h.ebne hctx
 have lift:∀{v:Value} {k n:Nat} {xs:List Value},RowAt (GG (plusB F vw) w.heap.size vrest vout) w7 v k n xs→RowAt (fun b=>GG (plusB F vw) w.heap.size vrest vout b∧b < w8.heap.size) w8 v k n xs:=fun hr=>
  RowAt.mono (RowAt.frame hr g2.size (fun b hb hG=>g2.block b hb (fun e=>by cases e;exact hGe _ hG rfl))) (fun b hb hG=>⟨hG,hb⟩)
 have lpb:=hE.lt _ hE.fp
 have hpe:pb≠eb:=fun e=>hE.ne (by rw[← e];exact hE.fp)
 refine⟨⟨hblk,fun e=>hGe _ e.1 rfl,(hall pb lpb hpe).trans hE.pat,⟨Or.inl (hsub _ hE.fp),Nat.lt_of_lt_of_le lpb (Nat.le_trans h.size s1)⟩,fun b hb=>hb.2,?_,own_mono (h.rest.kept hgw (Or.inr hb.1)) (Nat.zero_le _),fun g hg hG=>?_,⟨rfl,Or.inl ⟨rfl,rfl⟩⟩,⟨lift hr7.row,fun x hx=>lift (hr7.offs x hx)⟩⟩,h.out.kept hgw (Or.inr hb.2),fun y hy=>?_,⟨hgw.os.trans h.os,hgw.tape.trans h.tape,hgw.output.trans h.output,Nat.le_trans h.size s1,fun b hb hne=>hall b hb (fun e=>hne (by rw[e]))⟩,fun b hb=>(own_block h.rest b hb).1⟩
 ·exact RowAt.mono (RowAt.frame hE.steps (Nat.le_trans h.size s1) (fun b hb hF=>hall b hb (fun e=>hE.ne (by rw[← e];exact hF)))) (fun b hb hF=>⟨Or.inl (hsub b hF),hb⟩)
 ·rcases hG.1 with hG | ⟨-,hG,-⟩
  ·have:=hctx.lt g hG
   have:=(own_block h.rest g hg).1
   omega
  ·exact hG hg
 ·exact RowAt.mono (RowAt.frame (h.ints y hy) s1 (fun b hb hG=>mid b hb (hGe b hG))) (fun _ _ _=>trivial)
theorem REng.back {F G:Nat→Prop}{w wr:World}{eb pb:Nat}{P:En.Pat}{W Next:Int}{vs vw vd vd' vo vl vrest vout:Value}{Q D D0 l R:List En.Ev}{old:List RV}{L:List MV}(hE:REng F w eb pb P W Next vs vw vd vo Q D0 old)(h:RaMem G w wr eb pb P W Next vs vw vd' vo vl vrest vout Q D l R old L) :
  REng F (wr.setCell ⟨eb,4,none⟩ vd) eb pb P W Next vs vw vd vo Q D0 old∧w.grownBy (wr.setCell ⟨eb,4,none⟩ vd) (some eb):=by
 have gr:=grown_set wr eb 4 vd
 have old':∀b,b < w.heap.size→b≠eb→(wr.setCell ⟨eb,4,none⟩ vd).heap[b]?=w.heap[b]?:=fun b hb hne=>(gr.block b (Nat.lt_of_lt_of_le hb h.size) (fun e=>by cases e;exact hne rfl)).trans (h.block b hb hne)
 have hgw:w.grownBy (wr.setCell ⟨eb,4,none⟩ vd) (some eb):=⟨gr.os.trans h.os,gr.tape.trans h.tape,gr.output.trans h.output,Nat.le_trans h.size gr.size,fun b hb hne=>old' b hb (fun e=>hne (by rw[e]))⟩
 refine⟨hE.turned hgw.size (fun b hb hF=>old' b hb (fun e=>hE.ne (by rw[← e];exact hF))) (by simpa using blkR_set h.eng vd 4) (hE.wait.kept hgw (Or.inr hE.wneb)) hE.wne,hgw⟩
def RaFull (F:Nat→Prop)(eb pb:Nat)(P:En.Pat)(W Next:Int)(vs vw vd vo:Value)(Q:List En.Ev)(old:List RV)(w:World)(e:Ending)(w':World):Prop:=
 e=.returned (.tuple #[.slice none 0 0,.int .i64 4])∧REng F w' eb pb P W Next vs vw vd vo Q [] old∧w.grownBy w' (some eb)
def RaOk (F:Nat→Prop)(eb pb:Nat)(P:En.Pat)(Next t:Int)(vs vw:Value)(Q:List En.Ev)(old:List RV)(w:World)(e:Ending)(w':World):Prop:=
 ∃(vout vrest vo':Value) (L:List MV) (R D:List En.Ev) (old':List RV),En.advLoop P (old.map Prod.fst) t [] [] [] (En.sortEv Q)=some (L.map Prod.fst,R,D)∧e=.returned (.tuple #[vout,.int .i64 0])∧old'.map Prod.fst=En.under P D (old.map Prod.fst) t (P.win - 1) ∧
  REng (fun b=>GG (plusB F vw) w.heap.size vrest vout b∧b < w'.heap.size) w' eb pb P t Next vs vrest (.slice none 0 0) vo' R [] old'∧w'.ownsRow w.heap.size 109 2 vout L.length (mCells L)∧(∀y∈L,IntsAt (fun _=>True) w' y.2 y.1.1)∧w.grownBy w' (some eb)∧∀b,vrest.ownBlock=some b→w.heap.size≤b
theorem rAdvance_any (F:Nat→Prop)(eb pb:Nat)(P:En.Pat)(W Next t:Int)(vs vw vd vo:Value)(Q:List En.Ev)(old:List RV)(w:World)(h:REng F w eb pb P W Next vs vw vd vo Q [] old)(hge:W≤t)(hQ:Q.length≤12)(hB:Bds P [] old)(hP0:0 < P.steps.length) :
  Calls Tryz.prog 18 #[.pointer (some ⟨eb,0,none⟩),.int .i64 t] w fun e w'=>(En.advLoop P (old.map Prod.fst) t [] [] [] (En.sortEv Q)=none∧RaFull F eb pb P W Next vs vw vd vo Q old w e w')∨RaOk F eb pb P Next t vs vw Q old w e w':=by
 have hlt:decide (t < W)=false:=decide_eq_false (by omega)
 have c0:=h.c0
 have c1:=h.c1
 have c3:=h.c3
 have c4:=h.c4
 have hr:=h.reads
 obtain⟨p0,p1⟩:=And.intro hr.p0 hr.p1
 obtain⟨aw,cw,rfl⟩:=own_slice h.wait
 obtain⟨ad,cd,rfl,-,-⟩:=RowAt.slice h.done
 obtain⟨ss,cs,rfl,-,-⟩:=RowAt.slice h.steps
 have leb:=lt_of_block h.blk
 have hs4:P.steps.length≤4:=hB.s4
 have hsub:∀b,F b→plusB F (.slice aw Q.length cw) b:=fun b hb=>Or.inl hb
 have hctx:RaCtx (plusB F (.slice aw Q.length cw)) w eb:=⟨leb,fun e=>e.elim h.ne (fun e=>h.wneb e),fun b e=>e.elim (h.lt b) (fun e=>by
  obtain⟨-,c,fz,h1⟩:=own_block h.wait b e
  exact lt_of_block h1)⟩
 have hw0:EvsAt (GG (plusB F (.slice aw Q.length cw)) w.heap.size (.slice none 0 0) (.slice none 0 0)) w (.slice aw Q.length cw) Q:=by
  have hq:=RowAt.ofOwn h.wait
  rcases hq.2 with ⟨he,h0⟩ | ⟨b,o,cap,he,-,r1,r2,r3,r4⟩
  ·exact⟨hq.1,Or.inl ⟨he,h0⟩⟩
  ·exact⟨hq.1,Or.inr ⟨b,o,cap,he,Or.inl (Or.inr (by rw[he];rfl)),r1,r2,r3,r4⟩⟩
 have hsl:=(En.sortEv_perm Q).length_eq
 obtain⟨G,hG⟩:∃G,plusB F (.slice aw Q.length cw)=G:=⟨_,rfl⟩
 rw[hG] at hsub hctx hw0
 have HE:=hid (And.intro h (And.intro hB (And.intro hsub (And.intro hctx hw0))))
 have HG:=hid hG
 clear h hr hB hsub hctx hw0 hG
 go_enter Tryz.func18,Tryz.ntmps18
 go_wp2_with (go_at_call 47;fail)
 refine (rSorted_any (GG G w.heap.size (.slice none 0 0) (.slice none 0 0)) (.slice aw Q.length cw) Q w (gg_nil _ _) HE.out.2.2.2.2 (by omega)).mono ?_
 rintro e w1 ⟨v1,rfl,he1,hb1⟩
 obtain⟨a1,k1,rfl,-,-⟩:=RowAt.slice he1
 obtain⟨l,hl⟩:∃l,En.sortEv Q=l:=⟨_,rfl⟩
 rw[hl] at he1 hsl ⊢
 have hl12:l.length≤12:=by omega
 have HSL:=hid hsl
 clear hsl
 have hM1:=RaMem.start HE.out.1 HE.out.2.2.1 hb1 he1
 have lpb:pb < w.heap.size:=HE.out.1.lt _ HE.out.1.fp
 have c0':=(cell_bel hb1 ⟨eb,0,none⟩ leb).trans c0
 have p0':=(cell_bel hb1 ⟨pb,0,none⟩ lpb).trans p0
 have H1:=hid (And.intro hM1 hl)
 clear he1 hb1 hM1 hl c1 c3 c4
 go_wp2
 go_loopw [6,7,11] (fun s6 s7 s11 wr=>∃(k:Nat) (vd vrest vout:Value) (D R:List En.Ev) (L:List MV),k≤l.length∧s6=vout∧s7=vrest∧s11=.int .i64 k∧Hid (RaMem G w wr eb pb P W Next (.slice ss P.steps.length cs) (.slice aw Q.length cw) vd vo (.slice a1 l.length k1) vrest vout Q D l R old L∧En.advLoop P (old.map Prod.fst) t D (L.map Prod.fst) R (l.drop k)=En.advLoop P (old.map Prod.fst) t [] [] [] l∧D.length+R.length=k∧L.length≤100000000 * k)) (fun _ _ s11 _=>l.length - (intOf s11).toNat)
 case atStart=>exact⟨0,_,_,_,[],[],[],by omega,rfl,rfl,rfl,H1.out.1,rfl,rfl,by simp⟩
 case round=>
  obtain⟨k,vd2,vrest,vout,D,R,L,hk,rfl,rfl,rfl,hr⟩:=hrel
  obtain⟨ar,cr,rfl⟩:=own_slice hr.out.1.rest
  obtain⟨ao,co,rfl⟩:=own_slice hr.out.1.out
  by_cases hlt2:k < l.length
  ·have hk':(k:Int) < (l.length:Int):=by omega
   obtain⟨b2,o2,hb2,hbz,d0,d1,d2⟩:=EvsAt.get hr.out.1.lst hlt2
   cases hb2
   obtain⟨ev,hev⟩:∃ev,l[k]=ev:=⟨_,rfl⟩
   rw[hev] at d0 d1 d2
   have hdrop:l.drop k=ev::l.drop (k+1):=by rw[List.drop_eq_getElem_cons hlt2,hev]
   have hloop:=hr.out.2.1
   rw[hdrop] at hloop
   by_cases hgt:t < ev.time
   ·have hgt':t < ev.time:=hgt
    obtain⟨i0,hi,hz0,hz1,hz2⟩:=info_parts Tryz.infoEv
    have hRl:R.length≤12:=by have:=hr.out.2.2.1;omega
    have HL:=hid hloop
    clear hloop hdrop hev
    go_wp2_with (at_builtin;refine wpList_append_lies _ rfl _ _ 83 rfl w.heap.size 89 i0 (.agg #[.int .i64 0,.int .i32 0,.int .i64 0]) 3 24 Tryz.underlying83 hi hz0 hz1 hz2 rfl (by decide) _ _ _ rfl (World.ownsRow.alloc hr.out.1.rest _) ⟨wr.heap.size,0,none⟩ 1 1 [.int .i64 ev.off,.int .i32 ev.kind,.int .i64 ev.time] rfl rfl (World.news_of_block (cs:=#[.int .i64 ev.off,.int .i32 ev.kind,.int .i64 ev.time]) (new_at (by simp;done))) (by intro u hu;simp at hu;rcases hu with rfl | rfl | rfl<;>rfl) (by decide) (by unfold maxLen;omega) (by omega) (by have:=hr.out.1.size;simp;omega) _ rfl ?_)
    intro g5 cap5 w5 own5 gr5 hg5 _
    have hN:=(hr.out.1.below ((Below.refl wr.heap.size wr).alloc (Nat.le_refl _) (.cells #[.int .i64 ev.off,.int .i32 ev.kind,.int .i64 ev.time] 89))).restMore HE.out.2.2.2.1 own5 gr5 (hg5.imp id (fun e=>by rw[e];simp))
    have HN:=hid hN
    clear own5 gr5 hg5 hN
    go_wp2
    go_roundw
    case rel=>
     refine⟨k+1,_,_,_,D,R++[ev],L,by omega,rfl,rfl,by go_num,HN.out,?_,?_,?_⟩
     ·rw[← HL.out]
      conv=>rhs;unfold En.advLoop
      rw[if_pos hgt]
     ·have:=hr.out.2.2.1
      simp
      omega
     ·have:=hr.out.2.2.2
      omega
    case measure=>simp[intOf];omega
   ·have hgt':decide (t < ev.time)=false:=decide_eq_false hgt
    obtain⟨ad2,cd2,rfl,-,-⟩:=RowAt.slice hr.out.1.done
    obtain⟨i0,hi,hz0,hz1,hz2⟩:=info_parts Tryz.infoEv
    have hDl:D.length≤11:=by have:=hr.out.2.2.1;omega
    have HL:=hid hloop
    have HEv:=hid hev
    have hRd:=hr.out.1.reads HE.out.1 HE.out.2.2.1
    have q0:=hRd.e0
    have q4:=hRd.e4
    have f4:wr.frozen? ⟨eb,4,none⟩=false:=by simp[World.frozen?,hr.out.1.eng]
    have lebr:eb < wr.heap.size:=lt_of_block hr.out.1.eng
    clear hloop hdrop hev hRd
    go_upto_region 13 with fail
    go_cut [] (fun wx=>∃vd',Hid (RaMem G w wx eb pb P W Next (.slice ss P.steps.length cs) (.slice aw Q.length cw) vd' vo (.slice (some ⟨b2,o2,none⟩) l.length k1) (.slice ar R.length cr) (.slice ao L.length co) Q (D++[ev]) l R old L))
    case first=>
     go_region_law (first | (refine step_append_row rfl (.tmp 60) (.tmp 64) 83 rfl wr.heap.size 89 i0 (.agg #[.int .i64 0,.int .i32 0,.int .i64 0]) 3 24 Tryz.underlying83 hi hz0 hz1 hz2 rfl (by decide) _ 0 [] rfl (own_empty (by first | exact new_at (by simp;done) | exact (Below.heap_alloc _ _ _ (by simp;try omega)).trans (new_at (by simp;done))) (by simp;try omega)) _ (.slice ad2 D.length cd2) D.length (evCells D) rfl (RowAt.below hr.out.1.done (by repeat (first | exact Below.refl _ _ | refine Below.drew ?_ | refine Below.alloc ?_ (by simp;try omega) _))) (oneCell_evs _) (by unfold maxLen;omega) (by omega) (by simp;try omega) ?_;intro v1 w2 ow1 gr0;have gr1:World.grownBy _ w2 (some _):=gr0;clear gr0;simp only at gr1;have b2':Below wr.heap.size wr w2:=Below.grown (by repeat (first | exact Below.refl _ _ | refine Below.drew ?_ | refine Below.alloc ?_ (by simp;try omega) _)) gr1 (by simp;try omega) (fun k hk=>by cases hk;simp;try omega);have e0':w2.cell? ⟨b2,o2+k * 3,none⟩=some (.int .i64 ev.off):=(cell_bel b2' _ hbz).trans d0;have e1':w2.cell? ⟨b2,o2+k * 3+1,none⟩=some (.int .i32 ev.kind):=(cell_bel b2' _ hbz).trans d1;have e2':w2.cell? ⟨b2,o2+k * 3+2,none⟩=some (.int .i64 ev.time):=(cell_bel b2' _ hbz).trans d2;have q4':w2.cell? ⟨eb,4,none⟩=some (.slice ad2 D.length cd2):=(cell_bel b2' _ lebr).trans q4;have f4':w2.frozen? ⟨eb,4,none⟩=false:=(World.frozen?_of_block (b2'.block eb lebr)).trans f4;have O1:=hid (And.intro ow1 (And.intro gr1 b2'));clear ow1 gr1 b2') | (refine step_append_row rfl (.tmp 65) (.tmp 70) 83 rfl wr.heap.size 89 i0 (.agg #[.int .i64 0,.int .i32 0,.int .i64 0]) 3 24 Tryz.underlying83 hi hz0 hz1 hz2 rfl (by decide) v1 (0+D.length) ([]++evCells D) rfl (by first | exact O1.out.1 | exact O1.out.1.alloc _) (fun _=>True) _ 1 [.int .i64 ev.off,.int .i32 ev.kind,.int .i64 ev.time] rfl (by first | exact three_row (new_at (by simp;done)) | exact three_row ((O1.out.2.1.block _ (by simp;try omega) (by simp;try omega)).trans (by first | exact new_at (by simp;done) | exact (Below.heap_alloc _ _ _ (by simp;try omega)).trans (new_at (by simp;done))))) (by intro u hu;simp at hu;rcases hu with rfl | rfl | rfl<;>rfl) (by unfold maxLen;omega) (by omega) (by have:=O1.out.2.2.size;simp;try omega) ?_;intro v2 w3 ow2 gr2;simp only[Nat.zero_add,List.nil_append] at ow2;have b3':Below wr.heap.size wr w3:=(by first | exact Below.grown O1.out.2.2 gr2 O1.out.2.2.size (fun k hk=>(own_block O1.out.1 k hk).1) | exact Below.grown (O1.out.2.2.alloc O1.out.2.2.size _) gr2 (Nat.le_trans O1.out.2.2.size (by simp;try omega)) (fun k hk=>(own_block O1.out.1 k hk).1));have q4'':w3.cell? ⟨eb,4,none⟩=some (.slice ad2 D.length cd2):=(cell_bel b3' _ lebr).trans q4;have f4'':w3.frozen? ⟨eb,4,none⟩=false:=(World.frozen?_of_block (b3'.block eb lebr)).trans f4;obtain⟨x2,y2,rfl⟩:=own_slice ow2;have O2:=hid (And.intro ow2 b3');clear ow2 gr2 b3'))
     all_goals (go_wp2;go_meet;case rel=>exact⟨_,(hr.out.1.below O2.out.2).doneSet HE.out.2.2.2.1 (D':=D++[ev]) (by have hn:=O2.out.1;unfold EvsAt;rw[List.length_append];exact RowAt.mono (by simpa [evCells] using RowAt.ofOwn hn) (fun b _ hb=>hr.out.1.newG b hb))⟩)
    case rest=>
     obtain⟨vd3,hc⟩:=hcut
     obtain⟨ad3,cd3,rfl,-,-⟩:=RowAt.slice hc.out.done
     have hRd:=hc.out.reads HE.out.1 HE.out.2.2.1
     have q0':=hRd.e0
     have q4':=hRd.e4
     have hDl1:(D++[ev]).length=D.length+1:=by simp
     have hBd:Bds P (D++[ev]) old:=⟨HE.out.2.1.w0,HE.out.2.1.w1,HE.out.2.1.s4,by omega,HE.out.2.1.o24,HE.out.2.1.offs⟩
     have HRd:=hid (And.intro hRd hBd)
     clear hRd hBd d0 d1 d2 q0 q4 f4 lebr
     rw[hDl1] at q4'
     go_wp2_with (go_at_call 48;fail)
     have hlast:(P.steps.length:Int) - 1=((P.steps.length - 1:Nat):Int):=by omega
     rw[hlast]
     refine (rEnds_any (GG G w.heap.size (.slice ar R.length cr) (.slice ao L.length co)) eb pb P _ _ vo (D++[ev]) old HRd.out.2 (D.length+1) (P.steps.length - 1) D.length wc (by omega) (by omega) (by omega) hc.out.newG HRd.out.1).mono ?_
     rintro e w3 ⟨v3,l3,rfl,hr3,hm3,hb3⟩
     obtain⟨a3,k3,rfl,-,-⟩:=hr3.slice
     obtain⟨m,hm⟩:∃m,En.endsF P (D++[ev]) (old.map Prod.fst) (D.length+1) (P.steps.length - 1) D.length=m:=⟨_,rfl⟩
     rw[hm] at hm3
     have hml:l3.length=m.length:=by rw[← hm3,List.length_map]
     have hmb:m.length≤30000000:=by
      rw[← hm]
      have h1:=En.endsF_le P (D++[ev]) (old.map Prod.fst) (D.length+1) (P.steps.length - 1) D.length
      have h2:=HE.out.2.1.o24
      have h3:(1+2 * (old.map Prod.fst).length)≤49:=by rw[List.length_map];omega
      have h4:3 ^ D.length≤3 ^ 11:=Nat.pow_le_pow_right (by omega) hDl
      have h5:=Nat.mul_le_mul h3 h4
      have h6:(49 * 3 ^ 11:Nat)=8680203:=by decide
      omega
     have hM3:=hc.out.below hb3
     have hb3l:l3.length≤30000000:=by omega
     have H3:=hid (And.intro hM3 (And.intro hr3 (And.intro hm3 (And.intro hm hml))))
     rw[← hlast]
     clear hr3 hm3 hb3 hM3 hm q0' q4' HRd hml hlast hmb
     go_wp2
     go_loopw [6,13] (fun s6 s13 wq=>∃(j:Nat) (vout:Value) (L':List MV),j≤l3.length∧s6=vout∧s13=.int .i64 j∧Hid (RaMem G w wq eb pb P W Next (.slice ss P.steps.length cs) (.slice aw Q.length cw) (.slice ad3 (D++[ev]).length cd3) vo (.slice (some ⟨b2,o2,none⟩) l.length k1) (.slice ar R.length cr) vout Q (D++[ev]) l R old L'∧RunsAt (GG G w.heap.size (.slice ar R.length cr) vout) wq (.slice a3 l3.length k3) l3∧L'.map Prod.fst=L.map Prod.fst++(l3.take j).map (fun x=>(x.1.offs,ev.time)))) (fun _ s13 _=>l3.length - (intOf s13).toNat)
     case atStart=>exact⟨0,_,L,by omega,rfl,rfl,H3.out.1,H3.out.2.1,by simp⟩
     case round=>
      obtain⟨j,vout4,L4,hj,rfl,rfl,hq⟩:=hrel
      obtain⟨ao4,co4,rfl⟩:=own_slice hq.out.1.out
      have hLl4:L4.length≤1300000000:=by
       have h1:=congrArg List.length hq.out.2.2
       rw[List.length_map,List.length_append,List.length_map,List.length_map,List.length_take] at h1
       have h2:=hr.out.2.2.2
       omega
      by_cases hjl:j < l3.length
      ·have hj':(j:Int) < (l3.length:Int):=by omega
       obtain⟨b3,o3,rfl,lb3,g0,g1,-⟩:=hq.out.2.1.get hjl
       have hO:=hq.out.2.1.offs _ (List.getElem_mem hjl)
       obtain⟨x,hx⟩:∃x,l3[j]=x:=⟨_,rfl⟩
       rw[hx] at g0 g1 hO
       obtain⟨ax,cx,hvx,-,-⟩:=RowAt.slice hO
       rw[hvx] at g1 hO
       obtain⟨b2',o2',hb2',lb2,-,-,g2⟩:=EvsAt.get hq.out.1.lst hlt2
       cases hb2'
       rw[HEv.out] at g2
       have HO:=hid (And.intro hO (And.intro hx hvx))
       obtain⟨i1,hi1,hy0,hy1,hy2⟩:=info_parts Tryz.infoMatch
       clear hO hx hvx g0
       go_wp2
       have hv4:∀b,(Value.slice ao4 L4.length co4).ownBlock=some b→w.heap.size≤b:=fun b e=>(own_block hq.out.1.out b e).1
       have n3:=gg_not (row_in hq.out.2.1.row) HE.out.2.2.2.1.lt hv4
       have n2:=gg_not (row_in hq.out.1.lst) HE.out.2.2.2.1.lt hv4
       have HNN:=hid (And.intro n3 n2)
       clear n3 n2 hv4
       go_region_held3 (fun W=>W.cell? ⟨b3,o3+j * 3+1,none⟩=some (.slice ax x.1.offs.length cx)∧W.cell? ⟨b2,o2+k * 3+2,none⟩=some (.int .i64 ev.time)) (go_keep) ((refine step_append_lies _ rfl (.tmp 89) (.tmp 101) 35 rfl w.heap.size 109 i1 (.agg #[.slice none 0 0,.int .i64 0]) 2 32 Tryz.underlying35 hi1 hy0 hy1 hy2 rfl (by decide) (.slice ao4 L4.length co4) L4.length (mCells L4) rfl (own_below hq.out.1.out (by repeat (first | exact Below.refl _ _ | refine Below.drew ?_ | refine Below.alloc ?_ (by simp;try omega) _))) ⟨wr.heap.size,0,none⟩ 1 1 [.slice ax x.1.offs.length cx,.int .i64 ev.time] rfl rfl (World.news_of_block (cs:=#[.slice ax x.1.offs.length cx,.int .i64 ev.time]) (new_at (by simp;done))) (by intro u hu;simp at hu;rcases hu with rfl | rfl<;>rfl) (by decide) (by unfold maxLen;omega) (by omega) (by have:=hq.out.1.size;simp;try omega) _ rfl ?_;intro g5 cap5 w5 own5 gr5 hg5 _;have BX:Below wr.heap.size wr ((wr.alloc (.cells #[.slice ax x.1.offs.length cx,.int .i64 ev.time] 109)).drew):=(by repeat (first | exact Below.refl _ _ | refine Below.drew ?_ | refine Below.alloc ?_ (by simp;try omega) _));have t1:=(World.grownBy.cell_far gr5 ⟨b3,o3+j * 3+1,none⟩ (Nat.lt_of_lt_of_le lb3 BX.size) HNN.out.1).trans ((cell_bel BX ⟨b3,o3+j * 3+1,none⟩ lb3).trans g1);have t2:=(World.grownBy.cell_far gr5 ⟨b2,o2+k * 3+2,none⟩ (Nat.lt_of_lt_of_le lb2 BX.size) HNN.out.2).trans ((cell_bel BX ⟨b2,o2+k * 3+2,none⟩ lb2).trans g2);have hO5:=hid (RaMem.outMore (y:=((x.1.offs,ev.time),.slice ax x.1.offs.length cx)) HE.out.2.2.2.1 (hq.out.1.below BX) (HO.out.1.below BX) own5 gr5 hg5);have hR5:=hid (And.intro gr5 (And.intro hg5 BX));clear own5 gr5 hg5 BX))
       have hv4:∀b,(Value.slice ao4 L4.length co4).ownBlock=some b→w.heap.size≤b:=fun b e=>(own_block hq.out.1.out b e).1
       have h15:∀b,(Value.slice (some ⟨g5,0,none⟩) (L4.length+1) cap5).ownBlock=some b→(Value.slice ao4 L4.length co4).ownBlock=some b∨((wr.alloc (.cells #[.slice ax x.1.offs.length cx,.int .i64 ev.time] 109)).drew).heap.size≤b:=fun b e=>by
        have e':g5=b:=by simpa [Value.ownBlock] using e
        rw[← e']
        exact hR5.out.2.1.imp id (fun h=>by rw[h];exact Nat.le_refl _)
       have hrow5:∀{v:Value} {kk nn:Nat} {xs:List Value},RowAt (GG G w.heap.size (.slice ar R.length cr) (.slice ao4 L4.length co4)) wr v kk nn xs→RowAt (GG G w.heap.size (.slice ar R.length cr) (.slice (some ⟨g5,0,none⟩) (L4.length+1) cap5)) w5 v kk nn xs:=fun hr'=>gg_row (RowAt.below hr' hR5.out.2.2) HE.out.2.2.2.1.lt (Or.inr rfl) hR5.out.1 hv4 (fun b e=>Or.inl e) h15
       have HRun:=hid (show RunsAt _ w5 _ l3 from ⟨hrow5 hq.out.2.1.row,fun y hy=>hrow5 (hq.out.2.1.offs y hy)⟩)
       clear hrow5 h15 hv4
       go_wp2
       go_roundw
       case rel=>
        refine⟨j+1,_,L4++[((x.1.offs,ev.time),.slice ax x.1.offs.length cx)],by omega,rfl,by go_num,hO5.out,HRun.out,?_⟩
        rw[List.map_append,hq.out.2.2,List.take_succ_eq_append_getElem hjl,HO.out.2.1,List.map_append,List.append_assoc]
        rfl
       case measure=>simp[intOf];omega
      ·have hj':decide ((j:Int) < (l3.length:Int))=false:=decide_eq_false (by omega)
       have hjf:l3.take j=l3:=List.take_of_length_le (by omega)
       have hRd:=hq.out.1.reads HE.out.1 HE.out.2.2.1
       have hBd:Bds P (D++[ev]) old:=⟨HE.out.2.1.w0,HE.out.2.1.w1,HE.out.2.1.s4,by simp;omega,HE.out.2.1.o24,HE.out.2.1.offs⟩
       have q0:=hRd.e0
       have q1:=hRd.p1
       obtain⟨b2',o2',hb2',lb2,-,-,g2⟩:=EvsAt.get hq.out.1.lst hlt2
       cases hb2'
       rw[HEv.out] at g2
       have lebr:eb < wr.heap.size:=lt_of_block hq.out.1.eng
       have lpbr:pb < wr.heap.size:=World.block_lt_of_cell? wr _ hRd.p1
       have hw1:=HE.out.2.1.w1
       have hw0:=HE.out.2.1.w0
       have HC:=hid (fun W' (hW:Below wr.heap.size wr W')=>rUnder_any (GG G w.heap.size (.slice ar R.length cr) (.slice ao4 L4.length co4)) eb pb P _ _ vo (D++[ev]) old hBd ev.time P.win (by omega) hw1 W' (fun b hb=>hq.out.1.newG b (Nat.le_trans hW.size hb)) (hRd.below hW))
       obtain⟨un,hun⟩:∃un,En.under P (D++[ev]) (old.map Prod.fst) ev.time P.win=un:=⟨_,rfl⟩
       rw[hun] at HC
       have HU:=hid (And.intro hun hjf)
       clear hRd hBd hun hjf
       go_wp2
       go_region_held3 (fun W=>W.cell? ⟨b2,o2+k * 3+2,none⟩=some (.int .i64 ev.time)∧W.cell? ⟨eb,0,none⟩=some (.pointer (some ⟨pb,0,none⟩))∧W.cell? ⟨pb,1,none⟩=some (.int .i64 P.win)) (go_keep) ((go_at_call 49;refine (HC.out _ (by first | exact bel_drewN (Below.refl _ _) _ | exact Below.drew (Below.refl _ _) | exact Below.refl _ _)).mono ?_;rintro e w6 ⟨v6,l6,rfl,hr6,hm6,hb6⟩;obtain⟨a6,c6,rfl,-,-⟩:=hr6.slice;have z0:=(cell_bel hb6 ⟨b2,o2+k * 3+2,none⟩ lb2).trans g2;have z1:=(cell_bel hb6 ⟨eb,0,none⟩ lebr).trans q0;have z2:=(cell_bel hb6 ⟨pb,1,none⟩ lpbr).trans q1;have H6:=hid (And.intro hm6 hb6);clear hb6 hm6 hr6))
       have HB6:Hid (Below wr.heap.size wr w6):=hid (by first | exact H6.out.2 | exact (bel_drewN (Below.refl _ _) _).trans H6.out.2 | exact (Below.drew (Below.refl _ _)).trans H6.out.2)
       have hl6:l6.length=un.length:=by rw[← H6.out.1,List.length_map]
       have hM6:=hq.out.1.below HB6.out
       by_cases h24:24 < un.length
       ·have h24':(24:Int) < (l6.length:Int):=by omega
        have hback:=HE.out.1.back hM6
        obtain⟨_,_,_,_,y4,_,yf⟩:w6.cell? ⟨eb,0,none⟩=some (.pointer (some ⟨pb,0,none⟩))∧w6.cell? ⟨eb,1,none⟩=some (.int .i64 W)∧w6.cell? ⟨eb,2,none⟩=some (.int .i64 Next)∧w6.cell? ⟨eb,3,none⟩=some (.slice aw Q.length cw)∧w6.cell? ⟨eb,4,none⟩=some (.slice ad3 (D++[ev]).length cd3)∧w6.cell? ⟨eb,5,none⟩=some vo∧w6.frozen? ⟨eb,4,none⟩=false:=by simp[World.cell?,World.frozen?,hM6.eng]
        have HBk:=hid hback
        clear hback hM6 hl6
        go_wp2
        go_ret2
        refine Or.inl ⟨?_,rfl,HBk.out.1,HBk.out.2⟩
        rw[H1.out.2,← HL.out]
        unfold En.advLoop
        rw[if_neg (by omega),HU.out.1,if_pos h24]
       ·have h24':decide ((24:Int) < (l6.length:Int))=false:=decide_eq_false (by omega)
        have HM6:=hid hM6
        clear hM6 hl6
        go_wp2
        go_roundw
        case rel=>
         refine⟨k+1,_,_,_,D++[ev],R,L4,by omega,rfl,rfl,by go_num,HM6.out,?_,?_,?_⟩
         ·rw[← HL.out]
          conv=>rhs;unfold En.advLoop
          rw[if_neg (by omega),HU.out.1,if_neg h24,hq.out.2.2,HU.out.2]
          unfold En.ends
          rw[H3.out.2.2.2.1,← H3.out.2.2.1,List.map_map]
          rfl
         ·have:=hr.out.2.2.1
          simp
          omega
         ·have h1:=congrArg List.length hq.out.2.2
          rw[List.length_map,List.length_append,List.length_map,List.length_map,List.length_take] at h1
          have h2:=hr.out.2.2.2
          omega
        case measure=>simp[intOf];omega
  ·obtain rfl:k=l.length:=by omega
   have hk':decide ((l.length:Int) < (l.length:Int))=false:=decide_eq_false (by omega)
   have hRd:=hr.out.1.reads HE.out.1 HE.out.2.2.1
   obtain⟨y0,y1,y2,y3,y4,y5,yf⟩:wr.cell? ⟨eb,0,none⟩=some (.pointer (some ⟨pb,0,none⟩))∧wr.cell? ⟨eb,1,none⟩=some (.int .i64 W)∧wr.cell? ⟨eb,2,none⟩=some (.int .i64 Next)∧wr.cell? ⟨eb,3,none⟩=some (.slice aw Q.length cw)∧wr.cell? ⟨eb,4,none⟩=some vd2∧wr.cell? ⟨eb,5,none⟩=some vo∧(∀i,wr.frozen? ⟨eb,i,none⟩=false):=by simp[World.cell?,World.frozen?,hr.out.1.eng]
   have f1:=yf 1
   have f3:=yf 3
   obtain⟨W6,hW6⟩:∃W6,(wr.setCell ⟨eb,3,none⟩ (.slice ar R.length cr)).setCell ⟨eb,1,none⟩ (.int .i64 t)=W6:=⟨_,rfl⟩
   have gr6:wr.grownBy W6 (some eb):=by rw[← hW6];exact grown_trans (grown_set wr eb 3 _) (grown_set _ eb 1 _)
   have hb6:W6.heap[eb]?=some (.cells #[.pointer (some ⟨pb,0,none⟩),.int .i64 t,.int .i64 Next,.slice ar R.length cr,vd2,vo] 86 (0,0)):=by
    rw[← hW6]
    have k3:=blkR_set hr.out.1.eng (.slice ar R.length cr) 3
    have k3':(wr.setCell ⟨eb,3,none⟩ (.slice ar R.length cr)).heap[eb]?=some (.cells #[.pointer (some ⟨pb,0,none⟩),.int .i64 W,.int .i64 Next,.slice ar R.length cr,vd2,vo] 86 (0,0)):=by simpa using k3
    simpa using blkR_set k3' (.int .i64 t) 1
   have hpe:pb≠eb:=fun e=>HE.out.1.ne (by rw[← e];exact HE.out.1.fp)
   have hGe:∀b,GG G w.heap.size (.slice ar R.length cr) (.slice ao L.length co) b→b≠eb:=fun b hb e=>by
    have:=HE.out.2.2.2.1.leb
    rcases hb with hb | ⟨hb,-⟩
    ·exact HE.out.2.2.2.1.ne (by rw[← e];exact hb)
    ·omega
   have hR6:=hRd.eset hGe hpe gr6 hb6
   have z0:=hR6.e0
   have z1:=hR6.p1
   have hD12:D.length≤12:=by have:=hr.out.2.2.1;omega
   have hBd:Bds P D old:=⟨HE.out.2.1.w0,HE.out.2.1.w1,HE.out.2.1.s4,hD12,HE.out.2.1.o24,HE.out.2.1.offs⟩
   have hw1:=HE.out.2.1.w1
   have hw0:=HE.out.2.1.w0
   have HC:=hid (rUnder_any (GG G w.heap.size (.slice ar R.length cr) (.slice ao L.length co)) eb pb P _ _ vo D old hBd t (P.win - 1) (by omega) (by omega) W6 (fun b hb=>hr.out.1.newG b (Nat.le_trans gr6.size hb)) hR6)
   have H6:=hid (And.intro gr6 hb6)
   have l6:=lt_of_block hb6
   clear hRd yf gr6 hb6 hGe hR6 hBd y0 y2 y4 y5
   go_wp2_with (go_at_call 49;fail)
   refine HC.out.mono ?_
   rintro e w7 ⟨v7,l7,rfl,hr7,hm7,hb7⟩
   obtain⟨a7,c7,rfl,-,-⟩:=hr7.slice
   have hb7e:=(hb7.block _ l6).trans H6.out.2
   obtain⟨u4,u5,uf⟩:w7.cell? ⟨eb,4,none⟩=some vd2∧w7.cell? ⟨eb,5,none⟩=some vo∧(∀i,w7.frozen? ⟨eb,i,none⟩=false):=by simp[World.cell?,World.frozen?,hb7e]
   have uf4:=uf 4
   have uf5:=uf 5
   obtain⟨W8,hW8⟩:∃W8,(w7.setCell ⟨eb,5,none⟩ (.slice a7 l7.length c7)).setCell ⟨eb,4,none⟩ (.slice none 0 0)=W8:=⟨_,rfl⟩
   have gr8:w7.grownBy W8 (some eb):=by rw[← hW8];exact grown_trans (grown_set w7 eb 5 _) (grown_set _ eb 4 _)
   have hb8:W8.heap[eb]?=some (.cells #[.pointer (some ⟨pb,0,none⟩),.int .i64 t,.int .i64 Next,.slice ar R.length cr,.slice none 0 0,.slice a7 l7.length c7] 86 (0,0)):=by
    rw[← hW8]
    have k5:(w7.setCell ⟨eb,5,none⟩ (.slice a7 l7.length c7)).heap[eb]?=some (.cells #[.pointer (some ⟨pb,0,none⟩),.int .i64 t,.int .i64 Next,.slice ar R.length cr,vd2,.slice a7 l7.length c7] 86 (0,0)):=by simpa using blkR_set hb7e (.slice a7 l7.length c7) 5
    simpa using blkR_set k5 (.slice none 0 0) 4
   have hsub:=HE.out.2.2.1
   have hctx:=HE.out.2.2.2.1
   have hM:=hr.out.1
   rw[← HG.out] at hsub hctx hM hr7
   have hfin:=RaOk.of HE.out.1 hsub hctx hM H6.out.1 hb7 gr8 hb8 hr7
   have hadv:=hr.out.2.1
   rw[List.drop_length] at hadv
   have HF:=hid (And.intro hfin (And.intro hadv hm7))
   clear hsub hctx hM hfin hadv hr7 hm7 hb7 hb7e uf gr8 hb8
   go_wp2
   go_ret2
   exact Or.inr ⟨_,_,_,L,R,D,l7,by rw[H1.out.2,← HF.out.2.1];rfl,rfl,HF.out.2.2,HF.out.1.1,HF.out.1.2.1,HF.out.1.2.2.1,HF.out.1.2.2.2⟩
end Go.Proofs.YtfldcmdhneegmaaGreatDoor

import Derived.Test.YtfldcmdhneegmaaGreatDoorX33
import Derived.Test.YtfldcmdhneegmaaGreatDoorX34
set_option maxHeartbeats 4000000
set_option maxRecDepth 1000000
namespace Go.Proofs.YtfldcmdhneegmaaGreatDoor.Fr
def rdO (nx:Nat)(Q:List En.Ev)(l:List UInt8):Option (Nat × List UInt8):=(rdB nx l).filter fun x=>!(Q.any fun y=>y.off == ((x.1:Nat):Int))
theorem rdO_some {nx:Nat}{Q:List En.Ev}{l r:List UInt8}{n:Nat}(h:rdO nx Q l=some (n,r)):rd l=some (n,r)∧n < nx∧(Q.any fun y=>y.off == (n:Int))=false:=by
 unfold rdO at h
 obtain⟨h1,h2⟩:=Option.filter_eq_some_iff.1 h
 exact⟨(rdB_some h1).1,(rdB_some h1).2,by simpa using h2⟩
def rdOffs (nx:Nat)(Q:List En.Ev):Nat→List Int→List UInt8→Option (List Int × List UInt8)
 | 0,acc,l=>some (acc,l)
 | k+1,acc,l=>
  match rdO nx Q l with
  | none=>none
  | some (o,r)=>rdOffs nx Q k (acc++[(o:Int)]) r
def rdRun (steps:List (Int × Bool))(win:Int)(nx:Nat)(wm:Int)(Q:List En.Ev)(l:List UInt8):Option (En.Rn × List UInt8):=
 match rdB steps.length l with
 | none=>none
 | some (s,r1)=>
  if goesOn steps s=true then
   match rd r1 with
   | none=>none
   | some (n,r2)=>
    match rdOffs nx Q n [] r2 with
    | none=>none
    | some (os,r3)=>
     if fits steps s os.length=true then
      if twice os=false then
       match rdM r3 with
       | none=>none
       | some (t,r4)=>if t≤wm then if En.far wm t < win then some (⟨s,os,t⟩,r4) else none else none
      else none
     else none
  else none
end Go.Proofs.YtfldcmdhneegmaaGreatDoor.Fr
namespace Go.Proofs.YtfldcmdhneegmaaGreatDoor
open Go.RowKit Go.Lib
structure RcP where
 F:Nat→Prop
 S:Nat→Prop
 G:Nat→Prop
 v:Value
 vs:Value
 vq:Value
 vr:Value
 l:List UInt8
 steps:List (Int × Bool)
 Q:List En.Ev
 b:Nat
 eb:Nat
 nx:Nat
 win:Int
 wm:Int
 w:World
structure RcP.Ok (p:RcP):Prop where
 fb:¬ p.F p.b
 sb:¬ p.S p.b
 gb:¬ p.G p.b
 fe:¬ p.F p.eb
 se:¬ p.S p.eb
 ge:¬ p.G p.eb
 ne:p.eb≠p.b
 fl:∀c,p.F c→c < p.w.heap.size
 sl:∀c,p.S c→c < p.w.heap.size
 gl:∀c,p.G c→c < p.w.heap.size
 be:p.b < p.w.heap.size
 ee:p.eb < p.w.heap.size
 ll:p.l.length≤1000000
 nl:p.nx < 9223372036854775808
 sz:p.steps.length≤1000
 ql:p.Q.length≤1000000
 w0:0≤p.win
 w9:p.win≤9999
structure Rc (p:RcP)(W:World)(r:List UInt8)(x y z:Value)(acc:List Int):Prop where
 eng:W.heap[p.eb]?=some (.cells #[p.vs,.int .i64 p.win,.int .i64 p.wm,.int .i64 p.nx,p.vq,p.vr] 159 (0,0))
 rd:RdAt W p.b p.v (p.l.length - r.length)
 le:Fr.Left p.l r
 bytes:BytesAt p.F W p.v p.l
 st:StepsAt p.S W p.vs p.steps
 evs:EvsAt p.G W p.vq p.Q
 out:W.heap[p.w.heap.size+1]?=some (.cells #[x,y,z] 164 (0,0))
 res:W.heap[p.w.heap.size]?=some (.cells #[.int .i64 0,.slice none 0 0,.int .i64 0] 164 (0,0))
 row:W.ownsRow (p.w.heap.size+2) 3 1 y acc.length (intCells acc)
 but:But p.b p.w W
theorem Rc.on {p:RcP}{W W':World}{r r':List UInt8}{x y z:Value}{acc:List Int}(h:Rc p W r x y z acc)(O:p.Ok)(hb:But p.b W W')(hr:RdAt W' p.b p.v (p.l.length - r'.length))(hl:Fr.Left p.l r'):Rc p W' r' x y z acc:=by
 have he:=O.ne
 have hbe:=O.be
 exact⟨(hb.block _ (lt_of_block h.eng) (by simpa using he)).trans h.eng,hr,hl,h.bytes.but hb O.fb,RowAt.but h.st hb O.sb,RowAt.but h.evs hb O.gb,(hb.block _ (lt_of_block h.out) (by simp;omega)).trans h.out,(hb.block _ (lt_of_block h.res) (by simp;omega)).trans h.res,own_keep h.row (hb.keep (D:=fun k=>k=p.b) rfl) (fun k hk e=>by omega),h.but.trans hb⟩
theorem Rc.bel {p:RcP}{W W':World}{r:List UInt8}{x y z:Value}{acc:List Int}(h:Rc p W r x y z acc)(O:p.Ok)(hb:Below W.heap.size W W'):Rc p W' r x y z acc:=
 h.on O (But.ofBelow hb) (h.rd.below hb) h.le
theorem Rc.put {p:RcP}{W W0:World}{r:List UInt8}{x y z x' y' z':Value}{acc acc':List Int}(h:Rc p W r x y z acc)(O:p.Ok)(hk:Keep (fun k=>p.w.heap.size+2≤k) W W0)(i:Nat)(u:Value)(hout:(W0.setCell ⟨p.w.heap.size+1,i,none⟩ u).heap[p.w.heap.size+1]?=some (.cells #[x',y',z'] 164 (0,0)))
  (hrow:W0.ownsRow (p.w.heap.size+2) 3 1 y' acc'.length (intCells acc')):Rc p (W0.setCell ⟨p.w.heap.size+1,i,none⟩ u) r x' y' z' acc':=by
 have hs:=but_set W0 (p.w.heap.size+1) i u
 have hbe:=O.be
 have hee:=O.ee
 have hsz:=h.but.size
 have hg:=lt_of_block h.res
 have kb:∀k,k < p.w.heap.size+1→k < W.heap.size→(W0.setCell ⟨p.w.heap.size+1,i,none⟩ u).heap[k]?=W.heap[k]?:=fun k h1 h2=>(hs.block k (Nat.lt_of_lt_of_le h2 hk.size) (by simp;omega)).trans (hk.block k h2 (by omega))
 refine⟨(kb _ (by omega) (by omega)).trans h.eng,(kb _ (by omega) (by omega)).trans h.rd,h.le,?_,?_,?_,hout,(kb _ (by omega) hg).trans h.res,?_,?_⟩
 ·exact h.bytes.frame (Nat.le_trans hk.size hs.size) (fun k h1 h2=>kb k (by have:=O.fl k h2;omega) h1)
 ·exact RowAt.frame h.st (Nat.le_trans hk.size hs.size) (fun k h1 h2=>kb k (by have:=O.sl k h2;omega) h1)
 ·exact RowAt.frame h.evs (Nat.le_trans hk.size hs.size) (fun k h1 h2=>kb k (by have:=O.gl k h2;omega) h1)
 ·exact own_keep hrow (hs.keep (D:=fun k=>k=p.w.heap.size+1) rfl) (fun k hk e=>by omega)
 ·refine⟨hs.os.trans (hk.os.trans h.but.os),hs.tape.trans (hk.tape.trans h.but.tape),hs.output.trans (hk.output.trans h.but.output),Nat.le_trans h.but.size (Nat.le_trans hk.size hs.size),fun k h1 h2=>?_⟩
  exact (kb k (by omega) (by omega)).trans (h.but.block k h1 h2)
theorem fNumber_left (F:Nat→Prop)(v:Value)(l r:List UInt8)(b:Nat)(w:World)(hr:RdAt w b v (l.length - r.length))(hv:BytesAt F w v l)(hF:¬ F b)(hle:Fr.Left l r)(hl:l.length≤1000000) :
  Calls Tryz.prog 185 #[.pointer (some ⟨b,0,none⟩)] w (REnd (Fr.rd r) (fun n=>.int .u64 n) l.length v b w):=by
 have:=fNumber_any F v l b (l.length - r.length) w hr hv hF (by omega) hl
 refine this.mono fun e w' h=>?_
 obtain⟨h1,h2⟩:=h
 rw[hle.1] at h2
 refine⟨h1,?_⟩
 cases hx:Fr.rd r with
 | none=>rw[hx] at h2;exact h2
 | some q=>rw[hx] at h2;exact h2
theorem Rc.push {p:RcP}{W W':World}{r:List UInt8}{x y z y':Value}{acc:List Int}{o:Int}{ob:Obj}(h:Rc p W r x y z acc)(O:p.Ok)(gr:(W.alloc ob).grownBy W' y.ownBlock)(ow:W'.ownsRow (p.w.heap.size+2) 3 1 y' (acc.length+1) (intCells acc++[.int .i64 o])) :
  W'.cell? ⟨p.w.heap.size+1,1,none⟩=some y∧W'.frozen? ⟨p.w.heap.size+1,1,none⟩=false∧Rc p (W'.setCell ⟨p.w.heap.size+1,1,none⟩ y') r x y' z (acc++[o]):=by
 have hk:Keep (fun k=>p.w.heap.size+2≤k) W W':=by
  refine⟨gr.os,gr.tape,gr.output,?_,fun k hk hn=>?_⟩
  ·have:=gr.size
   have h2:(W.alloc ob).heap.size=W.heap.size+1:=by simp
   omega
  ·refine (gr.block k (by simp;omega) (fun e=>?_)).trans (Below.heap_alloc _ _ _ hk)
   exact hn (own_block h.row k e.symm).1
 have ho:W'.heap[p.w.heap.size+1]?=some (.cells #[x,y,z] 164 (0,0)):=(hk.block _ (lt_of_block h.out) (by omega)).trans h.out
 obtain⟨-,c1,-,-,f1,-⟩:=res_three ho
 refine⟨c1,f1,h.put O hk 1 y' (blk_set3 ho _).2.1 ?_⟩
 have e1:(acc++[o]).length=acc.length+1:=by simp
 have e2:intCells (acc++[o])=intCells acc++[.int .i64 o]:=by simp[intCells]
 rw[e1,e2]
 exact ow
def RunEnd (p:RcP)(r:List UInt8)(e:Ending)(w':World):Prop:=
 But p.b p.w w' ∧
  match Fr.rdRun p.steps p.win p.nx p.wm p.Q r with
  | some (x,r')=>∃vo,e=.returned (.agg #[.int .i64 x.step,vo,.int .i64 x.first])∧RdAt w' p.b p.v (p.l.length - r'.length)∧Fr.Left p.l r'∧w'.ownsRow (p.w.heap.size+2) 3 1 vo x.offs.length (intCells x.offs)
  | none=>BytesPanic e
theorem readRun_any (p:RcP)(O:p.Ok)(r:List UInt8)(hr:RdAt p.w p.b p.v (p.l.length - r.length))(hle:Fr.Left p.l r)(hv:BytesAt p.F p.w p.v p.l)
  (he:p.w.heap[p.eb]?=some (.cells #[p.vs,.int .i64 p.win,.int .i64 p.wm,.int .i64 p.nx,p.vq,p.vr] 159 (0,0))) (hst:StepsAt p.S p.w p.vs p.steps) (hev:EvsAt p.G p.w p.vq p.Q) :
  Calls Tryz.prog 189 #[.pointer (some ⟨p.eb,0,none⟩),.pointer (some ⟨p.b,0,none⟩)] p.w (RunEnd p r):=by
 have K0:Hid (Rc p ((p.w.alloc (.cells #[.int .i64 0,.slice none 0 0,.int .i64 0] 164)).alloc (.cells #[.int .i64 0,.slice none 0 0,.int .i64 0] 164)) r (.int .i64 0) (.slice none 0 0) (.int .i64 0) []):=by
  have hb:Below p.w.heap.size p.w ((p.w.alloc (.cells #[.int .i64 0,.slice none 0 0,.int .i64 0] 164)).alloc (.cells #[.int .i64 0,.slice none 0 0,.int .i64 0] 164)):=((Below.refl _ _).alloc (Nat.le_refl _) _).alloc (by simp) _
  have hn1:=heap_alloc_new (p.w.alloc (.cells #[.int .i64 0,.slice none 0 0,.int .i64 0] 164)) (.cells #[.int .i64 0,.slice none 0 0,.int .i64 0] 164)
  have hs1:(p.w.alloc (.cells #[.int .i64 0,.slice none 0 0,.int .i64 0] 164)).heap.size=p.w.heap.size+1:=by simp
  rw[hs1] at hn1
  have hb1:Below (p.w.heap.size+1) (p.w.alloc (.cells #[.int .i64 0,.slice none 0 0,.int .i64 0] 164)) ((p.w.alloc (.cells #[.int .i64 0,.slice none 0 0,.int .i64 0] 164)).alloc (.cells #[.int .i64 0,.slice none 0 0,.int .i64 0] 164)):=(Below.refl _ _).alloc (by simp) _
  exact⟨(hb.block _ O.ee).trans he,hr.below hb,hle,hv.below hb,hst.below hb,RowAt.below hev hb,hn1,(hb1.block _ (by omega)).trans (heap_alloc_new p.w _),own_nil _ _ _ _,But.ofBelow hb⟩
 obtain⟨ao,cap,hvs,-,-⟩:=RowAt.slice hst
 clear hr hle hv he hst hev
 obtain⟨p0,p1,p2,p3,p4,p5,pf⟩:=eng_cells K0.out.eng
 rw[hvs] at p0
 have HO:=hid O
 have hB:=O.be
 have hE:=O.ee
 have hsz:=O.sz
 clear O
 go_enter Tryz.func189,Tryz.ntmps189
 go_wp2_with (go_at_call 116;fail)
 refine (fBelow_left p.F p.v p.l r p.b p.steps.length _ _ K0.out.rd K0.out.bytes HO.out.fb K0.out.le HO.out.ll (by omega)).mono ?_
 rintro e w1 ⟨hb,he⟩
 clear p0 p1 p2 p3 p4 p5 pf
 cases x1:Fr.rdB p.steps.length r with
 | none=>
  rw[x1] at he
  obtain⟨n1,s1,rfl⟩:=he
  have HE:Hid (Fr.rdRun p.steps p.win p.nx p.wm p.Q r=none):=by show _=_;unfold Fr.rdRun;rw[x1]
  have HB:=hid (K0.out.but.trans hb)
  clear hb x1
  go_wp2
  refine⟨rfl,HB.out,?_⟩
  rw[HE.out]
  exact⟨_,_,rfl⟩
 | some q1=>
  obtain⟨s,r1⟩:=q1
  rw[x1] at he
  obtain⟨rfl,hr2⟩:=he
  have y1:=Fr.rdB_some x1
  have hs':(s:Int) < 1000:=by omega
  have X1:=hid (And.intro x1 y1)
  have K1:=hid (K0.out.on HO.out hb hr2 (K0.out.le.rd y1.1))
  obtain⟨d0,d1,d2,f0,f1,f2⟩:=res_three K1.out.out
  clear hb hr2 x1 y1 K0
  go_wp2
  have K2:=hid (K1.out.put HO.out (Keep.refl _ _) 0 (.int .i64 s) (blk_set3 K1.out.out _).1 K1.out.row)
  generalize w1.setCell ⟨p.w.heap.size+1,0,none⟩ (.int .i64 s)=W2 at *
  clear K1 d0 d1 d2 f0 f1 f2
  obtain⟨d0,d1,d2,f0,f1,f2⟩:=res_three K2.out.out
  obtain⟨p0,p1,p2,p3,p4,p5,pf⟩:=eng_cells K2.out.eng
  rw[hvs] at p0
  have HG:Hid (∀W,StepsAt p.S W (.slice ao p.steps.length cap) p.steps→Calls Tryz.prog 178 #[.agg #[.slice ao p.steps.length cap,.int .i64 p.win],.int .i64 s] W fun e w'=>e=.returned (.bool (goesOn p.steps s))∧Below W.heap.size W w'):=fun W h=>pGoesOn_any p.S _ p.steps p.win s W h HO.out.sz X1.out.2.2
  have HST:Hid (StepsAt p.S W2 (.slice ao p.steps.length cap) p.steps):=by show StepsAt _ _ _ _;rw[← hvs];exact K2.out.st
  have rc1:=K2.out.rd.c1
  cases x2:goesOn p.steps s
  ·rw[x2] at HG
   have HE:Hid (Fr.rdRun p.steps p.win p.nx p.wm p.Q r=none):=by show _=_;unfold Fr.rdRun;rw[X1.out.1];simp only[];rw[x2];rfl
   clear x2
   go_region_held2 (fun W=>W.cell? ⟨p.eb,0,none⟩=some (.slice ao p.steps.length cap)∧W.cell? ⟨p.eb,1,none⟩=some (.int .i64 p.win)∧W.cell? ⟨p.w.heap.size+1,0,none⟩=some (.int .i64 s)) (go_keep) (first
    | (go_at_call 178;refine (HG.out _ (StepsAt.below HST.out (by exact Below.drew (Below.refl _ _)))).mono ?_;rintro e w3 ⟨rfl,hb⟩;have K3:=hid (K2.out.bel HO.out (by exact (Below.drew (Below.refl _ _)).trans hb));clear hb;obtain⟨i0,i1,i2,j0,j1,j2⟩:=res_three K3.out.out;obtain⟨t0,t1,-,-,-,-,-⟩:=eng_cells K3.out.eng;rw[hvs] at t0;have rc3:=K3.out.rd.c1)
    | (go_at_call_of 113 (Value.bool false);refine (fNeed_false p.b _ _ _ rc3).mono ?_;rintro e w4 ⟨rfl,hw⟩;have hw':=hw.symm;subst hw';refine ended_hereF (by assumption) ⟨#[],[]⟩ w3 (by show _∧_;exact⟨rfl,K3.out.but,by rw[HE.out];exact⟨_,_,rfl⟩⟩) (fun hfls=>?_)))
   exact hfls.elim
  ·rw[x2] at HG
   have X2:=hid x2
   clear x2
   go_region_held2 (fun W=>W.cell? ⟨p.eb,0,none⟩=some (.slice ao p.steps.length cap)∧W.cell? ⟨p.eb,1,none⟩=some (.int .i64 p.win)∧W.cell? ⟨p.w.heap.size+1,0,none⟩=some (.int .i64 s)) (go_keep) (first
    | (go_at_call 178;refine (HG.out _ (StepsAt.below HST.out (by exact Below.drew (Below.refl _ _)))).mono ?_;rintro e w3 ⟨rfl,hb⟩;have K3:=hid (K2.out.bel HO.out (by exact (Below.drew (Below.refl _ _)).trans hb));clear hb;obtain⟨i0,i1,i2,j0,j1,j2⟩:=res_three K3.out.out;obtain⟨t0,t1,-,-,-,-,-⟩:=eng_cells K3.out.eng;rw[hvs] at t0)
    | (go_at_call_of 113 (Value.bool true);refine (fNeed_true p.b _ _).mono ?_;rintro e w4 ⟨rfl,hw⟩;have hw':=hw.symm;subst hw'))
   clear d0 d1 d2 f0 f1 f2 p0 p1 p2 p3 p4 p5 pf HG HST K2 rc1 i0 i1 i2 j0 j1 j2 t0 t1
   go_wp2_with (go_at_call 185;fail)
   refine (fNumber_left p.F p.v p.l r1 p.b _ K3.out.rd K3.out.bytes HO.out.fb K3.out.le HO.out.ll).mono ?_
   rintro e w4 ⟨hb,he⟩
   cases x3:Fr.rd r1 with
   | none=>
    rw[x3] at he
    obtain⟨n1,s1,rfl⟩:=he
    have HE:Hid (Fr.rdRun p.steps p.win p.nx p.wm p.Q r=none):=by show _=_;unfold Fr.rdRun;rw[X1.out.1];simp only[];rw[X2.out,if_pos rfl,x3]
    have HB:=hid (K3.out.but.trans hb)
    clear hb x3
    go_wp2
    refine⟨rfl,HB.out,?_⟩
    rw[HE.out]
    exact⟨_,_,rfl⟩
   | some q3=>
    obtain⟨n,r2⟩:=q3
    rw[x3] at he
    obtain⟨rfl,hr2⟩:=he
    have hn64:=(Fr.rd_back x3).2
    have X3:=hid x3
    have K4:=hid (K3.out.on HO.out hb hr2 (K3.out.le.rd x3))
    clear hb hr2 x3 K3
    obtain⟨i0,hi,hz0,hz1,hz2⟩:=info_parts Tryz.infoIntS
    go_wp2
    go_loopw [26] (fun i wr=>∃(k:Nat) (acc:List Int) (rr:List UInt8) (y:Value),k≤n∧i=.int .u64 k∧acc.length=k∧acc.length+rr.length≤p.l.length∧Hid (Rc p wr rr (.int .i64 s) y (.int .i64 0) acc∧Fr.rdOffs p.nx p.Q n [] r2=Fr.rdOffs p.nx p.Q (n - k) acc rr)) (fun i _=>n - (intOf i).toNat)
    case atStart=>exact⟨0,[],r2,_,Nat.zero_le _,rfl,rfl,by have:=K4.out.le.2;simp;omega,K4.out,rfl⟩
    case round=>
     obtain⟨k,acc,rr,y,hk,rfl,hak,hlr,hr⟩:=hrel
     subst hak
     by_cases hlt:acc.length < n
     ·have hlt':(acc.length:Int) < n:=by omega
      have hac:acc.length≤1000000:=by have:=HO.out.ll;omega
      obtain⟨d0,d1,d2,f0,f1,f2⟩:=res_three hr.out.1.out
      obtain⟨p0,p1,p2,p3,p4,p5,pf⟩:=eng_cells hr.out.1.eng
      obtain⟨ya,yc,rfl⟩:=own_slice hr.out.1.row
      have HV:Hid (∀W,But p.b wr W→RdAt W p.b p.v (p.l.length - rr.length)→Calls Tryz.prog 232 #[.pointer (some ⟨p.eb,0,none⟩),.pointer (some ⟨p.b,0,none⟩)] W (REnd (Fr.rdO p.nx p.Q rr) (fun n=>.int .i64 n) p.l.length p.v p.b W)):=fun W hb hrd=>by
       have hK:=hr.out.1.on HO.out hb hrd hr.out.1.le
       obtain⟨c0,c1,c2,c3,c4,c5,cf⟩:=eng_cells hK.eng
       refine (readRunOffset_any p.F p.G p.v p.vq p.l p.Q p.b (p.l.length - rr.length) p.eb p.nx W hrd hK.bytes HO.out.fb (by omega) HO.out.ll c3 HO.out.nl c4 hK.evs HO.out.gb HO.out.ne HO.out.ql).mono fun e w' h=>?_
       have h':=h.rend
       rw[hK.le.1] at h'
       exact h'
      cases x4:Fr.rdO p.nx p.Q rr with
      | none=>
       rw[x4] at HV
       have HE:Hid (Fr.rdRun p.steps p.win p.nx p.wm p.Q r=none):=by
        show _=_
        unfold Fr.rdRun
        rw[X1.out.1]
        simp only[]
        rw[X2.out,if_pos rfl,X3.out]
        simp only[]
        rw[hr.out.2,show n - acc.length=(n - acc.length - 1)+1 by omega,Fr.rdOffs,x4]
       clear x4
       go_wp2
       go_region_law (first
        | (go_simp;go_at_call 232;refine (HV.out _ (by exact (But.refl _ _).drew1) (by exact hr.out.1.rd)).mono ?_;rintro e w6 ⟨hb,n1,s1,rfl⟩;have HB:=hid (hr.out.1.but.trans (by exact But.trans (But.drew1 (But.refl _ _)) hb));clear hb;refine ended_here Tryz.prog w6 (by show _∧_;exact⟨rfl,HB.out,by rw[HE.out];exact⟨_,_,rfl⟩⟩) ?_))
       all_goals exact trivial
      | some q4=>
       obtain⟨o,r4⟩:=q4
       rw[x4] at HV
       have y4:=Fr.rdO_some x4
       have hr4:r4.length+1≤rr.length:=by
        have h1:=(Fr.rd_back y4.1).1
        have h2:=Fr.num_pos o
        rw[h1,List.length_append]
        omega
       have ho':(o:Int) < 9223372036854775808:=by have:=HO.out.nl;have:=y4.2.1;omega
       have HN:Hid (Fr.rdOffs p.nx p.Q n [] r2=Fr.rdOffs p.nx p.Q (n - (acc.length+1)) (acc++[(o:Int)]) r4):=by
        show _=_
        rw[hr.out.2,show n - acc.length=(n - (acc.length+1))+1 by omega,Fr.rdOffs,x4]
       have Y4:=hid y4
       clear x4 y4
       go_wp2
       go_region_law (first
        | (refine step_append_lies _ rfl (.tmp 29) (.tmp 33) 90 rfl (p.w.heap.size+2) 3 i0 (.int .i64 0) 1 8 Tryz.underlying90 hi hz0 hz1 hz2 rfl (by decide) (.slice ya acc.length yc) acc.length (intCells acc) rfl (World.ownsRow.alloc K6.out.row _) ⟨w6.heap.size,0,none⟩ 1 1 [.int .i64 o] rfl rfl (World.news_of_block (cs:=#[.int .i64 o]) (new_at (by simp;done))) (by intro u hu;simp at hu;subst hu;rfl) (by decide) (by unfold maxLen;omega) (by omega) (by simp;have:=lt_of_block K6.out.out;omega) _ rfl ?_;intro g2 cap2 w7 ow2 gr2 hat hlt3;obtain⟨a4,af,hp⟩:=Rc.push K6.out HO.out gr2 ow2;have K7:=hid hp;clear ow2 gr2 hat hlt3 hp)
        | (go_simp;go_at_call 232;refine (HV.out _ (by exact (But.refl _ _).drew1) (by exact hr.out.1.rd)).mono ?_;rintro e w6 ⟨hb,rfl,hr6⟩;have K6:=hid (hr.out.1.on HO.out (by exact But.trans (But.drew1 (But.refl _ _)) hb) hr6 (hr.out.1.le.rd Y4.out.1));clear hb hr6;obtain⟨u0,u1,u2,v0,v1,v2⟩:=res_three K6.out.out;have hg6:=lt_of_block K6.out.out))
       all_goals
        go_wp2
        go_roundw
        case rel=>exact⟨acc.length+1,acc++[(o:Int)],r4,_,by omega,by go_num,by simp,by simp;omega,K7.out,HN.out⟩
        case measure=>simp[intOf];omega
     ·obtain rfl:acc.length=n:=by omega
      have HQ:Hid (Fr.rdOffs p.nx p.Q acc.length [] r2=some (acc,rr)):=by
       show _=_
       rw[hr.out.2,Nat.sub_self,Fr.rdOffs]
      have HX:Hid (Fr.rdRun p.steps p.win p.nx p.wm p.Q r=if fits p.steps s acc.length=true then (if twice acc=false then (match Fr.rdM rr with | none=>none | some (t,r4)=>if t≤p.wm then if En.far p.wm t < p.win then some (⟨s,acc,t⟩,r4) else none else none) else none) else none):=by
       show _=_
       unfold Fr.rdRun
       rw[X1.out.1]
       simp only[]
       rw[X2.out,if_pos rfl,X3.out]
       simp only[]
       rw[HQ.out]
      have hac:acc.length≤1000000:=by have:=HO.out.ll;omega
      obtain⟨K5,HJ⟩:=hr.out
      have K5:=hid K5
      clear hr HJ K4 HQ X2 X3
      obtain⟨ya,yc,rfl⟩:=own_slice K5.out.row
      obtain⟨d0,d1,d2,f0,f1,f2⟩:=res_three K5.out.out
      obtain⟨p0,p1,p2,p3,p4,p5,pf⟩:=eng_cells K5.out.eng
      rw[hvs] at p0
      have HG:Hid (∀W,StepsAt p.S W (.slice ao p.steps.length cap) p.steps→Calls Tryz.prog 233 #[.agg #[.slice ao p.steps.length cap,.int .i64 p.win],.int .i64 s,.int .i64 acc.length] W fun e w'=>e=.returned (.bool (fits p.steps s acc.length))∧Below W.heap.size W w'):=fun W h=>pFits_any p.S _ p.steps p.win s acc.length W h HO.out.sz X1.out.2.2
      have HST:Hid (StepsAt p.S wr (.slice ao p.steps.length cap) p.steps):=by show StepsAt _ _ _ _;rw[← hvs];exact K5.out.st
      go_wp2
      cases x5:fits p.steps s acc.length
      ·rw[x5] at HG
       have HE:Hid (Fr.rdRun p.steps p.win p.nx p.wm p.Q r=none):=by show _=_;rw[HX.out,x5];rfl
       clear x5
       go_region_held2 (fun W=>W.cell? ⟨p.eb,0,none⟩=some (.slice ao p.steps.length cap)∧W.cell? ⟨p.eb,1,none⟩=some (.int .i64 p.win)∧W.cell? ⟨p.w.heap.size+1,0,none⟩=some (.int .i64 s)∧W.cell? ⟨p.w.heap.size+1,1,none⟩=some (.slice ya acc.length yc)) (go_keep) (first
        | (go_at_call 233;refine (HG.out _ (StepsAt.below HST.out (by exact Below.drew (Below.refl _ _)))).mono ?_;rintro e w6 ⟨rfl,hb⟩;have K6:=hid (K5.out.bel HO.out (by exact (Below.drew (Below.refl _ _)).trans hb));clear hb;obtain⟨i0,i1,i2,j0,j1,j2⟩:=res_three K6.out.out;obtain⟨t0,t1,-,-,-,-,-⟩:=eng_cells K6.out.eng;rw[hvs] at t0;have rc6:=K6.out.rd.c1)
        | (go_at_call_of 113 (Value.bool false);refine (fNeed_false p.b _ _ _ rc6).mono ?_;rintro e w7 ⟨rfl,hw⟩;have hw':=hw.symm;subst hw';refine ended_hereF (by assumption) ⟨#[],[]⟩ w6 (by show _∧_;exact⟨rfl,K6.out.but,by rw[HE.out];exact⟨_,_,rfl⟩⟩) (fun hfls=>?_)))
       exact hfls.elim
      ·rw[x5] at HG
       rw[x5,if_pos rfl] at HX
       clear x5
       go_region_held2 (fun W=>W.cell? ⟨p.eb,0,none⟩=some (.slice ao p.steps.length cap)∧W.cell? ⟨p.eb,1,none⟩=some (.int .i64 p.win)∧W.cell? ⟨p.w.heap.size+1,0,none⟩=some (.int .i64 s)∧W.cell? ⟨p.w.heap.size+1,1,none⟩=some (.slice ya acc.length yc)) (go_keep) (first
        | (go_at_call 233;refine (HG.out _ (StepsAt.below HST.out (by exact Below.drew (Below.refl _ _)))).mono ?_;rintro e w6 ⟨rfl,hb⟩;have K6:=hid (K5.out.bel HO.out (by exact (Below.drew (Below.refl _ _)).trans hb));clear hb;obtain⟨i0,i1,i2,j0,j1,j2⟩:=res_three K6.out.out;obtain⟨t0,t1,-,-,-,-,-⟩:=eng_cells K6.out.eng;rw[hvs] at t0)
        | (go_at_call_of 113 (Value.bool true);refine (fNeed_true p.b _ _).mono ?_;rintro e w7 ⟨rfl,hw⟩;have hw':=hw.symm;subst hw'))
       clear d0 d1 d2 f0 f1 f2 p0 p1 p2 p3 p4 p5 pf HG HST K5 t0 t1
       have HT:=hid (hasTwice_any _ _ acc w6 (RowAt.ofOwn K6.out.row) hac)
       cases x6:twice acc
       ·rw[x6] at HT
        rw[x6,if_pos rfl] at HX
        clear x6
        go_wp2_with (go_at_call 234;fail)
        refine HT.out.mono ?_
        rintro e w7 ⟨rfl,hb⟩
        have K7:=hid (K6.out.bel HO.out hb)
        clear hb HT i0 i1 i2 j0 j1 j2 K6
        go_wp2_with (go_at_call_of 113 (Value.bool true);fail)
        refine (fNeed_true p.b _ _).mono ?_
        rintro e w8 ⟨rfl,hw⟩
        subst hw
        go_wp2_with (go_at_call 115;fail)
        refine (fMoment_left p.F p.v p.l rr p.b _ K7.out.rd K7.out.bytes HO.out.fb K7.out.le HO.out.ll).mono ?_
        rintro e w9 ⟨hb,he⟩
        cases x7:Fr.rdM rr with
        | none=>
         rw[x7] at he HX
         obtain⟨n1,s1,rfl⟩:=he
         have HB:=hid (K7.out.but.trans hb)
         clear hb x7
         go_wp2
         refine⟨rfl,HB.out,?_⟩
         rw[HX.out]
         exact⟨_,_,rfl⟩
        | some q7=>
         obtain⟨t,r7⟩:=q7
         rw[x7] at he HX
         obtain⟨rfl,hr7⟩:=he
         obtain⟨m7,hm1,-⟩:=Fr.rdM_some x7
         have K8:=hid (K7.out.on HO.out hb hr7 (K7.out.le.rd hm1))
         clear hb hr7 hm1 x7 K7
         obtain⟨d0,d1,d2,f0,f1,f2⟩:=res_three K8.out.out
         go_wp2
         have K9:=hid (K8.out.put HO.out (Keep.refl _ _) 2 (.int .i64 t) (blk_set3 K8.out.out _).2.2 K8.out.row)
         generalize w9.setCell ⟨p.w.heap.size+1,2,none⟩ (.int .i64 t)=W9 at *
         clear K8 d0 d1 d2 f0 f1 f2
         obtain⟨d0,d1,d2,f0,f1,f2⟩:=res_three K9.out.out
         obtain⟨-,p1,p2,-,-,-,-⟩:=eng_cells K9.out.eng
         have rc9:=K9.out.rd.c1
         by_cases ht:t≤p.wm
         ·rw[if_pos ht] at HX
          go_region_held2 (fun W=>W.cell? ⟨p.eb,2,none⟩=some (.int .i64 p.wm)∧W.cell? ⟨p.w.heap.size+1,2,none⟩=some (.int .i64 t)) (go_keep) ((go_at_call_of 113 (Value.bool true);refine (fNeed_true p.b _ _).mono ?_;rintro e w10 ⟨rfl,hw⟩;have hw':=hw.symm;subst hw'))
          go_wp2
          have HLA:Hid (∀W,W.cell? ⟨p.eb,1,none⟩=some (.int .i64 p.win)→Calls Tryz.prog 182 #[.pointer (some ⟨p.eb,0,none⟩),.agg #[.int .i64 s,.slice ya acc.length yc,.int .i64 t],.int .i64 p.wm] W fun e w'=>e=.returned (.bool (decide (En.far p.wm t < p.win)))∧Below W.heap.size W w'):=fun W h=>lasts_any s t p.wm p.win ya acc.length yc p.eb W HO.out.w0 HO.out.w9 h
          cases x8:decide (En.far p.wm t < p.win)
          ·rw[x8] at HLA
           rw[if_neg (of_decide_eq_false x8)] at HX
           clear x8 ht
           go_region_held2 (fun W=>W.cell? ⟨p.eb,2,none⟩=some (.int .i64 p.wm)∧W.cell? ⟨p.w.heap.size+1,0,none⟩=some (.int .i64 s)∧W.cell? ⟨p.w.heap.size+1,1,none⟩=some (.slice ya acc.length yc)∧W.cell? ⟨p.w.heap.size+1,2,none⟩=some (.int .i64 t)) (go_keep) (first
            | (go_at_call 182;refine (HLA.out _ (by exact p1)).mono ?_;rintro e w11 ⟨rfl,hb⟩;have K10:=hid (K9.out.bel HO.out (by exact (Below.drew (Below.drew (Below.refl _ _))).trans hb));clear hb;obtain⟨i0,i1,i2,j0,j1,j2⟩:=res_three K10.out.out;obtain⟨-,-,t2,-,-,-,-⟩:=eng_cells K10.out.eng;have rc10:=K10.out.rd.c1)
            | (go_at_call_of 113 (Value.bool false);refine (fNeed_false p.b _ _ _ rc10).mono ?_;rintro e w12 ⟨rfl,hw⟩;have hw':=hw.symm;subst hw';refine ended_hereF (by assumption) ⟨#[],[]⟩ w11 (by show _∧_;exact⟨rfl,K10.out.but,by rw[HX.out];exact⟨_,_,rfl⟩⟩) (fun hfls=>?_)))
           exact hfls.elim
          ·rw[x8] at HLA
           rw[if_pos (of_decide_eq_true x8)] at HX
           clear x8 ht
           go_region_held2 (fun W=>W.cell? ⟨p.eb,2,none⟩=some (.int .i64 p.wm)∧W.cell? ⟨p.w.heap.size+1,0,none⟩=some (.int .i64 s)∧W.cell? ⟨p.w.heap.size+1,1,none⟩=some (.slice ya acc.length yc)∧W.cell? ⟨p.w.heap.size+1,2,none⟩=some (.int .i64 t)) (go_keep) (first
            | (go_at_call 182;refine (HLA.out _ (by exact p1)).mono ?_;rintro e w11 ⟨rfl,hb⟩;have K10:=hid (K9.out.bel HO.out (by exact (Below.drew (Below.drew (Below.refl _ _))).trans hb));clear hb;obtain⟨i0,i1,i2,j0,j1,j2⟩:=res_three K10.out.out;obtain⟨-,-,t2,-,-,-,-⟩:=eng_cells K10.out.eng)
            | (go_at_call_of 113 (Value.bool true);refine (fNeed_true p.b _ _).mono ?_;rintro e w12 ⟨rfl,hw⟩;have hw':=hw.symm;subst hw'))
           clear d0 d1 d2 f0 f1 f2 p1 p2 rc9 HLA K9 t2
           obtain⟨o0,o1,o2,n0,n1,n2⟩:=res_three K10.out.res
           go_wp2
           have B3:=(blk_set3 (blk_set3 (blk_set3 K10.out.res (.int .i64 s)).1 (.slice ya acc.length yc)).2.1 (.int .i64 t)).2.2
           obtain⟨t0,t1,t2,-,-,-⟩:=res_three B3
           refine bodyPost_ret (v:=.agg #[.int .i64 s,.slice ya acc.length yc,.int .i64 t]) (by simp[results,Tryz.results189,go_sem,t0,t1,t2]) rfl ?_
           have hk:Keep (fun k=>k=p.w.heap.size) w11 (((w11.setCell ⟨p.w.heap.size,0,none⟩ (.int .i64 s)).setCell ⟨p.w.heap.size,1,none⟩ (.slice ya acc.length yc)).setCell ⟨p.w.heap.size,2,none⟩ (.int .i64 t)):=((((but_set w11 p.w.heap.size 0 _).keep (D:=fun k=>k=p.w.heap.size) rfl).trans ((but_set _ p.w.heap.size 1 _).keep (D:=fun k=>k=p.w.heap.size) rfl)).trans ((but_set _ p.w.heap.size 2 _).keep (D:=fun k=>k=p.w.heap.size) rfl))
           refine⟨by exact ((K10.out.but.setNew 0 _ (Nat.le_refl _)).setNew 1 _ (Nat.le_refl _)).setNew 2 _ (Nat.le_refl _),?_⟩
           rw[HX.out]
           exact⟨_,rfl,by exact ((K10.out.rd.setNe 0 _ (by omega)).setNe 1 _ (by omega)).setNe 2 _ (by omega),K10.out.le,own_keep K10.out.row hk (fun k hk e=>by omega)⟩
         ·have ht':decide (t≤p.wm)=false:=decide_eq_false ht
          rw[if_neg ht] at HX
          clear ht
          go_region_held2 (fun W=>W.cell? ⟨p.eb,2,none⟩=some (.int .i64 p.wm)∧W.cell? ⟨p.w.heap.size+1,2,none⟩=some (.int .i64 t)) (go_keep) ((go_at_call_of 113 (Value.bool false);refine (fNeed_false p.b _ _ _ (by exact rc9)).mono ?_;rintro e w10 ⟨rfl,hw⟩;have hw':=hw.symm;subst hw';refine ended_hereF (by assumption) ⟨#[],[]⟩ W9.drew (by show _∧_;exact⟨rfl,K9.out.but.drew1,by rw[HX.out];exact⟨_,_,rfl⟩⟩) (fun hfls=>?_)))
          exact hfls.elim
       ·rw[x6] at HT
        have HE:Hid (Fr.rdRun p.steps p.win p.nx p.wm p.Q r=none):=by show _=_;rw[HX.out,x6];rfl
        clear x6
        go_wp2_with (go_at_call 234;fail)
        refine HT.out.mono ?_
        rintro e w7 ⟨rfl,hb⟩
        have K7:=hid (K6.out.bel HO.out hb)
        have rc7:=K7.out.rd.c1
        clear hb HT
        go_wp2_with (go_at_call_of 113 (Value.bool false);fail)
        refine (fNeed_false p.b _ _ _ rc7).mono ?_
        rintro e w8 ⟨rfl,hw⟩
        subst hw
        show _∧_
        refine⟨rfl,K7.out.but,?_⟩
        rw[HE.out]
        exact⟨_,_,rfl⟩
end Go.Proofs.YtfldcmdhneegmaaGreatDoor
namespace Go.Proofs.YtfldcmdhneegmaaGreatDoor.Fr
def okRn (acc:List En.Rn)(x:En.Rn):Bool:=match acc.getLast? with | none=>true | some y=>decide (En.cmpR y x < 0)
def rdRns (steps:List (Int × Bool))(win:Int)(nx:Nat)(wm:Int)(Q:List En.Ev):Nat→List En.Rn→List UInt8→Option (List En.Rn × List UInt8)
  | 0,acc,l=>some (acc,l)
  | k+1,acc,l=>
    match rdRun steps win nx wm Q l with
    | none=>none
    | some (x,r)=>if okRn acc x=true then rdRns steps win nx wm Q k (acc++[x]) r else none
def rdRuns (steps:List (Int × Bool))(win:Int)(nx:Nat)(wm:Int)(Q:List En.Ev)(l:List UInt8):Option (List En.Rn × List UInt8):=
  match rdB 25 l with
  | none=>none
  | some (n,r)=>rdRns steps win nx wm Q n [] r
end Go.Proofs.YtfldcmdhneegmaaGreatDoor.Fr
namespace Go.Proofs.YtfldcmdhneegmaaGreatDoor
open Go.RowKit Go.Lib
def OrdN (base:Nat)(w:World)(ob:Nat):Prop:=base≤ob∧∃sb,base≤sb∧w.heap[ob]?=some (.cells #[.slice (some ⟨sb,0,none⟩) 2 2] 388 (0,0))∧w.heap[sb]?=some (.cells #[.func (.func 223) #[] #[],.func (.func 224) #[] #[]] 292 (0,0))
theorem OrdN.at {base:Nat}{w:World}{ob:Nat}(h:OrdN base w ob):OrdAt w ob:=by
  obtain⟨-,sb,-,h1,h2⟩:=h
  exact⟨sb,h1,h2⟩
theorem OrdN.keep {D:Nat→Prop}{base:Nat}{w w':World}{ob:Nat}(h:OrdN base w ob)(hk:Keep D w w')(hD:∀k c t,base≤k→w.heap[k]?=some (.cells c t (0,0))→t=388∨t=292→¬ D k):OrdN base w' ob:=by
  obtain⟨h0,sb,h1,h2,h3⟩:=h
  exact⟨h0,sb,h1,(hk.block _ (lt_of_block h2) (hD _ _ _ h0 h2 (.inl rfl))).trans h2,(hk.block _ (lt_of_block h3) (hD _ _ _ h1 h3 (.inr rfl))).trans h3⟩
theorem runOrder_new (w:World):Calls Tryz.prog 172 #[] w fun e w'=>∃ob,e=.returned (.func (.func 254) #[] #[.pointer (some ⟨ob,0,none⟩)])∧OrdN w.heap.size w' ob∧Below w.heap.size w w':=by
  go_enter Tryz.func172,Tryz.ntmps172
  go_wp2
  go_ret
  refine⟨w.heap.size+1,rfl,⟨by omega,w.heap.size,Nat.le_refl _,new_at (by simp),(Below.heap_alloc _ _ _ (by simp)).trans (heap_alloc_new w _)⟩,((Below.refl _ _).alloc (Nat.le_refl _) _).alloc (by simp) _⟩
structure Rns (p:RcP)(W:World)(r:List UInt8)(vr:Value)(acc:List RV)(ob:Nat):Prop where
  eng:W.heap[p.eb]?=some (.cells #[p.vs,.int .i64 p.win,.int .i64 p.wm,.int .i64 p.nx,p.vq,vr] 159 (0,0))
  rd:RdAt W p.b p.v (p.l.length - r.length)
  le:Fr.Left p.l r
  bytes:BytesAt p.F W p.v p.l
  st:StepsAt p.S W p.vs p.steps
  evs:EvsAt p.G W p.vq p.Q
  row:W.ownsRow p.w.heap.size 164 3 vr acc.length (runCells acc)
  offs:∀x∈acc,W.ownsRow p.w.heap.size 3 1 x.2 x.1.offs.length (intCells x.1.offs)
  ord:OrdN p.w.heap.size W ob
  keep:Keep (fun k=>k=p.b∨k=p.eb) p.w W
theorem Rns.on {p:RcP}{W W':World}{r r':List UInt8}{vr:Value}{acc:List RV}{ob:Nat}(h:Rns p W r vr acc ob)(O:p.Ok)(hb:But p.b W W')(hr:RdAt W' p.b p.v (p.l.length - r'.length))(hl:Fr.Left p.l r'):Rns p W' r' vr acc ob:=by
  have hbe:=O.be
  have hk:=hb.keep (D:=fun k=>k=p.b) rfl
  exact⟨(hb.block _ (lt_of_block h.eng) (by simpa using O.ne)).trans h.eng,hr,hl,h.bytes.but hb O.fb,RowAt.but h.st hb O.sb,RowAt.but h.evs hb O.gb,own_keep h.row hk (fun k hk e=>by omega),fun x hx=>own_keep (h.offs x hx) hk (fun k hk e=>by omega),h.ord.keep hk (fun k c t hk _ _ e=>by omega),h.keep.after hk (fun k _ e=>.inl e)⟩
theorem Rns.push {p:RcP}{W W':World}{r:List UInt8}{vr vr':Value}{acc:List RV}{ob:Nat}{x:RV}{o:Obj}(h:Rns p W r vr acc ob)(O:p.Ok)(hxo:W.ownsRow p.w.heap.size 3 1 x.2 x.1.offs.length (intCells x.1.offs))
    (gr:(W.alloc o).grownBy W' vr.ownBlock) (ow:W'.ownsRow p.w.heap.size 164 3 vr' (acc.length+1) (runCells acc++[.int .i64 x.1.step,x.2,.int .i64 x.1.first])) :
    W'.cell? ⟨p.eb,5,none⟩=some vr∧W'.frozen? ⟨p.eb,5,none⟩=false∧Rns p (W'.setCell ⟨p.eb,5,none⟩ vr') r vr' (acc++[x]) ob:=by
  have hbe:=O.be
  have hee:=O.ee
  have hk:Keep (fun k=>p.w.heap.size≤k∧∃c fz,W.heap[k]?=some (.cells c 164 fz)) W W':=by
    refine⟨gr.os,gr.tape,gr.output,?_,fun k hk hn=>?_⟩
    · have:=gr.size
      have h2:(W.alloc o).heap.size=W.heap.size+1:=by simp
      omega
    · refine (gr.block k (by simp;omega) (fun e=>?_)).trans (Below.heap_alloc _ _ _ hk)
      exact hn (own_block h.row k e.symm)
  have he:W'.heap[p.eb]?=some (.cells #[p.vs,.int .i64 p.win,.int .i64 p.wm,.int .i64 p.nx,p.vq,vr] 159 (0,0)):=(hk.block p.eb (lt_of_block h.eng) (fun e=>by omega)).trans h.eng
  obtain⟨-,-,-,-,-,c5,cf⟩:=eng_cells he
  have hs:=but_set W' p.eb 5 vr'
  have hs2:=hs.keep (D:=fun k=>k=p.eb) rfl
  have hno:∀{e:TypeId} {v:Value} {n:Nat} {xs:List Value},e≠164→W.ownsRow p.w.heap.size e 1 v n xs→(W'.setCell ⟨p.eb,5,none⟩ vr').ownsRow p.w.heap.size e 1 v n xs:=fun hne ho=>by
    refine⟨ho.1,?_⟩
    rcases ho.2 with h0 | ⟨g,cap,cur,hv,hb1,hg,rest⟩
    · exact Or.inl h0
    · refine Or.inr ⟨g,cap,cur,hv,hb1,(hs.block g (Nat.lt_of_lt_of_le (lt_of_block hg) hk.size) (by simp;omega)).trans ((hk.block g (lt_of_block hg) ?_).trans hg),rest⟩
      rintro⟨-,c,fz,h2⟩
      rw[hg] at h2
      cases h2
      exact hne rfl
  refine⟨c5,cf 5,?_,?_,h.le,?_,?_,?_,?_,?_,?_,?_⟩
  · have hlt:=lt_of_block he
    have h':W'.heap[p.eb]=.cells #[p.vs,.int .i64 p.win,.int .i64 p.wm,.int .i64 p.nx,p.vq,vr] 159 (0,0):=by simpa [Array.getElem?_eq_getElem hlt] using he
    show (W'.heap.modify p.eb _)[p.eb]?=_
    rw[Array.getElem?_eq_getElem (by simpa using hlt),Array.getElem_modify_self,h']
    rfl
  · exact (hs.block _ (Nat.lt_of_lt_of_le hbe (Nat.le_trans h.keep.size hk.size)) (by simpa using O.ne.symm)).trans ((hk.block p.b (lt_of_block h.rd) (fun e=>by omega)).trans h.rd)
  · refine h.bytes.frame (Nat.le_trans hk.size hs.size) (fun k h1 h2=>?_)
    have:=O.fl k h2
    exact (hs.block k (Nat.lt_of_lt_of_le h1 hk.size) (by intro e;cases e;exact O.fe h2)).trans (hk.block k h1 (fun e=>by omega))
  · refine RowAt.frame h.st (Nat.le_trans hk.size hs.size) (fun k h1 h2=>?_)
    have:=O.sl k h2
    exact (hs.block k (Nat.lt_of_lt_of_le h1 hk.size) (by intro e;cases e;exact O.se h2)).trans (hk.block k h1 (fun e=>by omega))
  · refine RowAt.frame h.evs (Nat.le_trans hk.size hs.size) (fun k h1 h2=>?_)
    have:=O.gl k h2
    exact (hs.block k (Nat.lt_of_lt_of_le h1 hk.size) (by intro e;cases e;exact O.ge h2)).trans (hk.block k h1 (fun e=>by omega))
  · have e1:(acc++[x]).length=acc.length+1:=by simp
    have e2:runCells (acc++[x])=runCells acc++[.int .i64 x.1.step,x.2,.int .i64 x.1.first]:=by rw[runCells_append];rfl
    rw[e1,e2]
    exact own_keep ow hs2 (fun k hk e=>by omega)
  · intro y hy
    rcases List.mem_append.1 hy with hy | hy
    · exact hno (by decide) (h.offs y hy)
    · obtain rfl:=List.mem_singleton.1 hy
      exact hno (by decide) hxo
  · refine OrdN.keep (OrdN.keep h.ord hk (fun k c t h1 h2 h3 h4=>?_)) hs2 (fun k c t hk _ _ e=>by omega)
    obtain⟨-,c',fz,h5⟩:=h4
    rw[h2] at h5
    cases h5
    rcases h3 with h3 | h3<;>exact absurd h3 (by decide)
  · exact (h.keep.after hk (fun k h1 h2=>absurd h2.1 (by omega))).after hs2 (fun k _ e=>.inr e)
theorem RcP.Ok.to {p:RcP}(O:p.Ok)(vr:Value)(W:World)(h:p.w.heap.size≤W.heap.size):RcP.Ok { p with vr:=vr,w:=W }:=
  ⟨O.fb,O.sb,O.gb,O.fe,O.se,O.ge,O.ne,fun c hc=>Nat.lt_of_lt_of_le (O.fl c hc) h,fun c hc=>Nat.lt_of_lt_of_le (O.sl c hc) h,fun c hc=>Nat.lt_of_lt_of_le (O.gl c hc) h,Nat.lt_of_lt_of_le O.be h,Nat.lt_of_lt_of_le O.ee h,O.ll,O.nl,O.sz,O.ql,O.w0,O.w9⟩
theorem Rns.runs {p:RcP}{W:World}{r:List UInt8}{vr:Value}{acc:List RV}{ob:Nat}(h:Rns p W r vr acc ob):RunsAt (fun b=>p.w.heap.size≤b) W vr acc:=⟨RowAt.ofOwn h.row,fun x hx=>RowAt.ofOwn (h.offs x hx)⟩
theorem Fr.okRn_some (acc:List En.Rn)(y x:En.Rn)(h:acc.getLast?=some y):Fr.okRn acc x=decide (En.cmpR y x < 0):=by unfold Fr.okRn;rw[h]
def RunsEnd (p:RcP)(r:List UInt8)(e:Ending)(w':World):Prop:=
  Keep (fun k=>k=p.b∨k=p.eb) p.w w' ∧
    match Fr.rdRuns p.steps p.win p.nx p.wm p.Q r with
    | some (A,r')=>e=.returned (.tuple #[])∧∃vr acc ob,acc.map Prod.fst=A∧Rns p w' r' vr acc ob
    | none=>BytesPanic e
theorem readRuns_any (p:RcP)(O:p.Ok)(hvr:p.vr=.slice none 0 0)(r:List UInt8)(hr:RdAt p.w p.b p.v (p.l.length - r.length))(hle:Fr.Left p.l r)(hv:BytesAt p.F p.w p.v p.l)
    (he:p.w.heap[p.eb]?=some (.cells #[p.vs,.int .i64 p.win,.int .i64 p.wm,.int .i64 p.nx,p.vq,p.vr] 159 (0,0))) (hst:StepsAt p.S p.w p.vs p.steps) (hev:EvsAt p.G p.w p.vq p.Q) :
    Calls Tryz.prog 118 #[.pointer (some ⟨p.eb,0,none⟩),.pointer (some ⟨p.b,0,none⟩)] p.w (RunsEnd p r):=by
  have HO:=hid O
  have hB:=O.be
  have hE:=O.ee
  have HR:=hid (runOrder_new p.w)
  have H0:=hid (And.intro hr (And.intro hle (And.intro hv (And.intro he (And.intro hst hev)))))
  clear hr hle hv he hst hev O
  go_enter Tryz.func118,Tryz.ntmps118
  go_wp2_with (go_at_call 172;fail)
  refine HR.out.mono ?_
  rintro e w1 ⟨ob,rfl,ho,hb⟩
  have K1:Hid (Rns p w1 r p.vr [] ob):=by
    obtain⟨hr,hle,hv,he,hst,hev⟩:=H0.out
    exact⟨(hb.block _ hE).trans he,hr.below hb,hle,hv.below hb,hst.below hb,RowAt.below hev hb,by rw[hvr];exact own_nil _ _ _ _,fun x hx=>(by cases hx),ho,⟨hb.os,hb.tape,hb.output,hb.size,fun k hk _=>hb.block k hk⟩⟩
  clear ho hb HR H0
  go_wp2_with (go_at_call 116;fail)
  refine (fBelow_left p.F p.v p.l r p.b 25 _ _ K1.out.rd K1.out.bytes HO.out.fb K1.out.le HO.out.ll (by omega)).mono ?_
  rintro e w2 ⟨hb,he⟩
  cases x1:Fr.rdB 25 r with
  | none=>
    rw[x1] at he
    obtain⟨n1,s1,rfl⟩:=he
    have HE:Hid (Fr.rdRuns p.steps p.win p.nx p.wm p.Q r=none):=by show _=_;unfold Fr.rdRuns;rw[x1]
    have HB:=hid (K1.out.keep.trans (hb.keep (D:=fun k=>k=p.b∨k=p.eb) (.inl rfl)))
    clear hb x1
    go_wp2
    refine⟨rfl,HB.out,?_⟩
    rw[HE.out]
    exact⟨_,_,rfl⟩
  | some q1=>
    obtain⟨n,r1⟩:=q1
    rw[x1] at he
    obtain⟨rfl,hr1⟩:=he
    have y1:=Fr.rdB_some x1
    have hn25:n < 25:=y1.2
    have HE:Hid (Fr.rdRuns p.steps p.win p.nx p.wm p.Q r=Fr.rdRns p.steps p.win p.nx p.wm p.Q n [] r1):=by show _=_;unfold Fr.rdRuns;rw[x1]
    have K2:=hid (K1.out.on HO.out hb hr1 (K1.out.le.rd y1.1))
    clear hb hr1 x1 y1 K1
    obtain⟨i0,hi,hz0,hz1,hz2⟩:=info_parts Tryz.infoCcR
    go_wp2
    go_loopw [9] (fun i wr=>∃(k:Nat) (acc:List RV) (rr:List UInt8) (vr:Value),k≤n∧i=.int .i64 k∧acc.length=k∧Hid (Rns p wr rr vr acc ob∧Fr.rdRuns p.steps p.win p.nx p.wm p.Q r=Fr.rdRns p.steps p.win p.nx p.wm p.Q (n - k) (acc.map Prod.fst) rr)) (fun i _=>n - (intOf i).toNat)
    case atStart=>exact⟨0,[],r1,_,Nat.zero_le _,rfl,rfl,K2.out,HE.out⟩
    case round=>
      obtain⟨k,acc,rr,vr,hk,rfl,hak,hr⟩:=hrel
      subst hak
      by_cases hlt:acc.length < n
      · have hlt':(acc.length:Int) < n:=by omega
        obtain⟨ya,yc,rfl⟩:=own_slice hr.out.1.row
        obtain⟨c0,c1,c2,c3,c4,c5,cf⟩:=eng_cells hr.out.1.eng
        have HV:Hid (∀W,But p.b wr W→RdAt W p.b p.v (p.l.length - rr.length)→Calls Tryz.prog 189 #[.pointer (some ⟨p.eb,0,none⟩),.pointer (some ⟨p.b,0,none⟩)] W (RunEnd { p with vr:=.slice ya acc.length yc,w:=W } rr)):=fun W hb hrd=>by
          have hK:=hr.out.1.on HO.out hb hrd hr.out.1.le
          exact readRun_any { p with vr:=.slice ya acc.length yc,w:=W } (HO.out.to _ _ (Nat.le_trans hr.out.1.keep.size hb.size)) rr hrd hK.le hK.bytes hK.eng hK.st hK.evs
        cases x4:Fr.rdRun p.steps p.win p.nx p.wm p.Q rr with
        | none=>
          have HW:Hid (∀W,But p.b wr W→RdAt W p.b p.v (p.l.length - rr.length)→Calls Tryz.prog 189 #[.pointer (some ⟨p.eb,0,none⟩),.pointer (some ⟨p.b,0,none⟩)] W fun e w'=>But p.b W w'∧BytesPanic e):=fun W hb hrd=>(HV.out W hb hrd).mono fun e w' h=>by
            obtain⟨h1,h2⟩:=h
            dsimp only at h2
            rw[x4] at h2
            exact⟨h1,h2⟩
          have HE3:Hid (Fr.rdRuns p.steps p.win p.nx p.wm p.Q r=none):=by
            show _=_
            rw[hr.out.2,show n - acc.length=(n - acc.length - 1)+1 by omega,Fr.rdRns,x4]
          clear x4 HV
          go_wp2
          go_region_law (first
            | (go_simp;go_at_call 189;refine (HW.out _ (by exact (But.refl _ _).drew1) (by exact hr.out.1.rd)).mono ?_;rintro e w6 ⟨hb,n1,s1,rfl⟩;have HB:=hid (Keep.after (E:=fun k=>k=p.b) hr.out.1.keep (But.keep (But.trans (But.drew1 (But.refl _ _)) hb) rfl) (fun k _ e=>.inl e));clear hb;refine ended_here Tryz.prog w6 (by show _∧_;exact⟨rfl,HB.out,by rw[HE3.out];exact⟨_,_,rfl⟩⟩) ?_))
          all_goals exact trivial
        | some q4=>
          obtain⟨x,r4⟩:=q4
          have HW:Hid (∀W,But p.b wr W→RdAt W p.b p.v (p.l.length - rr.length)→Calls Tryz.prog 189 #[.pointer (some ⟨p.eb,0,none⟩),.pointer (some ⟨p.b,0,none⟩)] W fun e w'=>But p.b W w'∧∃vo,e=.returned (.agg #[.int .i64 x.step,vo,.int .i64 x.first])∧RdAt w' p.b p.v (p.l.length - r4.length)∧Fr.Left p.l r4∧w'.ownsRow p.w.heap.size 3 1 vo x.offs.length (intCells x.offs)):=fun W hb hrd=>(HV.out W hb hrd).mono fun e w' h=>by
            obtain⟨h1,h2⟩:=h
            dsimp only at h2
            rw[x4] at h2
            obtain⟨vo,a1,a2,a3,a4⟩:=h2
            exact⟨h1,vo,a1,a2,a3,own_mono a4 (by have:=hb.size;have:=hr.out.1.keep.size;show p.w.heap.size≤W.heap.size+2;omega)⟩
          have X4:=hid x4
          clear x4 HV
          go_upto_region 4 with fail
          go_cut [] (fun wx=>∃vo vr',Hid (Rns p wx r4 vr' (acc++[(x,vo)]) ob))
          case first=>
           go_region_law (first
            | (refine step_append_lies _ rfl (.tmp 16) (.tmp 20) 157 rfl p.w.heap.size 164 i0 (.agg #[.int .i64 0,.slice none 0 0,.int .i64 0]) 3 40 Tryz.underlying157 hi hz0 hz1 hz2 rfl (by decide) (.slice ya acc.length yc) acc.length (runCells acc) rfl (World.ownsRow.alloc K6.out.1.row _) ⟨w6.heap.size,0,none⟩ 1 1 [.int .i64 x.step,.slice vb x.offs.length vc,.int .i64 x.first] rfl rfl (World.news_of_block (cs:=#[.int .i64 x.step,.slice vb x.offs.length vc,.int .i64 x.first]) (new_at (by simp;done))) (by intro u hu;simp at hu;rcases hu with rfl | rfl | rfl<;>rfl) (by decide) (by unfold maxLen;omega) (by omega) (by simp;have:=K6.out.1.keep.size;omega) _ rfl ?_;intro g2 cap2 w7 ow2 gr2 hat hlt3;obtain⟨a4,af,hp⟩:=Rns.push (x:=(x,.slice vb x.offs.length vc)) K6.out.1 HO.out K6.out.2 gr2 ow2;have K7:=hid hp;clear ow2 gr2 hat hlt3 hp)
            | (go_simp;go_at_call 189;refine (HW.out _ (by exact (But.refl _ _).drew1) (by exact hr.out.1.rd)).mono ?_;rintro e w6 ⟨hb,vo,rfl,hr6,hle6,hxo⟩;obtain⟨vb,vc,rfl⟩:=own_slice hxo;have K6:=hid (And.intro (hr.out.1.on HO.out (by exact But.trans (But.drew1 (But.refl _ _)) hb) hr6 hle6) hxo);clear hb hr6 hle6 hxo;obtain⟨-,-,-,-,-,u5,uf⟩:=eng_cells K6.out.1.eng;have hg6:=lt_of_block K6.out.1.eng))
           all_goals (go_wp2;go_meet;case rel=>exact⟨_,_,K7⟩)
          case rest=>
            obtain⟨vo,vr',K7⟩:=hcut
            have hlen2:(acc++[(x,vo)]).length=acc.length+1:=by simp
            obtain⟨ra,rcap,rfl⟩:=own_slice K7.out.row
            obtain⟨-,-,-,-,-,q5,-⟩:=eng_cells K7.out.eng
            have rc1:=K7.out.rd.c1
            have HR:=hid K7.out.runs
            rw[hlen2] at q5 HR
            by_cases ha:acc=[]
            · have HN:Hid (Fr.rdRuns p.steps p.win p.nx p.wm p.Q r=Fr.rdRns p.steps p.win p.nx p.wm p.Q (n - (acc.length+1)) ((acc++[(x,vo)]).map Prod.fst) r4):=by
                show _=_
                rw[hr.out.2,show n - acc.length=(n - (acc.length+1))+1 by omega,Fr.rdRns,X4.out]
                simp only[]
                rw[if_pos (by rw[ha];rfl),List.map_append]
                rfl
              clear HR
              generalize hN:acc.length=N at *
              obtain rfl:N=0:=by rw[← hN,ha];rfl
              clear ha
              go_wp2
              refine wp_region_any (by kernel_rfl) ?_
              change wpAny _ _ _ _ _ _ _ (World.drew _)
              refine wpAny_take (i:=0) (v:=.pointer (some ⟨p.b,0,none⟩)) rfl (by kernel_rfl) (by kernel_rfl) (by kernel_rfl) (fun _ _ _ h=>h) (Or.inl ⟨by rfl,fun w=>by first | rfl | (go_simp;done)⟩) ?_
              refine wpAny_take (i:=1) (v:=.int .i64 ((0:Nat):Int)) rfl (by kernel_rfl) (by kernel_rfl) (by kernel_rfl) (fun _ _ _ h=>h) (Or.inl ⟨by rfl,fun w=>by first | rfl | (go_simp;done)⟩) ?_
              go_simp
              refine wpAny_take (i:=2) (v:=.bool true) rfl (by kernel_rfl) (by kernel_rfl) (by kernel_rfl) (fun _ _ _ h=>h) (Or.inl ⟨by rfl,fun w=>by first | rfl | (go_simp;done)⟩) ?_
              refine wpAny_take (i:=3) (v:=.bool true) rfl (by kernel_rfl) (by kernel_rfl) (by kernel_rfl) (fun _ _ _ h=>h) (Or.inl ⟨by rfl,fun w=>by first | rfl | (go_simp;done)⟩) ?_
              go_simp
              refine wpAny_take (i:=4) (v:=undef) rfl (by kernel_rfl) (by kernel_rfl) (by kernel_rfl) (fun _ _ _ h=>h) (Or.inr ⟨by rfl,rfl⟩) ?_
              refine wpAny_take (i:=5) (v:=undef) rfl (by kernel_rfl) (by kernel_rfl) (by kernel_rfl) (fun _ _ _ h=>h) (Or.inr ⟨by rfl,rfl⟩) ?_
              go_simp
              refine wpAny_take (i:=6) (v:=undef) rfl (by kernel_rfl) (by kernel_rfl) (by kernel_rfl) (fun _ _ _ h=>h) (Or.inr ⟨by rfl,rfl⟩) ?_
              refine wpAny_take (i:=7) (v:=undef) rfl (by kernel_rfl) (by kernel_rfl) (by kernel_rfl) (fun _ _ _ h=>h) (Or.inr ⟨by rfl,rfl⟩) ?_
              go_simp
              refine wpAny_take (i:=8) (v:=undef) rfl (by kernel_rfl) (by kernel_rfl) (by kernel_rfl) (fun _ _ _ h=>h) (Or.inr ⟨by rfl,rfl⟩) ?_
              refine wpAny_take (i:=9) (v:=undef) rfl (by kernel_rfl) (by kernel_rfl) (by kernel_rfl) (fun _ _ _ h=>h) (Or.inr ⟨by rfl,rfl⟩) ?_
              go_simp
              refine wpAny_take (i:=10) (v:=undef) rfl (by kernel_rfl) (by kernel_rfl) (by kernel_rfl) (fun _ _ _ h=>h) (Or.inr ⟨by rfl,rfl⟩) ?_
              refine wpAny_take (i:=11) (v:=undef) rfl (by kernel_rfl) (by kernel_rfl) (by kernel_rfl) (fun _ _ _ h=>h) (Or.inr ⟨by rfl,rfl⟩) ?_
              go_simp
              refine wpAny_take (i:=12) (v:=undef) rfl (by kernel_rfl) (by kernel_rfl) (by kernel_rfl) (fun _ _ _ h=>h) (Or.inr ⟨by rfl,rfl⟩) ?_
              refine wpAny_take (i:=13) (v:=undef) rfl (by kernel_rfl) (by kernel_rfl) (by kernel_rfl) (fun _ _ _ h=>h) (Or.inr ⟨by rfl,rfl⟩) ?_
              go_simp
              refine wpAny_take (i:=14) (v:=undef) rfl (by kernel_rfl) (by kernel_rfl) (by kernel_rfl) (fun _ _ _ h=>h) (Or.inr ⟨by rfl,rfl⟩) ?_
              refine wpAny_take (i:=15) (v:=undef) rfl (by kernel_rfl) (by kernel_rfl) (by kernel_rfl) (fun _ _ _ h=>h) (Or.inr ⟨by rfl,rfl⟩) ?_
              go_simp
              refine wpAny_take (i:=16) (v:=undef) rfl (by kernel_rfl) (by kernel_rfl) (by kernel_rfl) (fun _ _ _ h=>h) (Or.inr ⟨by rfl,rfl⟩) ?_
              refine wpAny_take (i:=17) (v:=undef) rfl (by kernel_rfl) (by kernel_rfl) (by kernel_rfl) (fun _ _ _ h=>h) (Or.inr ⟨by rfl,rfl⟩) ?_
              go_simp
              refine wpAny_take (i:=18) (v:=undef) rfl (by kernel_rfl) (by kernel_rfl) (by kernel_rfl) (fun _ _ _ h=>h) (Or.inr ⟨by rfl,rfl⟩) ?_
              refine wpAny_take (i:=19) (v:=undef) rfl (by kernel_rfl) (by kernel_rfl) (by kernel_rfl) (fun _ _ _ h=>h) (Or.inr ⟨by rfl,rfl⟩) ?_
              go_simp
              refine wpAny_take (i:=20) (v:=undef) rfl (by kernel_rfl) (by kernel_rfl) (by kernel_rfl) (fun _ _ _ h=>h) (Or.inr ⟨by rfl,rfl⟩) ?_
              refine wpAny_take (i:=21) (v:=undef) rfl (by kernel_rfl) (by kernel_rfl) (by kernel_rfl) (fun _ _ _ h=>h) (Or.inr ⟨by rfl,rfl⟩) ?_
              go_simp
              refine wpAny_take (i:=22) (v:=.bool true) rfl (by kernel_rfl) (by kernel_rfl) (by kernel_rfl) (fun _ _ _ h=>h) (Or.inl ⟨by rfl,fun w=>by first | rfl | (go_simp;done)⟩) ?_
              refine wpAny_ready (rs:=[23]) (by kernel_rfl) (by simp) ?_
              refine AllReady.cons rfl (fun K hK=>?_) AllReady.nil
              go_simp
              refine (fNeed_true p.b _ _).mono ?_
              rintro e w8 ⟨rfl,hw⟩
              subst hw
              refine hK _ _ ?_
              refine wpAny_done (by kernel_rfl) ?_ _
              have K8:=hid (K7.out.on HO.out (W':=wc.drew) (But.drew1 (But.refl _ _)) (by exact K7.out.rd) K7.out.le)
              go_wp2
              go_roundw
              case rel=>exact⟨0+1,acc++[(x,vo)],r4,_,by omega,by go_num,hlen2,K8.out,HN.out⟩
              case measure=>simp[intOf];omega
            · obtain⟨q,hq⟩:∃q,acc.length=q+1:=⟨acc.length - 1,by have:=List.length_pos_iff.2 ha;omega⟩
              obtain⟨rb,ro,rfl,rlt,y0,y1,y2⟩:=HR.out.get (i:=q) (by rw[hlen2];omega)
              obtain⟨rb',ro',he',-,x0,x1,x2⟩:=HR.out.get (i:=acc.length) (by rw[hlen2];omega)
              cases he'
              obtain⟨y,hy⟩:∃y,acc[q]'(by omega)=y:=⟨_,rfl⟩
              have hym:y∈acc:=by rw[← hy];exact List.getElem_mem _
              have g1:(acc++[(x,vo)])[acc.length]'(by rw[hlen2];omega)=(x,vo):=by simp
              have g2:(acc++[(x,vo)])[q]'(by rw[hlen2];omega)=y:=by rw[← hy];exact List.getElem_append_left _
              rw[g1] at x0 x1 x2
              rw[g2] at y0 y1 y2
              have HLA:Hid (acc.map Prod.fst≠[]∧(acc.map Prod.fst).getLast?=some y.1):=by
                refine⟨by simpa using ha,?_⟩
                rw[List.getLast?_eq_getElem?,List.length_map,hq,Nat.add_sub_cancel,List.getElem?_map,List.getElem?_eq_getElem (by omega),hy]
                rfl
              have HC:Hid (∀W,Below wc.heap.size wc W→Calls Tryz.prog 254 #[rval y,rval (x,vo),.pointer (some ⟨ob,0,none⟩)] W fun e w'=>e=.returned (.int .i64 (En.cmpR y.1 x))∧Below W.heap.size W w'):=fun W hW=>by
                have h1:=RowAt.below (RowAt.ofOwn (K7.out.offs y (List.mem_append_left _ hym))) hW
                have h2:=RowAt.below (RowAt.ofOwn (K7.out.offs (x,vo) (by simp))) hW
                exact inTurn1_any _ _ ob y (x,vo) W (K7.out.ord.at.below hW) h1 h2
              obtain⟨ay,cy,hvy⟩:=own_slice (K7.out.offs y (List.mem_append_left _ hym))
              obtain⟨ax,cx,hvx⟩:=own_slice (K7.out.offs (x,vo) (by simp))
              dsimp only [rval] at HC x0 x1 x2 hvx
              rw[hvy] at HC y1
              rw[hvx] at HC x1
              clear g1 g2 hy hym ha HR
              generalize hN:acc.length=N at *
              subst hq
              have ej:((q+1:Nat):Int)=(q:Int)+1:=by omega
              have h0:((q:Int)+1 == 0)=false:=by rw[beq_eq_false_iff_ne];omega
              have hq0:(0:Int)≤(q:Int)+1:=by omega
              have hq1:(0:Int)≤(q:Int):=by omega
              have hq2:(q:Int) < (q:Int)+1+1:=by omega
              have hq3:(q:Int)+1 < (q:Int)+1+1:=by omega
              have hw2:IntKind.i64.wrap (q:Int)=q:=wrap_small (by omega) (by omega)
              have hw1:IntKind.i64.wrap ((q:Int)+1 - 1)=q:=by rw[show (q:Int)+1 - 1=q by omega];exact hw2
              rw[ej]
              go_wp2
              cases hc:decide (En.cmpR y.1 x < 0)
              · have HN:Hid (Fr.rdRuns p.steps p.win p.nx p.wm p.Q r=none):=by
                  show _=_
                  rw[hr.out.2,show n - (q+1)=(n - (q+1) - 1)+1 by omega,Fr.rdRns,X4.out]
                  simp only[]
                  rw[Fr.okRn_some _ _ _ HLA.out.2,hc,if_neg (by simp)]
                go_region_held2 (fun W=>W.cell? ⟨p.eb,5,none⟩=some (.slice (some ⟨rb,ro,none⟩) (q+1+1) rcap)∧W.cell? ⟨rb,ro+q * 3,none⟩=some (.int .i64 y.1.step)∧W.cell? ⟨rb,ro+q * 3+1,none⟩=some (.slice ay y.1.offs.length cy)∧W.cell? ⟨rb,ro+q * 3+2,none⟩=some (.int .i64 y.1.first)∧W.cell? ⟨rb,ro+(q+1) * 3,none⟩=some (.int .i64 x.step)∧W.cell? ⟨rb,ro+(q+1) * 3+1,none⟩=some (.slice ax x.offs.length cx)∧W.cell? ⟨rb,ro+(q+1) * 3+2,none⟩=some (.int .i64 x.first)) (go_keep) (first
                  | (go_at_call 254;refine (HC.out _ (by first | exact bel_drewN (Below.refl _ _) _ | exact Below.drew (Below.refl _ _) | exact Below.refl _ _)).mono ?_;rintro e w8 ⟨rfl,hb⟩;have hb':Below wc.heap.size wc w8:=Below.trans (by first | exact bel_drewN (Below.refl _ _) _ | exact Below.drew (Below.refl _ _) | exact Below.refl _ _) hb;have K8:=hid (K7.out.on HO.out (But.ofBelow hb') (K7.out.rd.below hb') K7.out.le);obtain⟨-,-,-,-,-,z9,-⟩:=eng_cells K8.out.eng;rw[hlen2] at z9;have z0:=(cell_bel hb' ⟨rb,ro+q * 3,none⟩ rlt).trans y0;have z1:=(cell_bel hb' ⟨rb,ro+q * 3+1,none⟩ rlt).trans y1;have z2:=(cell_bel hb' ⟨rb,ro+q * 3+2,none⟩ rlt).trans y2;have z3:=(cell_bel hb' ⟨rb,ro+(q+1) * 3,none⟩ rlt).trans x0;have z4:=(cell_bel hb' ⟨rb,ro+(q+1) * 3+1,none⟩ rlt).trans x1;have z5:=(cell_bel hb' ⟨rb,ro+(q+1) * 3+2,none⟩ rlt).trans x2;have rc8:=K8.out.rd.c1;clear hb hb')
                  | (go_at_call_of 113 (Value.bool false);refine (fNeed_false p.b _ _ _ rc8).mono ?_;rintro e w9 ⟨rfl,hw⟩;have hw':=hw.symm;subst hw';refine ended_hereF (by assumption) ⟨#[],[]⟩ w8 (by show _∧_;exact⟨rfl,K8.out.keep,by rw[HN.out];exact⟨_,_,rfl⟩⟩) (fun hfls=>?_)))
                exact hfls.elim
              · have HN:Hid (Fr.rdRuns p.steps p.win p.nx p.wm p.Q r=Fr.rdRns p.steps p.win p.nx p.wm p.Q (n - (q+1+1)) ((acc++[(x,vo)]).map Prod.fst) r4):=by
                  show _=_
                  rw[hr.out.2,show n - (q+1)=(n - (q+1+1))+1 by omega,Fr.rdRns,X4.out]
                  simp only[]
                  rw[Fr.okRn_some _ _ _ HLA.out.2,hc,if_pos rfl,List.map_append]
                  rfl
                go_region_held3 (fun W=>W.cell? ⟨p.eb,5,none⟩=some (.slice (some ⟨rb,ro,none⟩) (q+1+1) rcap)∧W.cell? ⟨rb,ro+q * 3,none⟩=some (.int .i64 y.1.step)∧W.cell? ⟨rb,ro+q * 3+1,none⟩=some (.slice ay y.1.offs.length cy)∧W.cell? ⟨rb,ro+q * 3+2,none⟩=some (.int .i64 y.1.first)∧W.cell? ⟨rb,ro+(q+1) * 3,none⟩=some (.int .i64 x.step)∧W.cell? ⟨rb,ro+(q+1) * 3+1,none⟩=some (.slice ax x.offs.length cx)∧W.cell? ⟨rb,ro+(q+1) * 3+2,none⟩=some (.int .i64 x.first)) (go_keep) (first
                  | (go_at_call 254;refine (HC.out _ (by first | exact bel_drewN (Below.refl _ _) _ | exact Below.drew (Below.refl _ _) | exact Below.refl _ _)).mono ?_;rintro e w8 ⟨rfl,hb⟩;have hb':Below wc.heap.size wc w8:=Below.trans (by first | exact bel_drewN (Below.refl _ _) _ | exact Below.drew (Below.refl _ _) | exact Below.refl _ _) hb;have K8:=hid (K7.out.on HO.out (But.ofBelow hb') (K7.out.rd.below hb') K7.out.le);obtain⟨-,-,-,-,-,z9,-⟩:=eng_cells K8.out.eng;rw[hlen2] at z9;have z0:=(cell_bel hb' ⟨rb,ro+q * 3,none⟩ rlt).trans y0;have z1:=(cell_bel hb' ⟨rb,ro+q * 3+1,none⟩ rlt).trans y1;have z2:=(cell_bel hb' ⟨rb,ro+q * 3+2,none⟩ rlt).trans y2;have z3:=(cell_bel hb' ⟨rb,ro+(q+1) * 3,none⟩ rlt).trans x0;have z4:=(cell_bel hb' ⟨rb,ro+(q+1) * 3+1,none⟩ rlt).trans x1;have z5:=(cell_bel hb' ⟨rb,ro+(q+1) * 3+2,none⟩ rlt).trans x2;have rc8:=K8.out.rd.c1;clear hb hb')
                  | (go_at_call_of 113 (Value.bool true);refine (fNeed_true p.b _ _).mono ?_;rintro e w9 ⟨rfl,hw⟩;have hw':=hw.symm;subst hw'))
                go_wp2
                go_roundw
                case rel=>exact⟨q+1+1,acc++[(x,vo)],r4,_,by omega,by go_num,hlen2,K8.out,HN.out⟩
                case measure=>simp[intOf];omega
      · obtain rfl:acc.length=n:=by omega
        have HQ:Hid (Fr.rdRuns p.steps p.win p.nx p.wm p.Q r=some (acc.map Prod.fst,rr)):=by
          show _=_
          rw[hr.out.2,Nat.sub_self,Fr.rdRns]
        go_wp2
        go_end0
        refine⟨hr.out.1.keep,?_⟩
        rw[HQ.out]
        exact⟨rfl,_,acc,ob,rfl,hr.out.1⟩
end Go.Proofs.YtfldcmdhneegmaaGreatDoor

import Derived.Lib.ConvBytes
import Derived.Test.YtfldcmdhneegmaaGreatDoorY46
import Derived.Test.YtfldcmdhneegmaaGreatDoorY47
set_option maxHeartbeats 4000000
set_option maxRecDepth 1000000
namespace Go.Proofs.YtfldcmdhneegmaaGreatDoor
open Go.RowKit Go.Lib
theorem bytesWorld_below (w:World)(e:TypeId)(s:ByteArray):Below w.heap.size w (bytesWorld w e s):=
 ⟨rfl,rfl,rfl,by rw[bytesWorld_size];omega,fun i hi=>bytesWorld_at_old w e s i hi⟩
theorem bytes_of_text (w:World)(l:List UInt8)(hl:l.length≤1000000):BytesAt (fun x=>x=w.heap.size) (bytesWorld w 5 ⟨l.toArray⟩) (.slice (some ⟨w.heap.size,0,none⟩) l.length (grownCap w l.length 0 5)) l:=by
 have hs:(⟨l.toArray⟩:ByteArray).size=l.length:=by simp[ByteArray.size]
 refine⟨by simp[byteCells],Or.inr ⟨w.heap.size,0,_,rfl,rfl,by rw[bytesWorld_size];omega,grownCap_ge w _ _ _,grownCap_le_maxLen w _ _ _ (by unfold maxLen;omega),fun j u hj=>?_⟩⟩
 have hjl:j < l.length:=by
  have:=(List.getElem?_eq_some_iff.1 hj).1
  simpa [byteCells] using this
 have:=bytesWorld_cell w 5 ⟨l.toArray⟩ j (by rw[hs];exact hjl)
 simp[byteCells,hjl] at hj
 subst hj
 simp only[Nat.zero_add]
 rw[this]
 simp[hjl]
theorem own_text {w:World}{base:Nat}{v:Value}{l:List UInt8}(h:w.ownsRow base 5 1 v l.length (byteCells l))(h0:0 < l.length):(convert 25 9 v).run Tryz.prog w=.ok (.string ⟨l.toArray⟩) w:=by
 have hv:BytesAt (fun _=>True) w v l:=(RowAt.ofOwn h).mono (fun _ _ _=>trivial)
 refine hv.text ?_
 intro e
 subst e
 obtain⟨ao,cap,he⟩:=own_slice h
 injection he with h1 h2 h3
 omega
end Go.Proofs.YtfldcmdhneegmaaGreatDoor
namespace Go.Proofs.YtfldcmdhneegmaaGreatDoor
namespace En
theorem put_last {l:List Rn}{r:Rn}(h:∀y∈l,lt y r=true):put l r=l++[r]:=by
 induction l with
 | nil=>rfl
 | cons x t ih=>
  have hx:=h x List.mem_cons_self
  have hk:¬ sameKey x r=true:=fun hk=>by
   obtain⟨h1,h2⟩:=sameKey_iff.1 hk
   have h3:=lt_irrefl x
   unfold lt at hx h3
   rw[← h1,← h2] at hx
   rw[hx] at h3
   cases h3
  rw[put,if_neg hk,if_pos hx,ih (fun y hy=>h y (List.mem_cons_of_mem _ hy))]
  rfl
theorem ord_last {l:List Rn}{r:Rn}{m:List Rn}(h:Ord (l++r::m)):∀y∈l,lt y r=true:=by
 induction l with
 | nil=>intro y hy;cases hy
 | cons x t ih=>
  intro y hy
  rcases List.mem_cons.1 hy with rfl | hy
  ·exact h.1 r (by simp)
  ·exact ih h.2 y hy
theorem puts_ord:∀(m l:List Rn),Ord (l++m)→puts l m=l++m:=by
 intro m
 induction m with
 | nil=>intro l _;simp[puts]
 | cons r m ih=>
  intro l h
  show puts (put l r) m=_
  rw[put_last (ord_last h)]
  have e:l++r::m=(l++[r])++m:=by simp
  rw[e] at h ⊢
  exact ih _ h
theorem under_old {P:Pat}{old:List Rn}{W:Int}(ho:Ord old)(hl:∀r∈old,far W r.first < P.win):under P [] old W (P.win - 1)=old:=by
 have hf:old.filter (fun r=>decide (0≤P.win - 1∧far W r.first≤P.win - 1))=old:=by
  rw[List.filter_eq_self]
  intro r hr
  have h1:=hl r hr
  have h2:0≤far W r.first:=by unfold far;omega
  exact decide_eq_true ⟨by omega,by omega⟩
 unfold under
 rw[hf]
 exact puts_ord old [] ho
end En
open Go.RowKit Go.Lib
theorem SdIn.saves {F1 F2:Nat→Prop}{w:World}{cb sb eb rb pb:Nat}{P:En.Pat}{W Next:Int}{vs vq vr vp vw vd vo:Value}{Q R:List En.Ev}{A old:List RV}{K:Nat}{T:Int→Int}(h:SdIn F1 F2 w cb sb eb rb pb P W Next vs vq vr vp vw vd vo Q R A old K T)(hn:Next≤100000) :
  SvOk P W Next Q (A.map Prod.fst)∧SvT P W Next R (old.map Prod.fst)∧En.stateB (Pl.text P.steps P.win) W Next Q (A.map Prod.fst)=En.stateB (Pl.text P.steps P.win) W Next R (old.map Prod.fst)∧10≤(frB P W Next R (old.map Prod.fst)).length∧(frB P W Next R (old.map Prod.fst)).length≤8010∧En.under P [] (old.map Prod.fst) W (P.win - 1)=old.map Prod.fst:=by
 have hx:=h.px
 have hp:=h.pw
 have hwm:=hx.wm
 obtain⟨h1,-⟩:=svOk_of hx.fine hp hx.v h.hp h.perm hn (by omega)
 obtain⟨h2,h3⟩:=svOk_of hx.fine hp hx.v (Q:=En.sortEv R) (En.sortEv_ord R).heap (En.sortEv_perm R) hn (by omega)
 obtain⟨h4,h5⟩:=frB_len hx.fine hp hx.v hn (by omega)
 have e1:=stateB_perm (text:=Pl.text P.steps P.win) (W:=W) (Next:=Next) (B:=old.map Prod.fst) h.perm hp.apt
 have e2:=stateB_perm (text:=Pl.text P.steps P.win) (W:=W) (Next:=Next) (B:=old.map Prod.fst) (En.sortEv_perm R) hp.apt
 rw[e2] at h3
 rw[h.same]
 exact⟨h1,⟨hx.fine,hp.q12,fun e he=>h2.evs e ((En.sortEv_perm R).mem_iff.2 he),h2.w0,h2.w1,h2.n0,h2.n1,h2.run,by omega⟩,e1,h4,h5,En.under_old hp.ord hx.z.lasts⟩
theorem blk_setU {w:World}{g i:Nat}{cur:Array Value}{t:TypeId}{fz:Nat × Nat}(h:w.heap[g]?=some (.cells cur t fz))(u:Value):∃cur',(w.setCell ⟨g,i,none⟩ u).heap[g]?=some (.cells cur' t fz)∧cur'.size=cur.size:=by
 have hlt:=lt_of_block h
 have h':w.heap[g]=.cells cur t fz:=by simpa [Array.getElem?_eq_getElem hlt] using h
 refine⟨cur.setIfInBounds i u,?_,by simp⟩
 show (w.heap.modify g _)[g]?=_
 rw[Array.getElem?_eq_getElem (by simpa using hlt),Array.getElem_modify_self,h']
 rfl
theorem blk_cellU {w:World}{g i N:Nat}{cur:Array Value}{t:TypeId}(h:w.heap[g]?=some (.cells cur t (N,N+1)))(hi:i < cur.size)(hN:cur.size≤N):(∃x,w.cell? ⟨g,i,none⟩=some x)∧w.frozen? ⟨g,i,none⟩=false:=by
 refine⟨⟨cur[i],?_⟩,?_⟩
 ·simp[World.cell?,h,hi]
 ·simp only[World.frozen?,h]
  simp
  omega
theorem own_someU {w:World}{base:Nat}{e:TypeId}{v:Value}{n:Nat}{xs:List Value}(h:w.ownsRow base e 1 v n xs)(hn:0 < n):∃g c,v=.slice (some ⟨g,0,none⟩) n c∧base≤g:=by
 rcases h.2 with ⟨-,h0⟩ | ⟨g,cap,cur,hv,hb,-⟩
 ·omega
 ·exact⟨g,cap,hv,hb⟩
theorem SdIn.loaded {F1 F2 G2:Nat→Prop}{w wr:World}{cb sb eb rb pb sb2 eb2 n:Nat}{P:En.Pat}{W Next:Int}{vs vq vr vp vw vd vo:Value}{Q R:List En.Ev}{A old:List RV}{K:Nat}{T:Int→Int}(h0:SdIn F1 F2 w cb sb eb rb pb P W Next vs vq vr vp vw vd vo Q R A old K T)(hb:Below w.heap.size w wr)(hG:GAt G2 wr sb2 eb2 P W Next R (old.map Prod.fst) K T)(hg:∀b,G2 b→w.heap.size≤b)(hN:Next≤n)(hK:K≤12 * n) :
  ∃G',SdAt G' (wr.setCell ⟨cb,0,none⟩ (.pointer (some ⟨sb2,0,none⟩))) cb (n+1)∧(∀b,G' b→SdG F1 F2 cb sb rb vw b∨w.heap.size≤b)∧Moved (SdG F1 F2 cb sb rb vw) w (wr.setCell ⟨cb,0,none⟩ (.pointer (some ⟨sb2,0,none⟩))):=by
 have gsb:=hG.in2.1
 obtain⟨F,vs2,vq2,vr2,Q2,A2,g1,g2,g3⟩:=hG
 have h:=h0.below hb
 have lcb:=lt_of_block h0.blk
 have lrb:=lt_of_block h0.re.blk
 have gF:∀b,F b→w.heap.size≤b:=fun b hF=>hg b ((g3 b).2 (Or.inl hF))
 have ls2:=hg sb2 gsb
 obtain⟨n1,n2,n3,n4⟩:=h0.ne
 have fr:∀b,b≠cb→(wr.setCell ⟨cb,0,none⟩ (.pointer (some ⟨sb2,0,none⟩))).heap[b]?=wr.heap[b]?:=fun b hb=>Below.heap_setCell _ _ _ _ hb
 have hsz:(wr.setCell ⟨cb,0,none⟩ (.pointer (some ⟨sb2,0,none⟩))).heap.size=wr.heap.size:=by simp
 refine⟨SdG F F2 cb sb2 rb vw,⟨F,F2,sb2,eb2,rb,pb,P,W,Next,vs2,vq2,vr2,vp,vw,vd,vo,Q2,R,A2,old,K,T,⟨(blk_setF h.blk _).1,?_,?_,?_,g1.hp,g1.perm,g2,h0.pw,?_,?_,⟨h0.d2.1,fun e=>by have:=h0.re.lt _ e;omega⟩,h0.px⟩,fun b=>Iff.rfl,by omega,by omega⟩,?_,?_⟩
 ·exact (fr sb2 (by omega)).trans g1.sblk
 ·exact g1.pe.frame (by rw[hsz];exact Nat.le_refl _) (fun b _ hF=>fr b (by have:=gF b hF;omega))
 ·exact h.re.frame (by rw[hsz];exact Nat.le_refl _) (fun b _ hF=>fr b (fun e=>by rw[e] at hF;exact h0.d2.1 hF)) (fr rb n1) (fun g hg=>fr g (fun e=>by rw[e] at hg;exact n3 hg))
 ·intro b hF
  rw[hsz]
  exact g1.lt b hF
 ·intro b hF
  have:=gF b hF
  exact⟨fun e=>by have:=h0.re.lt b e;omega,by omega,fun e=>by rw[e] at hF;exact g1.ns hF,by omega,fun e=>by have:=(h0.re.wait.lt b e).2;omega⟩
 ·rintro b (hF | hF | hF | hF | hF | hF)
  ·exact Or.inr (gF b hF)
  ·exact Or.inl (Or.inr (Or.inl hF))
  ·exact Or.inl (Or.inr (Or.inr (Or.inl hF)))
  ·exact Or.inr (by omega)
  ·exact Or.inl (Or.inr (Or.inr (Or.inr (Or.inr (Or.inl hF)))))
  ·exact Or.inl (Or.inr (Or.inr (Or.inr (Or.inr (Or.inr hF)))))
 ·exact⟨hb.os,hb.tape,hb.output,by rw[hsz];exact hb.size,fun k hk hn=>(fr k (fun e=>hn (Or.inr (Or.inr (Or.inl e))))).trans (hb.block k hk)⟩
theorem row_ints (b:List UInt8):byteCells b=(b.map fun x=>(x.toNat:Int)).map fun z=>Value.int .u8 z:=by
 simp[byteCells]
def RowU (w:World)(base g c n:Nat):Prop:=∃zs:List Int,zs.length=n∧w.ownsRow base 5 1 (.slice (some ⟨g,0,none⟩) n c) n (zs.map fun z=>Value.int .u8 z)
theorem RowU.set {w:World}{base g c n i:Nat}(h:RowU w base g c n)(x:Int):RowU (w.setCell ⟨g,i,none⟩ (.int .u8 x)) base g c n:=by
 obtain⟨zs,h1,h2⟩:=h
 have h3:=own_write h2 i (.int .u8 x)
 refine⟨zs.set i x,by simpa using h1,?_⟩
 rw[List.map_set]
 exact h3
theorem RowU.cell {w:World}{base g c n i:Nat}(h:RowU w base g c n)(hi:i < n):∃z:Int,w.cell? ⟨g,i,none⟩=some (.int .u8 z)∧w.frozen? ⟨g,i,none⟩=false:=by
 obtain⟨zs,h1,h2⟩:=h
 refine⟨zs[i]'(by omega),?_,?_⟩
 ·rw[h2.cellAt i (by omega)]
  simp[h1,hi]
 ·rcases h2.2 with ⟨he,-⟩ | ⟨g',cap',cur,he,-,hg,-⟩
  ·cases he
  ·cases he
   simp[World.frozen?,hg]
theorem step_save (G:Nat→Prop)(cb n:Nat)(two:Bool)(kind t:Int)(w:World)(h:SdAt G w cb n)(hn:n≤5000)(hT:Pow10 w) :
  Calls Tryz.prog 31 #[.pointer (some ⟨cb,0,none⟩),.agg #[.int .i64 3,.bool two,.int .i32 kind,.int .i64 t]] w (StepEnd G cb n w):=by
 obtain⟨F1,F2,sb,eb,rb,pb,P,W,Next,vs,vq,vr,vp,vw,vd,vo,Q,R,A,old,K,T,h1,h2,h3,h4⟩:=h
 have hal:=(Below.refl w.heap.size w).alloc (Nat.le_refl _) (.cells #[.int .i64 3,.bool two,.int .i32 kind,.int .i64 t] 65)
 have hnew:(w.alloc (.cells #[.int .i64 3,.bool two,.int .i32 kind,.int .i64 t] 65)).heap[w.heap.size]?=some (.cells #[.int .i64 3,.bool two,.int .i32 kind,.int .i64 t] 65 (0,0)):=heap_alloc_new w _
 generalize hW1:w.alloc (.cells #[.int .i64 3,.bool two,.int .i32 kind,.int .i64 t] 65)=W1 at hal hnew
 obtain⟨x0,x1,x2,x3⟩:=four_cl hnew
 have lN:=lt_of_block hnew
 have hS:=h1.below hal
 obtain⟨c0,c1,lc⟩:=hS.cells
 obtain⟨v1,v2,v3,v4,v5,v6⟩:=h1.saves (by omega)
 have HSB:Hid (∀V,Below W1.heap.size W1 V→SdIn F1 F2 V cb sb eb rb pb P W Next vs vq vr vp vw vd vo Q R A old K T):=fun V hV=>hS.below hV
 have HSv:Hid (∀V,Below W1.heap.size W1 V→Calls Tryz.prog 13 #[.pointer (some ⟨sb,0,none⟩)] V fun e w'=>∃v,e=.returned v∧Hid (w'.ownsRow V.heap.size 5 1 v (frB P W Next R (old.map Prod.fst)).length (byteCells (frB P W Next R (old.map Prod.fst)))∧Below V.heap.size V w')):=fun V hV=>by
  have hV':=HSB.out V hV
  refine (sSave_any F1 sb eb P W Next vs vq vr Q A V hV'.sblk hV'.pe v1 (hT.below (hal.trans (hV.mono hal.size)))).mono ?_
  rintro e w' ⟨v,rfl,ho,hb⟩
  rw[v3] at ho
  exact⟨v,rfl,ho,hb⟩
 have HRv:Hid (∀V,Below W1.heap.size W1 V→Calls Tryz.prog 39 #[.pointer (some ⟨rb,0,none⟩)] V fun e w'=>e=.returned (.string ⟨(frB P W Next R (old.map Prod.fst)).toArray⟩)∧Below V.heap.size V w'):=fun V hV=>by
  have hp:=h1.pw
  exact rSave_any F2 rb pb P W Next vp vw vd vo R [] old (old.map Prod.fst) V (HSB.out V hV).re ⟨hp.w0,hp.w1,hp.s4,by simp,by simpa using hp.b24,fun x hx=>by have:=hp.ofl _ (List.mem_map_of_mem hx);omega⟩ v6 v2
 have HAL:=hid hal
 have H2:=hid (And.intro h2 (And.intro h3 h4))
 obtain⟨fb,hfb⟩:∃fb,frB P W Next R (old.map Prod.fst)=fb:=⟨_,rfl⟩
 rw[hfb] at HSv HRv v4 v5
 clear h1 h2 h3 h4 hS hal v1 v2 v3 v6 hT hnew
 go_enter Tryz.func31,Tryz.ntmps31
 go_wp2_with (go_at_call 13;fail)
 refine (HSv.out _ (by first | exact bel_drewN (Below.refl _ _) _ | exact Below.drew (Below.refl _ _) | exact Below.refl _ _)).mono ?_
 rintro e w1 ⟨vb,rfl,ho⟩
 have B1:=hid ho.out.2
 have hw1:=ho.out.2.size
 obtain⟨g,gc,rfl,hgb⟩:=own_someU ho.out.1 (by omega)
 have HO1:=hid ho.out.1
 clear ho c0
 have c1':=(HSB.out w1 B1.out).cells.2.1
 clear c1
 go_wp2_with (go_at_call 39;fail)
 refine (HRv.out _ B1.out).mono ?_
 rintro e w2 ⟨rfl,hb2⟩
 have B2:=hid (B1.out.trans (hb2.mono B1.out.size))
 have HO2:=hid (own_below HO1.out hb2)
 have tx:=own_text HO2.out (by omega)
 clear hb2 c1' HO1 B1 HSv HRv
 go_wp2
 have HR2:Hid (RowU w2 W1.heap.size g gc fb.length):=⟨fb.map fun x=>(x.toNat:Int),by simp,by rw[← row_ints];exact own_mono HO2.out (by first | exact Nat.le_refl _ | (simp;done) | omega)⟩
 clear tx HO2 x1 x2 x3
 go_loopw [17] (fun s17 wr=>∃i:Nat,s17=.int .i64 i∧i≤fb.length∧Hid (RowU wr W1.heap.size g gc fb.length∧Below W1.heap.size W1 wr)) (fun s17 _=>fb.length - (intOf s17).toNat)
 case atStart=>exact⟨0,rfl,Nat.zero_le _,HR2.out,B2.out⟩
 case round=>
  obtain⟨i,rfl,hi,hr⟩:=hrel
  by_cases hlt:i < fb.length
  ·have hlt':(i:Int) < (fb.length:Int):=by omega
   obtain⟨z,cz,fz⟩:=hr.out.1.cell hlt
   go_wp2
   go_roundw
   case rel=>exact⟨i+1,by go_num,by omega,by exact hr.out.1.set _,by exact hr.out.2.setCell hgb _⟩
   case measure=>simp[intOf];omega
  ·obtain rfl:i=fb.length:=by omega
   obtain⟨wo,rfl⟩:∃wo,wo=wr:=⟨_,rfl⟩
   have B3:=hid hr.out.2
   have y0:=(cell_bel B3.out ⟨w.heap.size,0,none⟩ lN).trans x0
   clear hr x0 HR2 B2
   go_wp2
   go_ret
   have hb:=HAL.out.trans (B3.out.mono HAL.out.size)
   refine⟨rfl,G,⟨F1,F2,sb,eb,rb,pb,P,W,Next,vs,vq,vr,vp,vw,vd,vo,Q,R,A,old,K,T,HSB.out _ B3.out,H2.out.1,by have:=H2.out.2.1;omega,by have:=H2.out.2.2;omega⟩,fun b hb=>Or.inl hb,Moved.ofBelow hb⟩
theorem step_load (G:Nat→Prop)(cb n:Nat)(two:Bool)(kind t:Int)(w:World)(h:SdAt G w cb n)(hn:n≤5000)(hL:Letters w)(hT:Pow10 w) :
  Calls Tryz.prog 31 #[.pointer (some ⟨cb,0,none⟩),.agg #[.int .i64 4,.bool two,.int .i32 kind,.int .i64 t]] w (StepEnd G cb n w):=by
 obtain⟨F1,F2,sb,eb,rb,pb,P,W,Next,vs,vq,vr,vp,vw,vd,vo,Q,R,A,old,K,T,h1,h2,h3,h4⟩:=h
 have hal:=(Below.refl w.heap.size w).alloc (Nat.le_refl _) (.cells #[.int .i64 4,.bool two,.int .i32 kind,.int .i64 t] 65)
 have hnew:(w.alloc (.cells #[.int .i64 4,.bool two,.int .i32 kind,.int .i64 t] 65)).heap[w.heap.size]?=some (.cells #[.int .i64 4,.bool two,.int .i32 kind,.int .i64 t] 65 (0,0)):=heap_alloc_new w _
 generalize hW1:w.alloc (.cells #[.int .i64 4,.bool two,.int .i32 kind,.int .i64 t] 65)=W1 at hal hnew
 obtain⟨x0,x1,x2,x3⟩:=four_cl hnew
 have lN:=lt_of_block hnew
 have hS:=h1.below hal
 obtain⟨c0,c1,lc⟩:=hS.cells
 obtain⟨v1,v2,v3,v4,v5,v6⟩:=h1.saves (by omega)
 have HSB:Hid (∀V,Below W1.heap.size W1 V→SdIn F1 F2 V cb sb eb rb pb P W Next vs vq vr vp vw vd vo Q R A old K T):=fun V hV=>hS.below hV
 have HSv:Hid (∀V,Below W1.heap.size W1 V→Calls Tryz.prog 13 #[.pointer (some ⟨sb,0,none⟩)] V fun e w'=>∃v,e=.returned v∧Hid (w'.ownsRow V.heap.size 5 1 v (frB P W Next R (old.map Prod.fst)).length (byteCells (frB P W Next R (old.map Prod.fst)))∧Below V.heap.size V w')):=fun V hV=>by
  have hV':=HSB.out V hV
  refine (sSave_any F1 sb eb P W Next vs vq vr Q A V hV'.sblk hV'.pe v1 (hT.below (hal.trans (hV.mono hal.size)))).mono ?_
  rintro e w' ⟨v,rfl,ho,hb⟩
  rw[v3] at ho
  exact⟨v,rfl,ho,hb⟩
 have HRv:Hid (∀V,Below W1.heap.size W1 V→Calls Tryz.prog 39 #[.pointer (some ⟨rb,0,none⟩)] V fun e w'=>e=.returned (.string ⟨(frB P W Next R (old.map Prod.fst)).toArray⟩)∧Below V.heap.size V w'):=fun V hV=>by
  have hp:=h1.pw
  exact rSave_any F2 rb pb P W Next vp vw vd vo R [] old (old.map Prod.fst) V (HSB.out V hV).re ⟨hp.w0,hp.w1,hp.s4,by simp,by simpa using hp.b24,fun x hx=>by have:=hp.ofl _ (List.mem_map_of_mem hx);omega⟩ v6 v2
 have HAL:=hid hal
 have HO0:=hid h1
 have H2:=hid (And.intro h2 (And.intro h3 h4))
 have HLd:Hid (∀V,Below W1.heap.size W1 V→∀v,BytesAt (fun g=>g < V.heap.size) V v (frB P W Next R (old.map Prod.fst))→Calls Tryz.prog 11 #[v] V fun e w'=>∃sb eb G,e=.returned (.tuple #[.pointer (some ⟨sb,0,none⟩),.int .i64 0])∧Hid (GAt G w' sb eb P W Next R (old.map Prod.fst) K T∧(∀b,G b→V.heap.size≤b)∧Below V.heap.size V w')):=fun V hV v hv=>by
  have hb:=hal.trans (hV.mono hal.size)
  have hwm:=h1.px.wm
  exact gLoad h1.px.fine h1.pw h1.px.v h1.px.z (by omega) (by omega) v V hv (fun c W' a1 a2 a3=>hL c W' a1 a2 (hb.trans (a3.mono hb.size))) (hT.below hb)
 obtain⟨fb,hfb⟩:∃fb,frB P W Next R (old.map Prod.fst)=fb:=⟨_,rfl⟩
 rw[hfb] at HSv HRv v4 v5
 rw[hfb] at HLd
 clear hL
 clear h1 h2 h3 h4 hS hal v1 v2 v3 v6 hT hnew
 go_enter Tryz.func31,Tryz.ntmps31
 go_wp2_with (go_at_call 13;fail)
 refine (HSv.out _ (by first | exact bel_drewN (Below.refl _ _) _ | exact Below.drew (Below.refl _ _) | exact Below.refl _ _)).mono ?_
 rintro e w1 ⟨vb,rfl,ho⟩
 have B1:=hid ho.out.2
 have hw1:=ho.out.2.size
 obtain⟨g,gc,rfl,hgb⟩:=own_someU ho.out.1 (by omega)
 have HO1:=hid ho.out.1
 clear ho c0
 have c1':=(HSB.out w1 B1.out).cells.2.1
 clear c1
 go_wp2_with (go_at_call 39;fail)
 refine (HRv.out _ B1.out).mono ?_
 rintro e w2 ⟨rfl,hb2⟩
 have B2:=hid (B1.out.trans (hb2.mono B1.out.size))
 have HO2:=hid (own_below HO1.out hb2)
 have tx:=own_text HO2.out (by omega)
 clear hb2 c1' HO1 B1 HSv HRv
 go_wp2
 have HR2:Hid (RowU w2 W1.heap.size g gc fb.length):=⟨fb.map fun x=>(x.toNat:Int),by simp,by rw[← row_ints];exact own_mono HO2.out (by first | exact Nat.le_refl _ | (simp;done) | omega)⟩
 clear tx HO2 x1 x2 x3
 go_loopw [17] (fun s17 wr=>∃i:Nat,s17=.int .i64 i∧i≤fb.length∧Hid (RowU wr W1.heap.size g gc fb.length∧Below W1.heap.size W1 wr)) (fun s17 _=>fb.length - (intOf s17).toNat)
 case atStart=>exact⟨0,rfl,Nat.zero_le _,HR2.out,B2.out⟩
 case round=>
  obtain⟨i,rfl,hi,hr⟩:=hrel
  by_cases hlt:i < fb.length
  ·have hlt':(i:Int) < (fb.length:Int):=by omega
   obtain⟨z,cz,fz⟩:=hr.out.1.cell hlt
   go_wp2
   go_roundw
   case rel=>exact⟨i+1,by go_num,by omega,by exact hr.out.1.set _,by exact hr.out.2.setCell hgb _⟩
   case measure=>simp[intOf];omega
  ·obtain rfl:i=fb.length:=by omega
   obtain⟨wo,rfl⟩:∃wo,wo=wr:=⟨_,rfl⟩
   have B3:=hid hr.out.2
   have y0:=(cell_bel B3.out ⟨w.heap.size,0,none⟩ lN).trans x0
   clear hr x0 HR2 B2
   have hcv:=fun W=>Lib.run_convert_string_bytes (P:=Tryz.prog) W 9 25 5 ⟨fb.toArray⟩ Tryz.underlying9 Tryz.underlying25 Tryz.underlying5
   have hsz:(⟨fb.toArray⟩:ByteArray).size=fb.length:=by simp[ByteArray.size]
   go_wp2_with (go_at_call 11;fail)
   have hbw:=bytesWorld_below wo 5 ⟨fb.toArray⟩
   have hrow:=bytes_of_text wo fb (by omega)
   have hnew2:=bytesWorld_at_new wo 5 ⟨fb.toArray⟩
   have hsz4:=bytesWorld_size wo 5 ⟨fb.toArray⟩
   have hcs:fb.length≤(bytesCells wo 5 ⟨fb.toArray⟩).size:=by unfold bytesCells;simp
   generalize bytesWorld wo 5 ⟨fb.toArray⟩=V4 at *
   have B4:=hid (B3.out.trans (hbw.mono B3.out.size))
   refine (HLd.out V4 B4.out _ (RowAt.mono hrow (fun b h5 _=>h5))).mono ?_
   rintro e w5 ⟨sb2,eb2,G2,rfl,hld⟩
   have hwo:=B3.out.size
   have K5:Hid (∃cur,w5.heap[wo.heap.size]?=some (.cells cur 5 ((bytesCells wo 5 ⟨fb.toArray⟩).size,(bytesCells wo 5 ⟨fb.toArray⟩).size+1))∧cur.size=(bytesCells wo 5 ⟨fb.toArray⟩).size):=⟨_,(hld.out.2.2.block _ (by omega)).trans hnew2,rfl⟩
   generalize (bytesCells wo 5 ⟨fb.toArray⟩).size=N at *
   have HG:=hid (And.intro hld.out.1 (B4.out.trans (hld.out.2.2.mono B4.out.size)))
   have HGl:Hid (∀b,G2 b→wo.heap.size < b):=fun b hb=>by have:=hld.out.2.1 b hb;omega
   clear hld hrow hnew2 hbw HLd hcv B4 y0
   generalize hgq:wo.heap.size=gq at *
   clear hgq
   go_wp2
   go_loopw [21] (fun s21 wr=>∃j:Nat,s21=.int .i64 j∧j≤fb.length∧Hid ((∃cur,wr.heap[gq]?=some (.cells cur 5 (N,N+1))∧cur.size=N)∧GAt G2 wr sb2 eb2 P W Next R (old.map Prod.fst) K T∧Below W1.heap.size W1 wr)) (fun s21 _=>fb.length - (intOf s21).toNat)
   case atStart=>exact⟨0,rfl,Nat.zero_le _,K5.out,HG.out.1,HG.out.2⟩
   case round=>
    obtain⟨j,rfl,hj,hq⟩:=hrel
    by_cases hlj:j < fb.length
    ·have hlj':(j:Int) < (fb.length:Int):=by omega
     obtain⟨⟨cur,hcur,hcn⟩,-,-⟩:=hq.out
     obtain⟨⟨x,cx⟩,cf⟩:=blk_cellU (i:=j) hcur (by omega) (by omega)
     have HC:=hid (blk_setU (i:=j) hcur (.int .u8 0))
     have HCn:=hid hcn
     clear hcur hcn
     go_wp2
     go_roundw
     case rel=>
      refine⟨j+1,by go_num,by omega,?_,?_,?_⟩
      ·obtain⟨cur',e1,e2⟩:=HC.out
       exact⟨cur',e1,e2.trans HCn.out⟩
      ·exact hq.out.2.1.frame (by simp) (fun b hb=>Below.heap_setCell _ _ _ _ (by have:=HGl.out b hb;dsimp only;omega))
      ·exact hq.out.2.2.setCell hwo _
     case measure=>simp[intOf];omega
    ·obtain rfl:j=fb.length:=by omega
     have HS:=hid (HSB.out wr hq.out.2.2)
     obtain⟨s0,-,lcb⟩:=HS.out.cells
     have sf:wr.frozen? ⟨cb,0,none⟩=false:=by simp[World.frozen?,HS.out.blk]
     have HQ:=hid hq.out
     clear hq K5 HG
     go_wp2
     go_ret
     refine⟨rfl,?_⟩
     obtain⟨G',g1,g2,g3⟩:=HO0.out.loaded (HAL.out.trans (HQ.out.2.2.mono HAL.out.size)) HQ.out.2.1 (fun b hb=>by have:=HGl.out b hb;have:=HAL.out.size;omega) H2.out.2.1 H2.out.2.2
     exact⟨G',g1,fun b hb=>(g2 b hb).imp (H2.out.1 b).2 id,⟨g3.os,g3.tape,g3.output,g3.size,fun k hk hn=>g3.block k hk (fun e=>hn ((H2.out.1 k).2 e))⟩⟩
end Go.Proofs.YtfldcmdhneegmaaGreatDoor
namespace Go.Proofs.YtfldcmdhneegmaaGreatDoor
open Go.RowKit Go.Lib
theorem step_all4 (G:Nat→Prop)(cb n:Nat)(k:Int)(two:Bool)(kind t:Int)(w:World)(h:SdAt G w cb n)(hn:n≤5000)(hE:EnvS w)(hT:Pow10 w)(hG:¬ G 4)(ht:t≤9223372036854775807)(hk:k≤4) :
  Calls Tryz.prog 31 #[.pointer (some ⟨cb,0,none⟩),.agg #[.int .i64 k,.bool two,.int .i32 kind,.int .i64 t]] w (StepEnd G cb n w):=by
 by_cases h3:k=3
 ·subst h3
  exact step_save G cb n two kind t w h hn hT
 ·by_cases h4:k=4
  ·subst h4
   exact step_load G cb n two kind t w h hn hE.letters hT
  ·exact step_all G cb n k two kind t w h hn hE.err hG ht (by omega)
theorem plays_5 (s1 s2:ByteArray)(ao:Option Addr)(l:List OpV)(cap:Nat)(w:World)(h1:decide ((4096:Int) < (l.length:Int))=false)(h2:decide ((65536:Int) < (s1.size:Int))=false)(h3:decide ((65536:Int) < (s2.size:Int))=false)
  (HA:Hid (Calls Tryz.prog 30 #[.string s1] w fun e w'=>∃oa,e=.returned (.tuple #[.pointer oa,.bool true])∧Hid (∃G,PtrSd oa G w' 0∧(∀b,G b→w.heap.size≤b)∧Below w.heap.size w w')))
  (HB:Hid (∀V,Below w.heap.size w V→Calls Tryz.prog 30 #[.string s2] V fun e w'=>∃oa,e=.returned (.tuple #[.pointer oa,.bool true])∧Hid (∃G,PtrSd oa G w' 0∧(∀b,G b→V.heap.size≤b)∧Below V.heap.size V w')))
  (HE:Hid ((EnvS w∧Pow10 w)∧OpsIn w (.slice ao l.length cap) l∧∀x∈l,x.2.2.2≤9223372036854775807)) :
  Calls Tryz.prog 10 #[.string s1,.string s2,.slice ao l.length cap,.int .i64 4] w fun e w'=>e=.returned (.bool true)∧Below w.heap.size w w':=by
 have hll:l.length≤4096:=by have:=of_decide_eq_false h1;omega
 go_enter Tryz.func10,Tryz.ntmps10
 go_wp2_with (first | (go_at_call_of 30 (Value.string s1);refine HA.out.mono ?_;rintro e w1 ⟨oa,rfl,hf1⟩) | (go_at_call_of 30 (Value.string s2);refine (HB.out _ (by obtain⟨G,-,-,hb⟩:=hf1.out;exact hb)).mono ?_;rintro e w2 ⟨ob,rfl,hf2⟩;rcases oa with _ | aa))
 ·go_ret
  obtain⟨Ga,-,-,ba⟩:=hf1.out
  obtain⟨Gb,-,-,bb⟩:=hf2.out
  exact⟨rfl,ba.trans (bb.mono ba.size)⟩
 ·obtain⟨cba,rfl⟩:∃cba,aa=⟨cba,0,none⟩:=by
   obtain⟨Ga,hP,-⟩:=hf1.out
   rcases hP with ⟨h,-⟩ | ⟨cb,h,-⟩
   ·cases h
   ·exact⟨cb,Option.some.inj h⟩
  have HR:Hid (∃Ga Gb,PlRel w w2 (some ⟨cba,0,none⟩) ob 0 Ga Gb):=by
   obtain⟨Ga,a1,a2,a3⟩:=hf1.out
   obtain⟨Gb,b1,b2,b3⟩:=hf2.out
   refine⟨Ga,Gb,a1.frame b3.size (fun b hG=>b3.block b (a1.glt b hG)),b1,fun k hk hG=>?_,a2,fun k hk=>Nat.le_trans a3.size (b2 k hk),a3.trans (b3.mono a3.size)⟩
   have:=a1.glt k hk
   have:=b2 k hG
   omega
  clear hf1 hf2 HA HB h1 h2 h3
  go_loopw [13] (fun s13 wr=>∃i:Nat,i≤l.length∧s13=.int .i64 i∧Hid (∃Ga Gb,PlRel w wr (some ⟨cba,0,none⟩) ob i Ga Gb)) (fun s13 _=>l.length - (intOf s13).toNat)
  case atStart=>exact⟨0,by omega,rfl,HR.out⟩
  case round=>
   obtain⟨i,hi,rfl,hr⟩:=hrel
   by_cases hlt:i < l.length
   ·have hi':(i:Int) < (l.length:Int):=by omega
    obtain⟨Ga,Gb,hP⟩:=hr.out
    obtain⟨b,o,cap',he,lb,c0,c1,c2,c3⟩:=HE.out.2.1.2 i hlt
    have ht:=HE.out.2.2 _ (List.getElem_mem hlt)
    injection he with ea en ec
    subst ea
    subst ec
    clear en
    obtain⟨⟨k,two,kind,t⟩,hx⟩:∃x,l[i]=x:=⟨_,rfl⟩
    rw[hx] at c0 c1 c2 c3 ht
    replace c0:=(cell_bel hP.bel ⟨b,o+i * 4,none⟩ lb).trans c0
    replace c1:=(cell_bel hP.bel ⟨b,o+i * 4+1,none⟩ lb).trans c1
    replace c2:=(cell_bel hP.bel ⟨b,o+i * 4+2,none⟩ lb).trans c2
    replace c3:=(cell_bel hP.bel ⟨b,o+i * 4+3,none⟩ lb).trans c3
    have lE:4 < w.heap.size:=World.block_lt_of_cell? w _ HE.out.1.1.err
    have HSA:Hid (k≤4→∀V,Below wr.heap.size wr V→Calls Tryz.prog 31 #[.pointer (some ⟨cba,0,none⟩),.agg #[.int .i64 k,.bool two,.int .i32 kind,.int .i64 t]] V fun e w'=>e=.returned (.bool true)∧Hid (∃Ga Gb,PlRel w w' (some ⟨cba,0,none⟩) ob (i+1) Ga Gb)):=fun hk V hV=>by
     have hP':=hP.below hV
     rcases hP'.a with ⟨h,-⟩ | ⟨cb,h,hS⟩
     ·cases h
     ·obtain rfl:cba=cb:=by injection h with h;injection h
      exact (step_all4 Ga cba i k two kind t V hS (by omega) (HE.out.1.1.below hP'.bel) (HE.out.1.2.below hP'.bel) (fun e=>by have:=hP.na _ e;omega) ht hk).mono (fun e w' hh=>⟨hh.1,by
       obtain⟨Ga',h2⟩:=hP'.step hh
       exact⟨Ga',Gb,h2⟩⟩)
    have HSB:Hid (k≤4→∀cbb,ob=some ⟨cbb,0,none⟩→∀V,Below wr.heap.size wr V→Calls Tryz.prog 31 #[.pointer (some ⟨cbb,0,none⟩),.agg #[.int .i64 k,.bool two,.int .i32 kind,.int .i64 t]] V fun e w'=>e=.returned (.bool true)∧Hid (∃Ga Gb,PlRel w w' (some ⟨cba,0,none⟩) ob (i+1) Ga Gb)):=fun hk cbb hob V hV=>by
     subst hob
     have hP':=hP.below hV
     rcases hP'.b with ⟨h,-⟩ | ⟨cb,h,hS⟩
     ·cases h
     ·obtain rfl:cbb=cb:=by injection h with h;injection h
      exact (step_all4 Gb cbb i k two kind t V hS (by omega) (HE.out.1.1.below hP'.bel) (HE.out.1.2.below hP'.bel) (fun e=>by have:=hP.nb _ e;omega) ht hk).mono (fun e w' hh=>⟨hh.1,by
       obtain⟨Gb',h2⟩:=hP'.swap.step hh
       exact⟨Ga,Gb',h2.swap⟩⟩)
    have HPM:=hid (fun V (hV:Below wr.heap.size wr V)=>(hP.below hV).more)
    have hob:ob=none∨∃cbb,ob=some ⟨cbb,0,none⟩:=by
     rcases hP.b with ⟨h,-⟩ | ⟨cb,h,-⟩
     ·exact Or.inl h
     ·exact Or.inr ⟨cb,h⟩
    clear hP hx lE ht
    by_cases hk:k≤4
    ·have hk':decide ((4:Int) < k)=false:=decide_eq_false (by omega)
     cases two with
     | false=>
      have H1:=hid (HSA.out hk)
      clear HSA HSB
      go_wp2_with (go_at_call 31;refine (H1.out _ (by first | exact (Below.refl _ _).alloc (Nat.le_refl _) _ | exact Below.refl _ _)).mono ?_;rintro e w3 ⟨rfl,hf3⟩)
      go_roundw
      case rel=>exact⟨i+1,by omega,by go_num,hf3.out⟩
      case measure=>simp[intOf];omega
     | true=>
      rcases hob with rfl | ⟨cbb,rfl⟩
      ·clear HSA HSB
       go_wp2
       exact⟨⟨i+1,by omega,by go_num,Ga,Gb,HPM.out _ ((Below.refl _ _).alloc (Nat.le_refl _) _)⟩,by simp[intOf];omega⟩
      ·have H1:=hid (HSB.out hk cbb rfl)
       clear HSA HSB
       go_wp2_with (go_at_call 31;refine (H1.out _ (by first | exact (Below.refl _ _).alloc (Nat.le_refl _) _ | exact Below.refl _ _)).mono ?_;rintro e w3 ⟨rfl,hf3⟩)
       go_roundw
       case rel=>exact⟨i+1,by omega,by go_num,hf3.out⟩
       case measure=>simp[intOf];omega
    ·have hk':(4:Int) < k:=by omega
     clear HSA HSB
     go_wp2
     exact⟨⟨i+1,by omega,by go_num,Ga,Gb,HPM.out _ ((Below.refl _ _).alloc (Nat.le_refl _) _)⟩,by simp[intOf];omega⟩
   ·have hi':decide ((i:Int) < (l.length:Int))=false:=decide_eq_false (by omega)
    go_wp2
    go_ret
    obtain⟨Ga,Gb,hP⟩:=hr.out
    exact⟨rfl,hP.bel⟩
theorem plays_all (s1 s2:ByteArray)(v:Value)(l:List OpV)(w:World)(hE:EnvS w)(hT:Pow10 w)(hm1:s1.size≤9223372036854775807)(hm2:s2.size≤9223372036854775807)(hl:OpsIn w v l)(ht:∀x∈l,x.2.2.2≤9223372036854775807) :
  Calls Tryz.prog 10 #[.string s1,.string s2,v,.int .i64 4] w fun e w'=>e=.returned (.bool true)∧Below w.heap.size w w':=by
 obtain⟨ao,cap,rfl⟩:=hl.1
 by_cases h1:(4096:Int) < (l.length:Int)
 ·exact plays_1 s1 s2 ao l.length cap 4 w h1
 by_cases h2:(65536:Int) < (s1.size:Int)
 ·exact plays_2 s1 s2 ao l.length cap 4 w (decide_eq_false h1) h2
 by_cases h3:(65536:Int) < (s2.size:Int)
 ·exact plays_3 s1 s2 ao l.length cap 4 w (decide_eq_false h1) (decide_eq_false h2) h3
 refine plays_5 s1 s2 ao l cap w (decide_eq_false h1) (decide_eq_false h2) (decide_eq_false h3) ((side_any s1 w hE hm1).mono (fun e w' hh=>?_)) (fun V hV=>(side_any s2 V (hE.below hV) hm2).mono (fun e w' hh=>?_)) ⟨⟨hE,hT⟩,hl,ht⟩
 all_goals
  rcases hh with ⟨he,hb⟩ | ⟨cb,G,he,g1,g2,g3⟩
  ·exact⟨none,he,fun _=>False,Or.inl ⟨rfl,fun _ h=>h⟩,fun _ h=>h.elim,hb⟩
  ·exact⟨_,he,G,Or.inr ⟨cb,rfl,g1⟩,g2,g3⟩
theorem saves_any (s1 s2:ByteArray)(ao:Option Addr)(cap:Nat)(l:List OpV)(w:World)(hE:EnvS w)(hT:Pow10 w)(hm1:s1.size≤9223372036854775807)(hm2:s2.size≤9223372036854775807)(hl:OpsIn w (.slice ao l.length cap) l)(ht:∀x∈l,x.2.2.2≤9223372036854775807) :
  Calls Tryz.prog 4 #[.string s1,.string s2,.slice ao l.length cap] w fun e w'=>e=.returned (.bool true)∧Below w.heap.size w w':=by
 have HC:=hid (plays_all s1 s2 (.slice ao l.length cap) l w hE hT hm1 hm2 hl ht)
 clear hE hT hm1 hm2 hl ht
 go_enter Tryz.func4,Tryz.ntmps4
 go_wp2_with (go_at_call 10;refine HC.out.mono ?_;rintro e w1 ⟨rfl,hf⟩;have HB:=hid hf;clear hf)
 go_ret
 exact⟨rfl,HB.out⟩
end Go.Proofs.YtfldcmdhneegmaaGreatDoor

import Derived.Test.YtfldcmdhneegmaaGreatDoorX10
import Derived.Test.YtfldcmdhneegmaaGreatDoorX12
set_option maxHeartbeats 4000000
set_option maxRecDepth 1000000
namespace Go.Proofs.YtfldcmdhneegmaaGreatDoor
open Go.RowKit Go.Lib
theorem Tryz.infoCcE:(Tryz.prog.info? 194).map (fun i=>(i.zero,i.size,i.bytes))=some (some (.agg #[.int .i64 0,.int .i32 0,.int .i64 0]),3,24):=by kernel_rfl
theorem cloneQ_any (F:Nat→Prop)(v:Value)(l:List En.Ev)(w:World)(h:EvsAt F w v l)(hl:l.length≤1000) :
  Calls Tryz.prog 102 #[v] w fun e w'=>∃v',e=.returned v'∧QRow w.heap.size w' v' l∧Below w.heap.size w w':=by
 obtain⟨ao,cap,rfl,-,-⟩:=RowAt.slice h
 obtain⟨i0,hi,hz0,hz1,hz2⟩:=info_parts Tryz.infoCcE
 have hq:∀w,(binOp .eql 156 (.slice ao l.length cap) (.slice none 0 0)).run Tryz.prog w=.ok (.bool ao.isNone) w:=fun w=>run_eql_slice_nil w 156 194 _ _ _ _ _ Tryz.underlying156
 cases ao with
 | none=>
  have h0:l=[]∧cap=0:=by
   rcases h.2 with ⟨he,h0⟩ | ⟨b,o,cap',he,-⟩
   ·injection he with _ _ hc
    exact⟨List.eq_nil_of_length_eq_zero h0,hc⟩
   ·cases he
  obtain⟨rfl,rfl⟩:=h0
  simp only[Option.isNone_none,List.length_nil] at hq ⊢
  clear h
  go_enter Tryz.func102,Tryz.ntmps102
  go_wp2
  go_ret
  exact⟨_,rfl,World.ownsRow_nil _ _ _ _,Below.refl _ _⟩
 | some a=>
  have H:=hid h
  simp only[Option.isNone_some] at hq
  clear h
  go_enter Tryz.func102,Tryz.ntmps102
  go_wp2_with (at_builtin;refine wpList_append_row rfl _ _ 156 rfl w.heap.size 194 i0 (.agg #[.int .i64 0,.int .i32 0,.int .i64 0]) 3 24 Tryz.underlying156 hi hz0 hz1 hz2 rfl (by decide) _ _ _ rfl (own_empty (heap_alloc_new w _) (Nat.le_refl _)) F _ l.length (evCells l) rfl (RowAt.below H.out ((Below.refl _ _).alloc (Nat.le_refl _) _)) (oneCell_evs _) (by unfold maxLen;omega) (by omega) (by simp) ?_)
  intro v2 w2 ho2 hg2
  have hb2:Below w.heap.size w w2:=((Below.refl w.heap.size w).alloc (Nat.le_refl _) _).grown hg2 (by simp) (fun k hk=>by cases hk;exact Nat.le_refl _)
  have HB2:=hid (And.intro ho2 hb2)
  clear ho2 hg2 hb2
  go_wp2
  go_ret
  refine⟨_,rfl,?_,HB2.out.2⟩
  have h:=HB2.out.1
  unfold QRow
  simpa using h
def RunT (w:World)(b:Nat):Prop:=∃c fz,w.heap[b]?=some (.cells c 164 fz)
structure AvMem (F:Nat→Prop)(w wr:World)(wb:Nat)(vq vr vm:Value)(Q:List En.Ev)(A:List RV)(L:List MV):Prop where
 bel:Below w.heap.size w wr
 hwb:w.heap.size≤wb
 qvar:wr.heap[wb]?=some (.cells #[vq] 156 (0,0))
 qrow:QRow w.heap.size wr vq Q
 runs:RowAt (fun b=>b < w.heap.size∨RunT wr b) wr vr 3 A.length (runCells A)
 offs:∀x∈A,IntsAt (I64 wr) wr x.2 x.1.offs
 src:∀x∈A,∀b,x.2.ownBlock=some b→b < w.heap.size→F b
 mat:MOwn w.heap.size wr vm L
 dis:∀x∈A,∀y∈L,x.2.ownBlock≠y.2.ownBlock
theorem RunT.below {w w':World}{b:Nat}(h:RunT w b)(hb:Below w.heap.size w w'):RunT w' b:=by
 obtain⟨c,fz,h⟩:=h
 exact⟨c,fz,(hb.block _ (lt_of_block h)).trans h⟩
theorem offs_below {w w':World}{v:Value}{xs:List Int}(h:IntsAt (I64 w) w v xs)(hb:Below w.heap.size w w'):IntsAt (I64 w') w' v xs:=h.onI (fun i ⟨_,_,hi⟩=>hb.block i (lt_of_block hi)) hb.size
section
variable {F:Nat→Prop} {w wr w':World} {wb:Nat} {vq vr vm:Value} {Q:List En.Ev} {A:List RV} {L:List MV}
theorem AvMem.below (h:AvMem F w wr wb vq vr vm Q A L)(hb:Below wr.heap.size wr w'):AvMem F w w' wb vq vr vm Q A L:=
 ⟨h.bel.trans (hb.mono h.bel.size),h.hwb,(hb.block _ (lt_of_block h.qvar)).trans h.qvar,own_below h.qrow hb,(RowAt.below h.runs hb).mono (fun _ _ hF=>hF.imp id (fun hr=>hr.below hb)),fun x hx=>offs_below (h.offs x hx) hb,h.src,h.mat.below hb,h.dis⟩
theorem block_type {w:World}{b:Nat}{c c':Array Value}{t t':TypeId}{fz fz':Nat × Nat}(h:w.heap[b]?=some (.cells c t fz))(h':w.heap[b]?=some (.cells c' t' fz')):t=t':=by
 rw[h] at h'
 cases h'
 rfl
theorem AvMem.take {g n cap:Nat}{Q':List En.Ev}{v':Value}(h:AvMem F w wr wb vq vr vm Q A L)(hq:vq.ownBlock=some g)(hT:Tch wb 0 v' (some g) wr w')(hA:QAt w.heap.size w' wb 0 g n cap Q')(hv:v'=.slice (some ⟨g,0,none⟩) n cap):AvMem F w w' wb v' vr vm Q' A L:=by
 obtain⟨hg1,cg,fg,hg2⟩:=own_block h.qrow g hq
 have keep:∀(b:Nat) (c:Array Value) (t:TypeId) (fz:Nat × Nat),wr.heap[b]?=some (.cells c t fz)→t≠156→t≠194→w'.heap[b]?=wr.heap[b]?:=fun b c t fz hb h1 h2=>
  hT.block b (lt_of_block hb) (fun e=>by subst e;exact h1 (block_type hb h.qvar)) (fun e=>by cases e;exact h2 (block_type hb hg2))
 have old:∀b,b < w.heap.size→w'.heap[b]?=wr.heap[b]?:=fun b hb=>hT.block b (Nat.lt_of_lt_of_le hb h.bel.size) (by have:=h.hwb;omega) (fun e=>by cases e;omega)
 have kown:∀{base:Nat} {e:TypeId} {size:Nat} {v:Value} {n:Nat} {xs:List Value},wr.ownsRow base e size v n xs→e≠156→e≠194→w'.ownsRow base e size v n xs:=by
  intro base e size v n xs h' h1 h2
  refine⟨h'.1,?_⟩
  rcases h'.2 with hn | ⟨g',cap',cur,hv',hb',hg',rest⟩
  ·exact Or.inl hn
  ·exact Or.inr ⟨g',cap',cur,hv',hb',(keep _ _ _ _ hg' h1 h2).trans hg',rest⟩
 refine⟨⟨hT.os.trans h.bel.os,hT.tape.trans h.bel.tape,hT.output.trans h.bel.output,Nat.le_trans h.bel.size hT.size,fun b hb=>(old b hb).trans (h.bel.block b hb)⟩,h.hwb,?_,?_,?_,?_,h.src,?_,h.dis⟩
 ·rw[hT.self]
  exact (var_set h.qvar).1
 ·rw[hv];exact hA.row
 ·refine RowAt.mono (RowAt.frame h.runs hT.size (fun b _ hF=>?_)) (fun b _ hF=>?_)
  ·rcases hF with hF | ⟨c,fz,hF⟩
   ·exact old b hF
   ·exact keep b c _ fz hF (by decide) (by decide)
  ·rcases hF with hF | ⟨c,fz,hF⟩
   ·exact Or.inl hF
   ·exact Or.inr ⟨c,fz,(keep b c _ fz hF (by decide) (by decide)).trans hF⟩
 ·exact fun x hx=>(h.offs x hx).onI (fun i ⟨c,fz,hi⟩=>keep i c _ fz hi (by decide) (by decide)) hT.size
 ·exact⟨kown h.mat.row (by decide) (by decide),fun x hx=>⟨kown (h.mat.offs x hx).1 (by decide) (by decide),(h.mat.offs x hx).2⟩,h.mat.dist⟩
end
section
variable {F:Nat→Prop} {w wr w':World} {wb:Nat} {vq vr vm:Value} {Q:List En.Ev} {A:List RV} {L:List MV}
theorem AvMem.next {base:Nat}{v8:Value}{C:List RV}(h:AvMem F w wr wb vq vr vm Q A L)(hb:Below wr.heap.size wr w')(hrow:w'.ownsRow base 164 3 v8 C.length (runCells C))
  (hC:∀x∈C,x∈A∨(w'.ownsRow wr.heap.size 3 1 x.2 x.1.offs.length (intCells x.1.offs))):AvMem F w w' wb vq v8 vm Q C L:=by
 have h':=h.below hb
 refine⟨h'.bel,h'.hwb,h'.qvar,h'.qrow,?_,fun x hx=>?_,fun x hx b hxb hbw=>?_,h'.mat,fun x hx y hy=>?_⟩
 ·have hr:=RowAt.ofOwn hrow
  rcases hrow.2 with ⟨rfl,h0⟩ | ⟨g,cap,cur,rfl,h1,h2,-⟩
  ·exact⟨hr.1,Or.inl ⟨rfl,h0⟩⟩
  ·rcases hr.2 with ⟨he,-⟩ | ⟨b,o,cap',he,-,k2,k3,k4,k5⟩
   ·cases he
   ·cases he
    exact⟨hr.1,Or.inr ⟨g,0,cap,rfl,Or.inr ⟨cur,_,h2⟩,k2,k3,k4,k5⟩⟩
 ·rcases hC x hx with hx | hx
  ·exact h'.offs x hx
  ·exact own_I64 hx
 ·rcases hC x hx with hx | hx
  ·exact h.src x hx b hxb hbw
  ·have:=(own_block hx b hxb).1
   have:=h.bel.size
   omega
 ·rcases hC x hx with hx | hx
  ·exact h.dis x hx y hy
  ·intro e
   obtain⟨g,h1,-,h3⟩:=own_some (h.mat.offs y hy).1 (h.mat.offs y hy).2
   rw[h1] at e
   have:=(own_block hx g e).1
   omega
theorem AvMem.more {B:Nat}{vL v10:Value}{Lv:List MV}(h:AvMem F w wr wb vq vr vm Q A L)(hm:MOwn B wr vL Lv)(hBw:w.heap.size≤B)(hAB:∀x∈A,∀b,x.2.ownBlock=some b→b < B)(hLB:∀y∈L,∀b,y.2.ownBlock=some b→b < B)
  (own10:w'.ownsRow w.heap.size 109 2 v10 (L.length+Lv.length) (mCells L++mCells Lv)) (gr:wr.grownBy w' vm.ownBlock):AvMem F w w' wb vq vr v10 Q A (L++Lv):=by
 have hmb:∀g,vm.ownBlock=some g→w.heap.size≤g∧∃c fz,wr.heap[g]?=some (.cells c 109 fz):=own_block h.mat.row
 have keep:∀(b:Nat) (c:Array Value) (t:TypeId) (fz:Nat × Nat),wr.heap[b]?=some (.cells c t fz)→t≠109→w'.heap[b]?=wr.heap[b]?:=fun b c t fz hb h1=>
  gr.block b (lt_of_block hb) (fun e=>by
   obtain⟨-,c',fz',hg⟩:=hmb b e.symm
   exact h1 (block_type hb hg))
 have old:∀b,b < w.heap.size→w'.heap[b]?=wr.heap[b]?:=fun b hb=>gr.block b (Nat.lt_of_lt_of_le hb h.bel.size) (fun e=>by
  have:=(hmb b e.symm).1
  omega)
 have kown:∀{base:Nat} {e:TypeId} {size:Nat} {v:Value} {n:Nat} {xs:List Value},wr.ownsRow base e size v n xs→e≠109→w'.ownsRow base e size v n xs:=by
  intro base e size v n xs h' h1
  refine⟨h'.1,?_⟩
  rcases h'.2 with hn | ⟨g',cap',cur,hv',hb',hg',rest⟩
  ·exact Or.inl hn
  ·exact Or.inr ⟨g',cap',cur,hv',hb',(keep _ _ _ _ hg' h1).trans hg',rest⟩
 refine⟨⟨gr.os.trans h.bel.os,gr.tape.trans h.bel.tape,gr.output.trans h.bel.output,Nat.le_trans h.bel.size gr.size,fun b hb=>(old b hb).trans (h.bel.block b hb)⟩,h.hwb,(keep _ _ _ _ h.qvar (by decide)).trans h.qvar,kown h.qrow (by decide),?_,?_,h.src,?_,?_⟩
 ·refine RowAt.mono (RowAt.frame h.runs gr.size (fun b _ hF=>?_)) (fun b _ hF=>?_)
  ·rcases hF with hF | ⟨c,fz,hF⟩
   ·exact old b hF
   ·exact keep b c _ fz hF (by decide)
  ·rcases hF with hF | ⟨c,fz,hF⟩
   ·exact Or.inl hF
   ·exact Or.inr ⟨c,fz,(keep b c _ fz hF (by decide)).trans hF⟩
 ·exact fun x hx=>(h.offs x hx).onI (fun i ⟨c,fz,hi⟩=>keep i c _ fz hi (by decide)) gr.size
 ·refine⟨by rw[List.length_append,mCells_append];exact own10,fun y hy=>?_,List.pairwise_append.2 ⟨h.mat.dist,hm.dist,fun y hy z hz=>?_⟩⟩
  ·rcases List.mem_append.1 hy with hy | hy
   ·exact⟨kown (h.mat.offs y hy).1 (by decide),(h.mat.offs y hy).2⟩
   ·exact⟨own_mono (kown (hm.offs y hy).1 (by decide)) hBw,(hm.offs y hy).2⟩
  ·intro e
   obtain⟨g,h1,h2,-⟩:=own_some (hm.offs z hz).1 (hm.offs z hz).2
   rw[h1] at e
   have:=hLB y hy g e
   omega
 ·intro x hx y hy
  rcases List.mem_append.1 hy with hy | hy
  ·exact h.dis x hx y hy
  ·intro e
   obtain⟨g,h1,h2,-⟩:=own_some (hm.offs y hy).1 (hm.offs y hy).2
   rw[h1] at e
   have:=hAB x hx g e
   omega
end
structure AvPl (P:En.Pat)(ψ:Int→Int)(A0:List En.Rn)(Q0:List En.Ev)(t:Int)(K:Nat)(Q:List En.Ev)(A:List RV)(L:List MV)(D:List En.Ev):Prop where
 srt:En.sortEv Q0=D++En.sortEv Q
 le:∀d∈D,d.time≤t
 adv:En.advInc P A0 D=some (L.map Prod.fst,A.map Prod.fst)
 hp:En.Hp Q Q.length
 apt:En.Apt Q
 evs:∀e∈Q,e.time=ψ e.off
 ord:En.Ord (A.map Prod.fst)
 det:∀q∈A.map Prod.fst,En.Det ψ q
 stp:∀x∈A,x.1.step < P.steps.length
 ofl:∀x∈A,x.1.offs.length≤K+D.length
 qlen:D.length+Q.length=Q0.length
 alen:A.length≤24
 llen:L.length≤100000 * D.length
theorem front_sort {Q rest:List En.Ev}(hp:En.Hp Q Q.length)(ha:En.Apt Q)(hr:(En.nth Q 0::rest).Perm Q):En.sortEv Q=En.nth Q 0::En.sortEv rest:=by
 refine En.sortEv_front hr ha (fun y hy=>?_)
 have hy':y∈Q:=hr.mem_iff.1 (List.mem_cons_of_mem _ hy)
 obtain⟨i,hi,rfl⟩:=List.getElem_of_mem hy'
 rw[← En.nth_eq hi]
 exact hp.front i hi
theorem live_map (P:En.Pat)(ev:En.Ev)(A:List RV):(A.filter fun x=>inWinP P.win ev.time x.1).map Prod.fst=(A.map Prod.fst).filter (En.inWin P ev):=by
 rw[List.filter_map]
 rfl
theorem AvPl.step {P:En.Pat}{ψ:Int→Int}{A0:List En.Rn}{Q0:List En.Ev}{t:Int}{K:Nat}{Q rest:List En.Ev}{A M S Sn:List RV}{L Lv:List MV}{D:List En.Ev}(h:AvPl P ψ A0 Q0 t K Q A L D)(hP:0 < P.steps.length)(hPn:P.steps.length≤100)(hr:(En.nth Q 0::rest).Perm Q)(hq0:0 < Q.length)(hrest:En.Hp rest rest.length)(ht:(En.nth Q 0).time≤t)
  (hM:M.map Prod.fst=grownG P.steps (En.nth Q 0) (geAll (A.filter fun x=>inWinP P.win (En.nth Q 0).time x.1) (En.nth Q 0))) (hp:S.Perm M) (hs:Sm.Srt ltR S)
  (hpn:Sn.Perm ((A.filter fun x=>inWinP P.win (En.nth Q 0).time x.1)++(cmpctR S).filter (fun x=>goesOn P.steps x.1.step))) (hsn:Sm.Srt ltR Sn) :
  (cmpctR Sn).map Prod.fst=En.next P (A.map Prod.fst) (En.nth Q 0)∧(∀x∈cmpctR Sn,x∈A∨x∈M)∧(∀x∈cmpctR S,x∈M∧x.1.step < P.steps.length∧x.1.offs.length≤K+D.length+1∧x.1.offs≠[])∧(cmpctR S).length≤3000 ∧
  ((cmpctR Sn).length≤24→Lv.map Prod.fst=((cmpctR S).filter fun x=>decide (x.1.step+1=P.steps.length)).map (fun x=>(x.1.offs,(En.nth Q 0).time))→AvPl P ψ A0 Q0 t K rest (cmpctR Sn) (L++Lv) (D++[En.nth Q 0])):=by
 have hev:=h.evs (En.nth Q 0) (by rw[En.nth_eq hq0];exact List.getElem_mem hq0)
 have hst:=front_sort h.hp h.apt hr
 generalize En.nth Q 0=ev at hr ht hM hpn hev hst ⊢
 have hl:=live_map P ev A
 obtain⟨s1,s2,s3,s4⟩:=event_step (P:=P) hP h.det h.ord hev hl hM hp hs rfl hpn hsn
 have hmem:=ended_mem (P:=P) h.det hev hl
 have hMx:∀x∈M,En.Det ψ x.1∧x.1.step < P.steps.length∧x.1.offs.length≤K+D.length+1:=fun x hx=>by
  have h1:x.1∈M.map Prod.fst:=List.mem_map.2 ⟨x,hx,rfl⟩
  rw[hM] at h1
  obtain⟨s,hs',h2⟩:=(hmem x.1).1 h1
  have h3:=En.news_det h.det hev s x.1 h2
  refine⟨h3.1,by rw[h3.2];exact hs',?_⟩
  obtain⟨s',-,⟨q,hq,-,he⟩ | ⟨-,he⟩⟩:=mem_grownG.1 h1
  ·rw[he]
   obtain⟨y,hy,rfl⟩:=List.mem_map.1 hq
   have:=h.ofl y (List.mem_filter.1 hy).1
   show (y.1.offs++[ev.off]).length≤_
   rw[List.length_append]
   simp
   omega
  ·rw[he]
   simp
 have hA':∀x∈cmpctR Sn,x∈A∨x∈M:=fun x hx=>(s3 x hx).imp (fun h=>(List.mem_filter.1 h).1) id
 have hlen:(cmpctR S).length≤3000:=by
  have h1:=cmpct_len S
  have h2:=hp.length_eq
  have h3:M.length=(grownG P.steps ev (geAll (A.filter fun x=>inWinP P.win ev.time x.1) ev)).length:=by rw[← hM,List.length_map]
  have h4:=grownG_len P.steps ev (geAll (A.filter fun x=>inWinP P.win ev.time x.1) ev)
  rw[geAll_length] at h4
  have h5:(A.filter fun x=>inWinP P.win ev.time x.1).length+1≤25:=by
   have:=List.length_filter_le (fun x=>inWinP P.win ev.time x.1) A
   have:=h.alen
   omega
  have h6:=Nat.mul_le_mul h5 hPn
  omega
 refine⟨s1,hA',fun x hx=>⟨s4 x hx,(hMx x (s4 x hx)).2.1,(hMx x (s4 x hx)).2.2,(hMx x (s4 x hx)).1.1⟩,hlen,fun hlen24 hLv=>?_⟩
 have hx24:¬ 24 < (En.next P (A.map Prod.fst) ev).length:=by rw[← s1,List.length_map];omega
 have hone:En.advInc P (A.map Prod.fst) [ev]=some ((En.news P (A.map Prod.fst) ev (P.steps.length - 1)).map (fun r=>(r.offs,ev.time)),En.next P (A.map Prod.fst) ev):=by
  simp[En.advInc,hx24]
 refine⟨?_,?_,?_,hrest,?_,?_,?_,?_,?_,?_,?_,hlen24,?_⟩
 ·rw[h.srt,hst,List.append_assoc];rfl
 ·intro d hd
  rcases List.mem_append.1 hd with hd | hd
  ·exact h.le d hd
  ·rw[List.mem_singleton.1 hd];exact ht
 ·rw[En.advInc_append,h.adv]
  simp only[hone]
  rw[List.map_append,hLv,s1,s2]
  rfl
 ·have:=h.apt.perm hr
  unfold En.Apt at this ⊢
  rw[List.map_cons] at this
  exact (List.nodup_cons.1 this).2
 ·exact fun e he=>h.evs e (hr.mem_iff.1 (List.mem_cons_of_mem _ he))
 ·rw[s1];exact En.ord_next h.ord
 ·intro q hq
  obtain⟨x,hx,rfl⟩:=List.mem_map.1 hq
  rcases hA' x hx with h1 | h1
  ·exact h.det _ (List.mem_map.2 ⟨x,h1,rfl⟩)
  ·exact (hMx x h1).1
 ·intro x hx
  rcases hA' x hx with h1 | h1
  ·exact h.stp x h1
  ·exact (hMx x h1).2.1
 ·intro x hx
  rw[List.length_append]
  rcases hA' x hx with h1 | h1
  ·have:=h.ofl x h1
   simp
   omega
  ·have:=(hMx x h1).2.2
   simp
   omega
 ·have h1:=hr.length_eq
  have h2:=h.qlen
  rw[List.length_append]
  simp at h1 ⊢
  omega
 ·have h1:=congrArg List.length hLv
  rw[List.length_map,List.length_map] at h1
  have h2:=List.length_filter_le (fun x=>decide (x.1.step+1=P.steps.length)) (cmpctR S)
  have h3:=h.llen
  rw[List.length_append,List.length_append]
  simp
  omega
theorem AvPl.fin {P:En.Pat}{ψ:Int→Int}{A0:List En.Rn}{Q0:List En.Ev}{t:Int}{K:Nat}{Q:List En.Ev}{A:List RV}{L:List MV}{D:List En.Ev}(h:AvPl P ψ A0 Q0 t K Q A L D)(hn:Q=[]∨t < (En.nth Q 0).time) :
  En.advInc P A0 ((En.sortEv Q0).filter fun e=>decide (e.time≤t))=some (L.map Prod.fst,A.map Prod.fst)∧En.sortEv Q=(En.sortEv Q0).filter fun e=>decide (t < e.time):=by
 have hall:∀e∈En.sortEv Q,t < e.time:=by
  intro e he
  have he':=(En.sortEv_perm Q).mem_iff.1 he
  rcases hn with rfl | hn
  ·cases he'
  ·obtain⟨i,hi,rfl⟩:=List.getElem_of_mem he'
   have:=h.hp.front i hi
   rw[En.nth_eq hi,En.evLe_iff] at this
   omega
 have hD:D.filter (fun e=>decide (e.time≤t))=D:=List.filter_eq_self.2 (fun d hd=>decide_eq_true (h.le d hd))
 have hD2:D.filter (fun e=>decide (t < e.time))=[]:=List.filter_eq_nil_iff.2 (fun d hd=>by have:=h.le d hd;simp;omega)
 have hS:(En.sortEv Q).filter (fun e=>decide (e.time≤t))=[]:=List.filter_eq_nil_iff.2 (fun d hd=>by have:=hall d hd;simp;omega)
 have hS2:(En.sortEv Q).filter (fun e=>decide (t < e.time))=En.sortEv Q:=List.filter_eq_self.2 (fun d hd=>decide_eq_true (hall d hd))
 constructor
 ·rw[h.srt,List.filter_append,hD,hS,List.append_nil,h.adv]
 ·rw[h.srt,List.filter_append,hD2,hS2,List.nil_append]
end Go.Proofs.YtfldcmdhneegmaaGreatDoor

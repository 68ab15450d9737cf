import Derived.Test.YtfldcmdhneegmaaGreatDoorX23
import Derived.Test.YtfldcmdhneegmaaGreatDoorX24
import Derived.Test.YtfldcmdhneegmaaGreatDoorX17
set_option maxHeartbeats 4000000
set_option maxRecDepth 1000000
namespace Go.Proofs.YtfldcmdhneegmaaGreatDoor
open Go.RowKit Go.Lib
theorem Pow10.below {w w':World}(h:Pow10 w)(hb:Below w.heap.size w w'):Pow10 w':=TabIs_below (g:=5) (by kernel_rfl) h hb
structure SvOk (P:En.Pat)(W Next:Int)(Q:List En.Ev)(A:List En.Rn):Prop where
 fine:Pl.Fine P.steps P.win
 hp:En.Hp Q Q.length
 apt:En.Apt Q
 q12:Q.length≤12
 evs:∀e∈Q,0≤e.off∧e.off < 9223372036854775808∧0≤e.kind∧e.kind < 2147483648∧-9223372036854775808≤e.time∧e.time < 9223372036854775808
 w0:-9223372036854775808≤W
 w1:W < 9223372036854775808
 n0:0≤Next
 n1:Next < 9223372036854775808
 a24:A.length≤24
 run:∀r∈A,r.step < 1000∧-9223372036854775808≤r.first∧r.first < 9223372036854775808∧∀o∈r.offs,0≤o∧o < 9223372036854775808
 len:(En.stateB (Pl.text P.steps P.win) W Next Q A).length≤9000000
theorem eSave_any (F:Nat→Prop)(eb:Nat)(P:En.Pat)(W Next:Int)(vs vq vr:Value)(Q:List En.Ev)(A:List RV)(w:World)(h:PEng F w eb P W Next vs vq vr Q A)(hs:SvOk P W Next Q (A.map Prod.fst))(hT:Pow10 w) :
  Calls Tryz.prog 40 #[.pointer (some ⟨eb,0,none⟩)] w fun e w'=>∃v,e=.returned v∧w'.ownsRow w.heap.size 5 1 v (Fr.framed (En.stateB (Pl.text P.steps P.win) W Next Q (A.map Prod.fst))).length (byteCells (Fr.framed (En.stateB (Pl.text P.steps P.win) W Next Q (A.map Prod.fst))))∧Below w.heap.size w w':=by
 obtain⟨c0,c1,c2,c3,c4,c5,-⟩:=six_cl h.blk
 obtain⟨ss,cs,hvs,-,-⟩:=RowAt.slice h.steps
 obtain⟨aq,cq,hvq⟩:=own_slice h.wait
 obtain⟨ar,cr,hvr,-,-⟩:=RowAt.slice h.runs
 rw[hvs] at c0
 rw[hvq] at c4
 rw[hvr] at c5
 have leb:=lt_of_block h.blk
 obtain⟨nx,hnx⟩:∃nx:Nat,Next=nx:=⟨Next.toNat,by have:=hs.n0;omega⟩
 have hA24:A.length≤24:=by have:=hs.a24;simpa using this
 have hQ12:=hs.q12
 have hn1:=hs.n1
 have htx:=Pl.text_length P.steps P.win hs.fine
 subst hnx
 have HP:=hid (And.intro h (And.intro hs hT))
 subst hvs hvq hvr
 clear h hs hT
 go_enter Tryz.func40,Tryz.ntmps40
 go_wp2_with (go_at_call 75;fail)
 refine (newWriter_any 83 w).mono ?_
 rintro e w1 ⟨b,rfl,g1,g2⟩
 have d0:=(cell_bel g2 ⟨eb,0,none⟩ leb).trans c0
 have d1:=(cell_bel g2 ⟨eb,1,none⟩ leb).trans c1
 have H1:=hid (And.intro g1 g2)
 have hs1:=g2.size
 clear g1 g2
 go_wp2_with (go_at_call 77;fail)
 refine (pString_row (fun b=>F b∧b≠eb) P.steps P.win _ w1 HP.out.2.1.fine (HP.out.1.steps.below H1.out.2) (HP.out.2.2.below H1.out.2)).mono ?_
 rintro e w2 ⟨rfl,g2⟩
 have H2:=hid (And.intro (H1.out.1.bel g2) (H1.out.2.trans (g2.mono hs1)))
 have hs2:=H2.out.2.size
 clear g2 d0 d1
 go_wp2_with (go_at_call 76;fail)
 refine (wText_k w.heap.size b [83] (Pl.text P.steps P.win) w2 H2.out.1 (by simp) (by omega) (by omega)).mono ?_
 rintro e w3 ⟨rfl,g1,g2,g3⟩
 have k3:=(WKept.below H2.out.2).trans g3
 have H3:=hid (And.intro g1 (And.intro (H2.out.2.trans g2) k3))
 have hs3:=k3.1
 have d2:=(cell_bel (H2.out.2.trans g2) ⟨eb,2,none⟩ leb).trans c2
 clear g1 g2 g3 k3
 have hlT:([83]++(Fr.num (Pl.text P.steps P.win).length++Pl.text P.steps P.win)).length≤1000:=by
  have:=Fr.num_length64 (n:=(Pl.text P.steps P.win).length) (by omega)
  simp only[List.length_append,List.length_cons,List.length_nil]
  omega
 go_wp2_with (go_at_call 78;fail)
 refine (wMoment_k w.heap.size b _ W w3 H3.out.1 HP.out.2.1.w0 HP.out.2.1.w1 (by omega) (by omega)).mono ?_
 rintro e w4 ⟨rfl,g1,g2,g3⟩
 have k4:=H3.out.2.2.trans g3
 have H4:=hid (And.intro g1 (And.intro (H3.out.2.1.trans g2) k4))
 have hs4:=k4.1
 have d3:=(cell_bel (H3.out.2.1.trans g2) ⟨eb,3,none⟩ leb).trans c3
 clear g1 g2 g3 k4 d2
 have hlM:([83]++(Fr.num (Pl.text P.steps P.win).length++Pl.text P.steps P.win)++Fr.mom W).length≤1010:=by
  have:=Fr.num_length64 (n:=Fr.zig W) (Fr.zig_lt HP.out.2.1.w0 HP.out.2.1.w1)
  rw[List.length_append]
  unfold Fr.mom
  omega
 go_wp2_with (go_at_call 79;fail)
 refine (wCount_k w.heap.size b _ nx w4 H4.out.1 (by omega) (by omega) (by omega)).mono ?_
 rintro e w5 ⟨rfl,g1,g2,g3⟩
 have k5:=H4.out.2.2.trans g3
 have hhd:[83]++(Fr.num (Pl.text P.steps P.win).length++Pl.text P.steps P.win)++Fr.mom W++Fr.num nx=En.headB (Pl.text P.steps P.win) W (nx:Int):=by simp[En.headB]
 rw[hhd] at g1
 have H5:=hid (And.intro g1 (And.intro (H4.out.2.1.trans g2) k5))
 have hs5:=k5.1
 have d4:=(cell_bel (H4.out.2.1.trans g2) ⟨eb,4,none⟩ leb).trans c4
 clear g1 g2 g3 k5 d3 hhd hlT hlM
 have hlen:=HP.out.2.1.len
 generalize hhB:En.headB (Pl.text P.steps P.win) W (nx:Int)=hB at H5
 have hst:En.stateB (Pl.text P.steps P.win) W (nx:Int) Q (A.map Prod.fst)=hB++(Fr.num Q.length++En.evsB (En.sortEv Q))++(Fr.num A.length++En.runsB (A.map Prod.fst)):=by
  unfold En.stateB
  rw[hhB,List.length_map]
 rw[hst] at hlen
 simp only[List.length_append] at hlen
 have HST:=hid hst
 clear hst hhB
 go_wp2_with (go_at_call 80;fail)
 refine (qSave_any w.heap.size b hB Q _ w5 H5.out.1 (H5.out.2.2.own HP.out.1.wait (by decide) (by decide)) HP.out.2.1.hp HP.out.2.1.apt hQ12 HP.out.2.1.evs (by simp only[List.length_append];omega) (by omega)).mono ?_
 rintro e w6 ⟨rfl,g1,g2,g3⟩
 have k6:=H5.out.2.2.trans g3
 have H6:=hid (And.intro g1 (And.intro (H5.out.2.1.trans g2) k6))
 have hs6:=k6.1
 have d5:=(cell_bel (H5.out.2.1.trans g2) ⟨eb,5,none⟩ leb).trans c5
 clear g1 g2 g3 k6 d4
 go_wp2_with (go_at_call 79;fail)
 refine (wCount_k w.heap.size b _ A.length w6 H6.out.1 (by omega) (by simp only[List.length_append];omega) (by omega)).mono ?_
 rintro e w7 ⟨rfl,g1,g2,g3⟩
 have k7:=H6.out.2.2.trans g3
 have H7:=hid (And.intro g1 (And.intro (H6.out.2.1.trans g2) k7))
 have hs7:=k7.1
 have d6:=(cell_bel (H6.out.2.1.trans g2) ⟨eb,5,none⟩ leb).trans c5
 clear g1 g2 g3 k7 d5
 go_wp2
 go_loopw [44] (fun s44 wr=>∃k:Nat,k≤A.length∧s44=.int .i64 k∧Hid (WrAt w.heap.size wr b (hB++(Fr.num Q.length++En.evsB (En.sortEv Q))++(Fr.num A.length++En.runsB ((A.map Prod.fst).take k)))∧Below w.heap.size w wr)) (fun s44 _=>A.length - (intOf s44).toNat)
 case atStart=>exact⟨0,by omega,rfl,by simpa [En.runsB] using H7.out.1,H7.out.2.1⟩
 case round=>
  obtain⟨k,hk,rfl,hr⟩:=hrel
  have hsr:=hr.out.2.size
  by_cases hlt:k < A.length
  ·have hk':(k:Int) < (A.length:Int):=by omega
   have hrow:RowAt (fun g=>F g∧RunT w g) wr (.slice ar A.length cr) 3 A.length (runCells A):=RowAt.frame HP.out.1.runs hsr (fun g hg _=>hr.out.2.block g hg)
   obtain⟨b3,o3,cap3,he3,hcell⟩:=RowAt.at hrow hlt
   obtain⟨q0,q1,q2⟩:=runCells_get A k hlt
   have r0:wr.cell? ⟨b3,o3+k * 3,none⟩=_:=hcell 0 _ (by omega) q0
   have r1:=hcell 1 _ (by omega) q1
   have r2:=hcell 2 _ (by omega) q2
   rw[← Nat.add_assoc] at r1 r2
   cases he3
   have hmem:A[k].1∈A.map Prod.fst:=List.mem_map_of_mem (List.getElem_mem hlt)
   obtain⟨rs,rf0,rf1,ro⟩:=HP.out.2.1.run _ hmem
   have hio:IntsAt (fun g=>g < w.heap.size) wr A[k].2 A[k].1.offs:=RowAt.frame (RowAt.mono (HP.out.1.offs _ (List.getElem_mem hlt)) (fun g hg _=>hg)) hsr (fun g hg _=>hr.out.2.block g hg)
   obtain⟨x,hx⟩:∃x,A[k]=x:=⟨_,rfl⟩
   rw[hx] at r0 r1 r2 rs rf0 rf1 ro hio
   obtain⟨a4,c4',hv4,-,-⟩:=RowAt.slice hio
   rw[hv4] at r1 hio
   have hal:=(Below.refl wr.heap.size wr).alloc (Nat.le_refl _) (.cells #[.int .i64 (x.1.step:Int),.slice a4 x.1.offs.length c4',.int .i64 x.1.first] 164)
   have HX:=hid (And.intro hx (And.intro hio (And.intro ro hal)))
   have hbk:(w.heap.size:Nat)≤wr.heap.size:=hsr
   have hlk:(hB++(Fr.num Q.length++En.evsB (En.sortEv Q))++(Fr.num A.length++En.runsB ((A.map Prod.fst).take k))++En.runB x.1).length≤100000000:=by
    have h3:=En.flat_take_le En.runB (A.map Prod.fst) (k+1)
    rw[En.flat_take _ _ _ (by simpa using hlt)] at h3
    simp only[List.getElem_map,hx,List.length_append] at h3
    simp only[En.runsB,List.length_append] at hlen ⊢
    omega
   clear hx hio ro hal hv4 hrow hcell q0 q1 q2 hmem
   go_wp2_with (go_at_call 81;fail)
   refine (rSaveE_any w.heap.size b _ x.1 (.slice a4 x.1.offs.length c4') _ (hr.out.1.bel HX.out.2.2.2) (HX.out.2.1.below HX.out.2.2.2) HX.out.2.2.1 rs rf0 rf1 hlk (by simp;omega)).mono ?_
   rintro e w8 ⟨rfl,g1,g2,g3⟩
   have H8:=hid (And.intro g1 ((hr.out.2.trans (HX.out.2.2.2.mono hbk)).trans g2))
   clear g1 g2 g3
   go_wp2
   go_roundw
   case rel=>
    refine⟨k+1,by omega,by go_num,?_,H8.out.2⟩
    have e5:En.runsB ((A.map Prod.fst).take (k+1))=En.runsB ((A.map Prod.fst).take k)++En.runB x.1:=by
     unfold En.runsB
     rw[En.flat_take _ _ _ (by simpa using hlt)]
     simp[HX.out.1]
    rw[e5]
    have:=H8.out.1
    simpa using this
   case measure=>simp[intOf];omega
  ·obtain rfl:k=A.length:=by omega
   have hk':decide ((A.length:Int) < (A.length:Int))=false:=decide_eq_false (by omega)
   have hfull:(A.map Prod.fst).take A.length=A.map Prod.fst:=List.take_of_length_le (by simp)
   have h9:=hr.out.1
   rw[hfull] at h9
   have H9:=hid h9
   clear h9 hfull
   go_wp2_with (go_at_call 82;fail)
   refine (wFrame_any w.heap.size b _ wr H9.out (by have:=Fr.num_pos A.length;simp only[List.length_append];omega) (by simp only[List.length_append];omega)).mono ?_
   rintro e w10 ⟨v10,rfl,ho10,hb10⟩
   rw[← HST.out] at ho10
   obtain⟨nL,hnL⟩:∃nL,(Fr.framed (En.stateB (Pl.text P.steps P.win) W (nx:Int) Q (A.map Prod.fst))).length=nL:=⟨_,rfl⟩
   rw[hnL] at ho10
   have HnL:=hid hnL
   clear hnL
   obtain⟨a10,c10,rfl⟩:=own_slice ho10
   have H10:=hid (And.intro (own_mono ho10 hsr) (hr.out.2.trans (hb10.mono hsr)))
   clear ho10 hb10
   go_wp2
   go_ret
   refine⟨_,rfl,?_,H10.out.2⟩
   rw[HnL.out]
   exact H10.out.1
theorem sSave_any (F:Nat→Prop)(sb eb:Nat)(P:En.Pat)(W Next:Int)(vs vq vr:Value)(Q:List En.Ev)(A:List RV)(w:World)(hsb:w.heap[sb]?=some (.cells #[.pointer (some ⟨eb,0,none⟩)] 74 (0,0)))(h:PEng F w eb P W Next vs vq vr Q A)(hs:SvOk P W Next Q (A.map Prod.fst))(hT:Pow10 w) :
  Calls Tryz.prog 13 #[.pointer (some ⟨sb,0,none⟩)] w fun e w'=>∃v,e=.returned v∧w'.ownsRow w.heap.size 5 1 v (Fr.framed (En.stateB (Pl.text P.steps P.win) W Next Q (A.map Prod.fst))).length (byteCells (Fr.framed (En.stateB (Pl.text P.steps P.win) W Next Q (A.map Prod.fst))))∧Below w.heap.size w w':=by
 obtain⟨s0,-⟩:=one_cell hsb
 have HC:=hid (eSave_any F eb P W Next vs vq vr Q A w h hs hT)
 clear h hs hT hsb
 go_enter Tryz.func13,Tryz.ntmps13
 go_wp2_with (go_at_call 40;fail)
 refine HC.out.mono ?_
 rintro e w1 ⟨v1,rfl,ho1,hb1⟩
 obtain⟨a1,c1,rfl⟩:=own_slice ho1
 have H1:=hid (And.intro ho1 hb1)
 clear ho1 hb1
 go_wp2
 go_ret
 exact⟨_,rfl,H1.out.1,H1.out.2⟩
end Go.Proofs.YtfldcmdhneegmaaGreatDoor
namespace Go.Proofs.YtfldcmdhneegmaaGreatDoor
namespace En
structure Rv (Next:Int)(B:List Rn):Prop where
 offs:∀r∈B,∀o∈r.offs,0≤o∧o < Next
 ne:∀r∈B,r.offs≠[]
 pre:∀r∈B,2≤r.offs.length→∃q∈B,q.offs=r.offs.dropLast∧q.first=r.first
structure Pv (P:Pat)(Next:Int)(Q:List Ev)(B:List Rn):Prop where
 evs:∀e∈Q,0≤e.off∧e.off < Next∧has P e.kind=true
 runs:Rv Next B
theorem sub_len {α:Type} [DecidableEq α]:∀(l m:List α),l.Nodup→(∀x∈l,x∈m)→l.length≤m.length:=by
 intro l
 induction l with
 | nil=>intro m _ _;simp
 | cons x t ih=>
  intro m hn hs
  rw[List.nodup_cons] at hn
  have hx:=hs x List.mem_cons_self
  have h1:=ih (m.erase x) hn.2 (fun y hy=>(List.mem_erase_of_ne (fun e=>hn.1 (by rw[← e];exact hy))).2 (hs y (List.mem_cons_of_mem _ hy)))
  rw[List.length_erase_of_mem hx] at h1
  have h2:=List.length_pos_of_mem hx
  simp only[List.length_cons]
  omega
theorem Rv.lens {Next:Int}{B:List Rn}(h:Rv Next B):∀(n:Nat) (r:Rn),r∈B→r.offs.length=n→∀k,1≤k→k≤n→k∈B.map fun q=>q.offs.length:=by
 intro n
 induction n with
 | zero=>intro r _ _ k h1 h2;omega
 | succ n ih=>
  intro r hr hl k h1 h2
  by_cases hk:k=n+1
  ·subst hk
   exact List.mem_map.2 ⟨r,hr,hl⟩
  ·by_cases h0:2≤r.offs.length
   ·obtain⟨q,hq,e1,-⟩:=h.pre r hr h0
    exact ih q hq (by rw[e1,List.length_dropLast,hl];rfl) k h1 (by omega)
   ·omega
theorem Rv.short {Next:Int}{B:List Rn}(h:Rv Next B){r:Rn}(hr:r∈B):r.offs.length≤B.length:=by
 have h1:=sub_len (List.range' 1 r.offs.length) (B.map fun q=>q.offs.length) List.nodup_range' (fun k hk=>by
  obtain⟨h2,h3⟩:=List.mem_range'_1.1 hk
  exact h.lens _ r hr rfl k h2 (by omega))
 simpa using h1
theorem Rv.filter {Next:Int}{B:List Rn}(h:Rv Next B)(p:Rn→Bool)(hp:∀r q:Rn,r.first=q.first→p r=p q):Rv Next (B.filter p):=
 ⟨fun r hr=>h.offs r (List.mem_filter.1 hr).1,fun r hr=>h.ne r (List.mem_filter.1 hr).1,fun r hr h2=>by
  obtain⟨h3,h4⟩:=List.mem_filter.1 hr
  obtain⟨q,hq,e1,e2⟩:=h.pre r h3 h2
  exact⟨q,List.mem_filter.2 ⟨hq,by rw[hp q r e2];exact h4⟩,e1,e2⟩⟩
theorem Rv.more {Next Next':Int}{B:List Rn}(h:Rv Next B)(hn:Next≤Next'):Rv Next' B:=⟨fun r hr o ho=>by have:=h.offs r hr o ho;omega,h.ne,h.pre⟩
section
variable {P:Pat} {Next:Int} {ψ:Int→Int}
theorem Rv.nx {A:List Rn}{ev:Ev}(h:Rv Next A)(hA:∀q∈A,Det ψ q)(hev:ev.time=ψ ev.off)(ho:0≤ev.off∧ev.off < Next):Rv Next (next P A ev):=by
 have hN:∀s,∀q∈news P A ev s,Det ψ q:=fun s q hq=>(news_det hA hev s q hq).1
 have hm:=fun x=>mem_next (P:=P) hA hN x
 refine⟨fun r hr o ho'=>?_,fun r hr=>?_,fun r hr h2=>?_⟩
 ·rcases (hm r).1 hr with ⟨h1,-⟩ | ⟨s,-,-,h1⟩
  ·exact h.offs r h1 o ho'
  ·obtain⟨-,⟨-,rfl⟩ | ⟨q,hq,-,-,rfl⟩⟩:=(mem_news hA hev s r).1 h1
   ·have:o=ev.off:=by simpa using ho'
    omega
   ·rcases List.mem_append.1 (show o∈q.offs++[ev.off] from ho') with h3 | h3
    ·exact h.offs q hq o h3
    ·have:o=ev.off:=by simpa using h3
     omega
 ·rcases (hm r).1 hr with ⟨h1,-⟩ | ⟨s,-,-,h1⟩
  ·exact h.ne r h1
  ·exact (hN s r h1).1
 ·rcases (hm r).1 hr with ⟨h1,hf⟩ | ⟨s,-,-,h1⟩
  ·obtain⟨q,hq,e1,e2⟩:=h.pre r h1 h2
   exact⟨q,(hm q).2 (Or.inl ⟨hq,by rw[e2];exact hf⟩),e1,e2⟩
  ·obtain⟨-,⟨-,rfl⟩ | ⟨q,hq,-,hf,rfl⟩⟩:=(mem_news hA hev s r).1 h1
   ·simp at h2
   ·exact⟨q,(hm q).2 (Or.inl ⟨hq,hf⟩),by simp[ext],rfl⟩
theorem Rv.adv (l:List Ev):∀(A B:List Rn) (m:List (List Int × Int)),Rv Next A→(∀q∈A,Det ψ q)→(∀e∈l,e.time=ψ e.off∧0≤e.off∧e.off < Next)→advInc P A l=some (m,B)→Rv Next B:=by
 induction l with
 | nil=>
  intro A B m h _ _ e
  simp[advInc] at e
  rw[← e.2]
  exact h
 | cons ev t ih=>
  intro A B m h hA hl e
  have hev:=(hl ev List.mem_cons_self).1
  have hN:∀s,∀q∈news P A ev s,Det ψ q:=fun s q hq=>(news_det hA hev s q hq).1
  unfold advInc at e
  split at e
  ·cases e
  ·cases h':advInc P (next P A ev) t with
   | none=>rw[h'] at e;cases e
   | some q=>
    obtain⟨m',B'⟩:=q
    rw[h'] at e
    simp only[Option.some.injEq,Prod.mk.injEq] at e
    rw[← e.2]
    exact ih (next P A ev) B' m' (h.nx hA hev (hl ev List.mem_cons_self).2) (fun x hx=>by
     rcases (mem_next hA hN x).1 hx with ⟨h1,-⟩ | ⟨s,-,-,h1⟩
     ·exact hA x h1
     ·exact hN s x h1) (fun e he=>hl e (List.mem_cons_of_mem _ he)) h'
theorem Pv.start (P:Pat):Pv P 0 [] []:=⟨by simp,by simp,by simp,by simp⟩
theorem Pv.adv {W t:Int}{Q:List Ev}{B B':List Rn}{K:Nat}{T:Int→Int}{m:List (List Int × Int)}(h:Pv P Next Q B)(hw:Pw P W Next Q B K T)(ha:advInc P B ((sortEv Q).filter fun e=>decide (e.time≤t))=some (m,B')) :
  Pv P Next ((sortEv Q).filter fun e=>decide (t < e.time)) (B'.filter (lastsP P.win t)):=by
 refine⟨fun e he=>h.evs e ((sortEv_perm Q).mem_iff.1 (List.mem_filter.1 he).1),?_⟩
 refine (Rv.adv (ψ:=T) _ B B' m h.runs (hw.det T (fun _ _=>rfl)) (fun e he=>?_) ha).filter _ (fun r q e=>by unfold lastsP;rw[e])
 have hm:=(sortEv_perm Q).mem_iff.1 (List.mem_filter.1 he).1
 exact⟨(hw.evs e hm).2.2.2,(h.evs e hm).1,(h.evs e hm).2.1⟩
end
end En
namespace En
structure Rz (P:Pat)(X:List Int)(B:List Rn):Prop where
 nodup:∀r∈B,r.offs.Nodup
 wait:∀r∈B,∀o∈r.offs,o∉X
 fits:∀r∈B,fits P.steps r.step r.offs.length=true
structure Pz (P:Pat)(W:Int)(Q:List Ev)(B:List Rn):Prop where
 rz:Rz P (Q.map Ev.off) B
 lasts:∀r∈B,far W r.first < P.win
theorem Rz.sub {P:Pat}{X Y:List Int}{B C:List Rn}(h:Rz P X B)(hB:∀r∈C,r∈B)(hX:∀o∈Y,o∈X):Rz P Y C:=
 ⟨fun r hr=>h.nodup r (hB r hr),fun r hr o ho hy=>h.wait r (hB r hr) o ho (hX o hy),fun r hr=>h.fits r (hB r hr)⟩
theorem fits_step {l:List (Int × Bool)}{s n:Nat}(h:fits l s n=true):fits l (s+1) (n+1)=true:=by
 unfold fits at h ⊢
 rw[Bool.or_eq_true] at h ⊢
 rcases h with h | h
 ·exact Or.inl (by have:=of_decide_eq_true h;exact decide_eq_true (by omega))
 ·rw[Bool.and_eq_true] at h ⊢
  refine Or.inr ⟨decide_eq_true (by have:=of_decide_eq_true h.1;omega),?_⟩
  obtain⟨x,hx,he⟩:=List.any_eq_true.1 h.2
  exact List.any_eq_true.2 ⟨x,(List.take_subset_take_left l (by omega)) hx,he⟩
theorem fits_again {P:Pat}{s n:Nat}(h:fits P.steps s n=true)(hp:plusAt P s=true):fits P.steps s (n+1)=true:=by
 unfold fits at h ⊢
 rw[Bool.or_eq_true] at h ⊢
 refine Or.inr ?_
 rw[Bool.and_eq_true]
 have h1:s+1≤n:=by
  rcases h with h | h
  ·have:=of_decide_eq_true h
   omega
  ·rw[Bool.and_eq_true] at h
   have:=of_decide_eq_true h.1
   omega
 refine⟨decide_eq_true (by omega),?_⟩
 unfold plusAt at hp
 cases hx:P.steps[s]? with
 | none=>rw[hx] at hp;cases hp
 | some x=>
  rw[hx] at hp
  refine List.any_eq_true.2 ⟨x,?_,by simpa using hp⟩
  obtain⟨hs,he⟩:=List.getElem?_eq_some_iff.1 hx
  refine List.mem_of_getElem? (i:=s) ?_
  rw[List.getElem?_take,if_pos (by omega)]
  exact hx
section
variable {P:Pat} {ψ:Int→Int}
theorem Rz.nx {X:List Int}{A:List Rn}{ev:Ev}(h:Rz P (ev.off::X) A)(hA:∀q∈A,Det ψ q)(hev:ev.time=ψ ev.off)(hX:ev.off∉X):Rz P X (next P A ev):=by
 have hN:∀s,∀q∈news P A ev s,Det ψ q:=fun s q hq=>(news_det hA hev s q hq).1
 have hm:=fun x=>mem_next (P:=P) hA hN x
 refine⟨fun r hr=>?_,fun r hr o ho=>?_,fun r hr=>?_⟩
 ·rcases (hm r).1 hr with ⟨h1,-⟩ | ⟨s,-,-,h1⟩
  ·exact h.nodup r h1
  ·obtain⟨-,⟨-,rfl⟩ | ⟨q,hq,-,-,rfl⟩⟩:=(mem_news hA hev s r).1 h1
   ·simp
   ·show (q.offs++[ev.off]).Nodup
    rw[List.nodup_append]
    refine⟨h.nodup q hq,by simp,fun a ha b hb e=>?_⟩
    have hb':b=ev.off:=by simpa using hb
    exact h.wait q hq a ha (by rw[e,hb'];exact List.mem_cons_self)
 ·rcases (hm r).1 hr with ⟨h1,-⟩ | ⟨s,-,-,h1⟩
  ·exact fun hx=>h.wait r h1 o ho (List.mem_cons_of_mem _ hx)
  ·obtain⟨-,⟨-,rfl⟩ | ⟨q,hq,-,-,rfl⟩⟩:=(mem_news hA hev s r).1 h1
   ·have:o=ev.off:=by simpa using ho
    rw[this]
    exact hX
   ·rcases List.mem_append.1 (show o∈q.offs++[ev.off] from ho) with h3 | h3
    ·exact fun hx=>h.wait q hq o h3 (List.mem_cons_of_mem _ hx)
    ·have:o=ev.off:=by simpa using h3
     rw[this]
     exact hX
 ·rcases (hm r).1 hr with ⟨h1,-⟩ | ⟨s,-,-,h1⟩
  ·exact h.fits r h1
  ·obtain⟨-,⟨-,rfl⟩ | ⟨q,hq,hst,-,rfl⟩⟩:=(mem_news hA hev s r).1 h1
   ·simp[Go.Proofs.YtfldcmdhneegmaaGreatDoor.fits]
   ·have hq':=h.fits q hq
    show Go.Proofs.YtfldcmdhneegmaaGreatDoor.fits P.steps s (q.offs++[ev.off]).length=true
    rw[List.length_append]
    rcases hst with hst | ⟨hst,hp⟩
    ·rw[← hst]
     exact fits_step hq'
    ·rw[hst] at hq'
     exact fits_again hq' hp
theorem Rz.adv {X:List Int}(l:List Ev):∀(A B:List Rn) (m:List (List Int × Int)),Rz P (l.map Ev.off++X) A→(l.map Ev.off++X).Nodup→(∀q∈A,Det ψ q)→(∀e∈l,e.time=ψ e.off)→advInc P A l=some (m,B)→Rz P X B:=by
 induction l with
 | nil=>
  intro A B m h _ _ _ e
  simp[advInc] at e
  rw[← e.2]
  exact h
 | cons ev t ih=>
  intro A B m h hX hA hl e
  have hev:=hl ev List.mem_cons_self
  have hN:∀s,∀q∈news P A ev s,Det ψ q:=fun s q hq=>(news_det hA hev s q hq).1
  have hX':(ev.off::(t.map Ev.off++X)).Nodup:=hX
  rw[List.nodup_cons] at hX'
  unfold advInc at e
  split at e
  ·cases e
  ·cases h':advInc P (next P A ev) t with
   | none=>rw[h'] at e;cases e
   | some q=>
    obtain⟨m',B'⟩:=q
    rw[h'] at e
    simp only[Option.some.injEq,Prod.mk.injEq] at e
    rw[← e.2]
    exact ih (next P A ev) B' m' (Rz.nx h hA hev hX'.1) hX'.2 (fun x hx=>by
     rcases (mem_next hA hN x).1 hx with ⟨h1,-⟩ | ⟨s,-,-,h1⟩
     ·exact hA x h1
     ·exact hN s x h1) (fun e he=>hl e (List.mem_cons_of_mem _ he)) h'
theorem Pz.start (P:Pat)(W:Int):Pz P W [] []:=⟨⟨by simp,by simp,by simp⟩,by simp⟩
theorem Pz.adv {W t Next:Int}{Q:List Ev}{B B':List Rn}{K:Nat}{T:Int→Int}{m:List (List Int × Int)}(h:Pz P W Q B)(hw:Pw P W Next Q B K T)(ha:advInc P B ((sortEv Q).filter fun e=>decide (e.time≤t))=some (m,B')) :
  Pz P t ((sortEv Q).filter fun e=>decide (t < e.time)) (B'.filter (lastsP P.win t)):=by
 have hp:((sortEv Q).filter (fun e=>decide (e.time≤t))++(sortEv Q).filter (fun e=>decide (t < e.time))).Perm Q:=by
  have h1:(fun e:Ev=>decide (t < e.time))=fun e=>!decide (e.time≤t):=by
   funext e
   rw[← decide_not]
   exact decide_eq_decide.2 (by omega)
  rw[h1]
  exact (List.filter_append_perm _ _).trans (sortEv_perm Q)
 have hq:(((sortEv Q).filter fun e=>decide (e.time≤t)).map Ev.off++((sortEv Q).filter fun e=>decide (t < e.time)).map Ev.off).Perm (Q.map Ev.off):=by
  rw[← List.map_append]
  exact hp.map _
 have hz:=Rz.adv (ψ:=T) (X:=((sortEv Q).filter fun e=>decide (t < e.time)).map Ev.off) _ B B' m (h.rz.sub (fun r hr=>hr) (fun o ho=>hq.mem_iff.1 ho)) (hq.nodup_iff.2 hw.apt) (hw.det T (fun _ _=>rfl)) (fun e he=>(hw.evs e ((sortEv_perm Q).mem_iff.1 (List.mem_filter.1 he).1)).2.2.2) ha
 refine⟨hz.sub (fun r hr=>(List.mem_filter.1 hr).1) (fun o ho=>ho),fun r hr=>?_⟩
 have h2:=(List.mem_filter.1 hr).2
 unfold lastsP at h2
 exact of_decide_eq_true h2
end
end En
end Go.Proofs.YtfldcmdhneegmaaGreatDoor

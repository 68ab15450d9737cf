import Derived.Test.YtfldcmdhneegmaaGreatDoorX32
import Derived.Test.YtfldcmdhneegmaaGreatDoorX25
set_option maxHeartbeats 4000000
set_option maxRecDepth 1000000
namespace Go.Proofs.YtfldcmdhneegmaaGreatDoor.Fr
def rdEvs (steps:List (Int × Bool))(nx:Nat)(wm:Int):Nat→List En.Ev→List UInt8→Option (List En.Ev × List UInt8)
 | 0,acc,l=>some (acc,l)
 | k+1,acc,l=>
  match rdEv steps nx wm l with
  | none=>none
  | some (x,r)=>
   if (acc.any fun y=>y.off == x.off)=true then none
   else if acc=[]∨En.evLt (En.nth acc (acc.length - 1)) x=true then rdEvs steps nx wm k (acc++[x]) r else none
def rdWait (steps:List (Int × Bool))(nx:Nat)(wm:Int)(l:List UInt8):Option (List En.Ev × List UInt8):=
 match rdB 13 l with
 | none=>none
 | some (n,r)=>rdEvs steps nx wm n [] r
theorem rdEv_left {l r r2:List UInt8}{steps:List (Int × Bool)}{nx:Nat}{wm:Int}{x:En.Ev}(h:Left l r)(e:rdEv steps nx wm r=some (x,r2)):Left l r2∧0≤x.off∧x.off < nx:=by
 unfold rdEv at e
 cases x1:rdB nx r with
 | none=>rw[x1] at e;cases e
 | some p1=>
  obtain⟨n,r1⟩:=p1
  rw[x1] at e
  simp only[] at e
  have y1:=rdB_some x1
  cases x2:rdB 1114112 r1 with
  | none=>rw[x2] at e;cases e
  | some p2=>
   obtain⟨c,r2'⟩:=p2
   rw[x2] at e
   simp only[] at e
   have y2:=rdB_some x2
   split at e
   ·cases x3:rdM r2' with
    | none=>rw[x3] at e;cases e
    | some p3=>
     obtain⟨t,r3⟩:=p3
     rw[x3] at e
     simp only[] at e
     split at e
     ·simp only[Option.some.injEq,Prod.mk.injEq] at e
      obtain⟨rfl,rfl⟩:=e
      obtain⟨m,hm,-⟩:=Fr.rdM_some x3
      exact⟨((h.rd y1.1).rd y2.1).rd hm,by simp,by have:=y1.2;simp;omega⟩
     ·cases e
   ·cases e
end Go.Proofs.YtfldcmdhneegmaaGreatDoor.Fr
namespace Go.Proofs.YtfldcmdhneegmaaGreatDoor
open Go.RowKit Go.Lib
structure Keep (D:Nat→Prop)(w w':World):Prop where
 os:w'.os=w.os
 tape:w'.tape=w.tape
 output:w'.output=w.output
 size:w.heap.size≤w'.heap.size
 block:∀k,k < w.heap.size→¬ D k→w'.heap[k]?=w.heap[k]?
theorem Keep.refl (D:Nat→Prop)(w:World):Keep D w w:=⟨rfl,rfl,rfl,Nat.le_refl _,fun _ _ _=>rfl⟩
theorem Keep.trans {D:Nat→Prop}{w w1 w2:World}(h:Keep D w w1)(h':Keep D w1 w2):Keep D w w2:=
 ⟨h'.os.trans h.os,h'.tape.trans h.tape,h'.output.trans h.output,Nat.le_trans h.size h'.size,fun k hk hne=>(h'.block k (Nat.lt_of_lt_of_le hk h.size) hne).trans (h.block k hk hne)⟩
theorem Keep.mono {D E:Nat→Prop}{w w':World}(h:Keep D w w')(hD:∀k,k < w.heap.size→D k→E k):Keep E w w':=⟨h.os,h.tape,h.output,h.size,fun k hk hn=>h.block k hk (fun hd=>hn (hD k hk hd))⟩
theorem But.keep {D:Nat→Prop}{b:Nat}{w w':World}(h:But b w w')(hb:D b):Keep D w w':=⟨h.os,h.tape,h.output,h.size,fun k hk hn=>h.block k hk (by intro e;cases e;exact hn hb)⟩
theorem Keep.after {D E:Nat→Prop}{w w1 w2:World}(h:Keep D w w1)(h':Keep E w1 w2)(hE:∀k,k < w.heap.size→E k→D k):Keep D w w2:=
 ⟨h'.os.trans h.os,h'.tape.trans h.tape,h'.output.trans h.output,Nat.le_trans h.size h'.size,fun k hk hn=>(h'.block k (Nat.lt_of_lt_of_le hk h.size) (fun e=>hn (hE k hk e))).trans (h.block k hk hn)⟩
theorem Below.keep {D:Nat→Prop}{w w':World}(h:Below w.heap.size w w'):Keep D w w':=⟨h.os,h.tape,h.output,h.size,fun k hk _=>h.block k hk⟩
theorem Keep.drew1 {D:Nat→Prop}{w w':World}(h:Keep D w w'):Keep D w w'.drew:=⟨h.os,h.tape,h.output,h.size,h.block⟩
theorem Keep.drewR {D:Nat→Prop}{w w':World}(h:Keep D w w')(q:Nat):Keep D w (w'.drewN q):=⟨h.os,h.tape,h.output,h.size,h.block⟩
theorem RowAt.keep {D F:Nat→Prop}{w w':World}{v:Value}{k n:Nat}{xs:List Value}(h:RowAt F w v k n xs)(hb:Keep D w w')(hF:∀i,i < w.heap.size→F i→¬ D i):RowAt F w' v k n xs:=
 h.frame hb.size (fun i hi hFi=>hb.block i hi (hF i hi hFi))
theorem own_keep {D:Nat→Prop}{w w1:World}{base:Nat}{e:TypeId}{size:Nat}{v:Value}{n:Nat}{xs:List Value}(h:w.ownsRow base e size v n xs)(hb:Keep D w w1)(hD:∀k,base≤k→¬ D k):w1.ownsRow base e size v n xs:=by
 refine⟨h.1,?_⟩
 rcases h.2 with h0 | ⟨g,cap,cur,hv,hb1,hg,rest⟩
 ·exact Or.inl h0
 ·exact Or.inr ⟨g,cap,cur,hv,hb1,(hb.block g (lt_of_block hg) (hD g hb1)).trans hg,rest⟩
theorem own_nil (w:World)(base:Nat)(e:TypeId)(size:Nat):w.ownsRow base e size (.slice none 0 0) 0 []:=⟨by simp,Or.inl ⟨rfl,rfl⟩⟩
structure WtAt (F S:Nat→Prop)(v vs vr:Value)(l:List UInt8)(steps:List (Int × Bool))(b eb nx:Nat)(win wm:Int)(w W:World)(r:List UInt8)(vq:Value)(acc:List En.Ev):Prop where
 eng:W.heap[eb]?=some (.cells #[vs,.int .i64 win,.int .i64 wm,.int .i64 nx,vq,vr] 159 (0,0))
 rd:RdAt W b v (l.length - r.length)
 le:Fr.Left l r
 bytes:BytesAt F W v l
 st:StepsAt S W vs steps
 row:QRow w.heap.size W vq acc
 keep:Keep (fun k=>k=b∨k=eb) w W
def WaitEnd (F S:Nat→Prop)(v vs vr:Value)(l r:List UInt8)(steps:List (Int × Bool))(b eb nx:Nat)(win wm:Int)(w:World)(e:Ending)(w':World):Prop:=
 Keep (fun k=>k=b∨k=eb) w w' ∧
  match Fr.rdWait steps nx wm r with
  | some (Q,r')=>e=.returned (.tuple #[])∧∃vq,WtAt F S v vs vr l steps b eb nx win wm w w' r' vq Q
  | none=>BytesPanic e
theorem eng_cells {W:World}{b:Nat}{x0 x1 x2 x3 x4 x5:Value}{t:TypeId}(h:W.heap[b]?=some (.cells #[x0,x1,x2,x3,x4,x5] t (0,0))):W.cell? ⟨b,0,none⟩=some x0∧W.cell? ⟨b,1,none⟩=some x1∧W.cell? ⟨b,2,none⟩=some x2∧W.cell? ⟨b,3,none⟩=some x3∧W.cell? ⟨b,4,none⟩=some x4∧W.cell? ⟨b,5,none⟩=some x5∧(∀i,W.frozen? ⟨b,i,none⟩=false):=by
 simp[World.cell?,World.frozen?,h]
theorem eng_set4 {w:World}{b:Nat}{x0 x1 x2 x3 x4 x5:Value}{t:TypeId}(h:w.heap[b]?=some (.cells #[x0,x1,x2,x3,x4,x5] t (0,0)))(u:Value):(w.setCell ⟨b,4,none⟩ u).heap[b]?=some (.cells #[x0,x1,x2,x3,u,x5] t (0,0)):=by
 have hlt:=lt_of_block h
 have h':w.heap[b]=.cells #[x0,x1,x2,x3,x4,x5] t (0,0):=by simpa [Array.getElem?_eq_getElem hlt] using h
 show (w.heap.modify b _)[b]?=_
 rw[Array.getElem?_eq_getElem (by simpa using hlt),Array.getElem_modify_self,h']
 rfl
structure LdEnv (F S:Nat→Prop)(b eb:Nat)(w:World):Prop where
 fb:¬ F b
 sb:¬ S b
 fe:¬ F eb
 se:¬ S eb
 ne:eb≠b
 fl:∀c,F c→c < w.heap.size
 sl:∀c,S c→c < w.heap.size
theorem WtAt.but {F S:Nat→Prop}{v vs vr:Value}{l:List UInt8}{steps:List (Int × Bool)}{b eb nx:Nat}{win wm:Int}{w W W':World}{r r':List UInt8}{vq:Value}{acc:List En.Ev}(h:WtAt F S v vs vr l steps b eb nx win wm w W r vq acc)(E:LdEnv F S b eb w)(hbw:b < w.heap.size)(hb:But b W W')(hr:RdAt W' b v (l.length - r'.length))(hle:Fr.Left l r'):WtAt F S v vs vr l steps b eb nx win wm w W' r' vq acc:=
 ⟨(hb.block _ (lt_of_block h.eng) (by simpa using E.ne)).trans h.eng,hr,hle,h.bytes.but hb E.fb,RowAt.but h.st hb E.sb,own_keep h.row (hb.keep (D:=fun k=>k=b) rfl) (fun k hk e=>by omega),h.keep.after (hb.keep (D:=fun k=>k=b∨k=eb) (.inl rfl)) (fun _ _ h=>h)⟩
theorem WtAt.push {F S:Nat→Prop}{v vs vr:Value}{l:List UInt8}{steps:List (Int × Bool)}{b eb nx:Nat}{win wm:Int}{w W W':World}{r:List UInt8}{vq vq':Value}{acc:List En.Ev}{x:En.Ev}{o:Obj}(h:WtAt F S v vs vr l steps b eb nx win wm w W r vq acc)(E:LdEnv F S b eb w)(hbw:b < w.heap.size)(hew:eb < w.heap.size)
  (gr:(W.alloc o).drew.grownBy W' vq.ownBlock) (ow:W'.ownsRow w.heap.size 194 3 vq' (acc.length+1) (evCells acc++[.int .i64 x.off,.int .i32 x.kind,.int .i64 x.time])) :
  W'.cell? ⟨eb,4,none⟩=some vq∧W'.frozen? ⟨eb,4,none⟩=false∧WtAt F S v vs vr l steps b eb nx win wm w (W'.setCell ⟨eb,4,none⟩ vq') r vq' (acc++[x]):=by
 have hk:Keep (fun k=>w.heap.size≤k) W W':=by
  refine⟨gr.os,gr.tape,gr.output,?_,fun k hk hn=>?_⟩
  ·have:=gr.size
   have h2:(W.alloc o).drew.heap.size=W.heap.size+1:=by show (W.alloc o).heap.size=_;simp
   omega
  ·refine (gr.block k (by show k < (W.alloc o).heap.size;simp;omega) (fun e=>?_)).trans (Below.heap_alloc _ _ _ hk)
   exact hn (own_block h.row k e.symm).1
 have he:W'.heap[eb]?=some (.cells #[vs,.int .i64 win,.int .i64 wm,.int .i64 nx,vq,vr] 159 (0,0)):=(hk.block eb (lt_of_block h.eng) (by omega)).trans h.eng
 obtain⟨-,-,-,-,c4,-,cf⟩:=eng_cells he
 have hs:=but_set W' eb 4 vq'
 refine⟨c4,cf 4,eng_set4 he _,?_,h.le,?_,?_,?_,?_⟩
 ·exact (hs.block _ (Nat.lt_of_lt_of_le hbw (Nat.le_trans h.keep.size hk.size)) (by simpa using E.ne.symm)).trans ((hk.block b (lt_of_block h.rd) (by omega)).trans h.rd)
 ·exact BytesAt.but (RowAt.keep h.bytes hk (fun i _ hi hd=>by have:=E.fl i hi;omega)) hs E.fe
 ·exact RowAt.but (RowAt.keep h.st hk (fun i _ hi hd=>by have:=E.sl i hi;omega)) hs E.se
 ·unfold QRow
  rw[evCells_snoc,List.length_append]
  exact own_keep ow (hs.keep (D:=fun k=>k=eb) rfl) (fun k hk e=>by omega)
 ·refine (h.keep.after hk (fun k h1 h2=>absurd h2 (by omega))).after (hs.keep (D:=fun k=>k=b∨k=eb) (.inr rfl)) (fun _ _ h=>h)
theorem readWaiting_any (F S:Nat→Prop)(v vs vr:Value)(l r:List UInt8)(steps:List (Int × Bool))(b eb nx:Nat)(win wm:Int)(w:World)(E:LdEnv F S b eb w)(hr:RdAt w b v (l.length - r.length))(hle:Fr.Left l r)(hv:BytesAt F w v l)(hl:l.length≤1000000)(hlim:nx < 9223372036854775808)
  (he:w.heap[eb]?=some (.cells #[vs,.int .i64 win,.int .i64 wm,.int .i64 nx,.slice none 0 0,vr] 159 (0,0))) (hst:StepsAt S w vs steps) (hsl:steps.length≤1000) :
  Calls Tryz.prog 117 #[.pointer (some ⟨eb,0,none⟩),.pointer (some ⟨b,0,none⟩)] w (WaitEnd F S v vs vr l r steps b eb nx win wm w):=by
 have hltB:b < w.heap.size:=lt_of_block hr
 have hltE:eb < w.heap.size:=lt_of_block he
 obtain⟨i0,hi,hz0,hz1,hz2⟩:=info_parts Tryz.infoEvent
 have HC:=hid (fun s=>fBelow_left F v l r b 13 s w hr hv E.fb hle hl (by omega))
 have K0:Hid (WtAt F S v vs vr l steps b eb nx win wm w w r (.slice none 0 0) []):=⟨he,hr,hle,hv,hst,own_nil _ _ _ _,Keep.refl _ _⟩
 clear hr hv hst he hle
 go_enter Tryz.func117,Tryz.ntmps117
 go_wp2_with (go_at_call 116;fail)
 refine (HC.out _).mono ?_
 rintro e w1 ⟨hb,he⟩
 cases x1:Fr.rdB 13 r with
 | none=>
  rw[x1] at he
  obtain⟨n1,s1,rfl⟩:=he
  have HE:Hid (Fr.rdWait steps nx wm r=none):=by show _=_;unfold Fr.rdWait;rw[x1]
  have HB:=hid (hb.keep (D:=fun k=>k=b∨k=eb) (.inl rfl))
  clear hb x1
  go_wp2
  refine⟨rfl,HB.out,?_⟩
  rw[HE.out]
  exact⟨_,_,rfl⟩
 | some p1=>
  obtain⟨n,r1⟩:=p1
  rw[x1] at he
  obtain⟨rfl,hr1⟩:=he
  have y1:=Fr.rdB_some x1
  have hn13:n < 13:=y1.2
  have HE:Hid (Fr.rdWait steps nx wm r=Fr.rdEvs steps nx wm n [] r1):=by show _=_;unfold Fr.rdWait;rw[x1]
  have K1:=hid (K0.out.but E hltB hb hr1 (K0.out.le.rd y1.1))
  clear hb hr1 x1 y1
  go_wp2
  go_loopw [8] (fun i wr=>∃(k:Nat) (acc:List En.Ev) (rr:List UInt8) (vq:Value),k≤n∧i=.int .i64 k∧acc.length=k∧Hid (WtAt F S v vs vr l steps b eb nx win wm w wr rr vq acc∧Fr.rdWait steps nx wm r=Fr.rdEvs steps nx wm (n - k) acc rr)) (fun i _=>n - (intOf i).toNat)
  case atStart=>exact⟨0,[],r1,_,Nat.zero_le _,rfl,rfl,K1.out,HE.out⟩
  case round=>
   obtain⟨k,acc,rr,vq,hk,rfl,hak,hr⟩:=hrel
   subst hak
   by_cases hlt:acc.length < n
   ·have hlt':(acc.length:Int) < n:=by omega
    obtain⟨c0,c1,c2,c3,c4,c5,cf⟩:=eng_cells hr.out.1.eng
    have HV:=hid (readEvent_any F S v vs l rr steps b eb nx win wm wr hr.out.1.rd hr.out.1.le hr.out.1.bytes E.fb E.sb E.ne (fun c hc=>Nat.lt_of_lt_of_le (E.fl c hc) hr.out.1.keep.size) (fun c hc=>Nat.lt_of_lt_of_le (E.sl c hc) hr.out.1.keep.size) hl hlim c0 c1 c2 c3 hr.out.1.st hsl)
    clear c0 c1 c2 c3 c4 c5 cf
    go_wp2_with (go_at_call 186;fail)
    refine HV.out.mono ?_
    rintro e w2 ⟨hb,he⟩
    cases x2:Fr.rdEv steps nx wm rr with
    | none=>
     rw[x2] at he
     obtain⟨n1,s1,rfl⟩:=he
     have HE2:Hid (Fr.rdWait steps nx wm r=none):=by
      show _=_
      rw[hr.out.2,show n - acc.length=(n - acc.length - 1)+1 by omega,Fr.rdEvs,x2]
     have HB:=hid (hr.out.1.keep.trans (hb.keep (D:=fun k=>k=b∨k=eb) (.inl rfl)))
     clear hb x2
     go_wp2
     refine⟨rfl,HB.out,?_⟩
     rw[HE2.out]
     exact⟨_,_,rfl⟩
    | some p2=>
     obtain⟨x,r2⟩:=p2
     rw[x2] at he
     obtain⟨rfl,hr2⟩:=he
     have y2:=Fr.rdEv_left hr.out.1.le x2
     have HX:=hid (And.intro x2 (And.intro y2.2 hr.out.2))
     have K2:=hid (hr.out.1.but E hltB hb hr2 y2.1)
     clear hb hr2 x2 y2 hr HV
     go_wp2
     have hal:=(Below.refl w2.heap.size w2).alloc (Nat.le_refl _) (.cells #[.int .i64 x.off,.int .i32 x.kind,.int .i64 x.time] 194)
     have K3:=hid (K2.out.but E hltB (But.ofBelow hal) (K2.out.rd.below hal) K2.out.le)
     have hev:(w2.alloc (.cells #[.int .i64 x.off,.int .i32 x.kind,.int .i64 x.time] 194)).heap[w2.heap.size]?=some (.cells #[.int .i64 x.off,.int .i32 x.kind,.int .i64 x.time] 194 (0,0)):=heap_alloc_new w2 _
     have hgw:w.heap.size≤w2.heap.size:=K2.out.keep.size
     clear hal K2 K1 K0 HC
     generalize w2.alloc (.cells #[.int .i64 x.off,.int .i32 x.kind,.int .i64 x.time] 194)=W3 at *
     generalize w2.heap.size=g at *
     obtain⟨d0,d1,d2,f0,f1,f2⟩:=res_three hev
     obtain⟨-,-,-,-,q4,-,-⟩:=eng_cells K3.out.eng
     have HEV:=hid hev
     clear hev
     have HH:Hid (∀W,EvsAt (fun b=>w.heap.size≤b) W vq acc→Calls Tryz.prog 187 #[vq,.int .i64 x.off] W fun e w'=>e=.returned (.bool (acc.any fun y=>y.off == x.off))∧Below W.heap.size W w'):=fun W h=>qHas_any _ vq acc x.off W h (by omega)
     cases x3:acc.any fun y=>y.off == x.off
     ·rw[x3] at HH
      have X3:=hid x3
      clear x3
      go_region_held2 (fun W=>W.cell? ⟨eb,4,none⟩=some vq∧W.cell? ⟨g,0,none⟩=some (.int .i64 x.off)) (go_keep) (first
       | (go_at_call 187;refine (HH.out _ (RowAt.below K3.out.row.evs (by exact Below.drew (Below.refl _ _)))).mono ?_;rintro e w4 ⟨rfl,hb⟩;have hb':Below W3.heap.size W3 w4:=(Below.drew (Below.refl _ _)).trans hb;have K4:=hid (K3.out.but E hltB (But.ofBelow hb') (K3.out.rd.below hb') K3.out.le);have HEV4:=hid ((hb'.block _ (lt_of_block HEV.out)).trans HEV.out);obtain⟨-,-,-,-,p4,-,pf⟩:=eng_cells K4.out.eng;obtain⟨e0,e1,e2,-,-,-⟩:=res_three HEV4.out;clear hb hb')
       | (go_at_call_of 113 (Value.bool true);refine (fNeed_true b _ _).mono ?_;rintro e w5 ⟨rfl,hw⟩;have hw':=hw.symm;subst hw'))
      clear d0 d1 d2 f0 f1 f2 q4 HH K3 HEV
      go_wp2
      obtain⟨ao,cap,rfl⟩:=own_slice K4.out.row
      have hE4:eb < w4.heap.size:=lt_of_block K4.out.eng
      go_region_law (refine step_append_lies _ rfl (.tmp 28) (.tmp 30) 156 rfl w.heap.size 194 i0 (.agg #[.int .i64 0,.int .i32 0,.int .i64 0]) 3 24 Tryz.underlying156 hi hz0 hz1 hz2 rfl (by decide) (.slice ao acc.length cap) acc.length (evCells acc) rfl (World.ownsRow.alloc K4.out.row _) ⟨w4.heap.size,0,none⟩ 1 1 [.int .i64 x.off,.int .i32 x.kind,.int .i64 x.time] rfl rfl (World.news_of_block (cs:=#[.int .i64 x.off,.int .i32 x.kind,.int .i64 x.time]) (new_at (by simp;done))) (by intro u hu;simp at hu;rcases hu with rfl | rfl | rfl<;>rfl) (by decide) (by unfold maxLen;omega) (by omega) (by simp;have:=K4.out.keep.size;omega) _ rfl ?_;intro g2 cap2 w6 ow2 gr2 hat hlt3;obtain⟨a4,af,hp⟩:=WtAt.push (x:=x) K4.out E hltB hltE gr2 ow2;have K6:=hid hp;clear ow2 gr2 hat hlt3 hp)
      all_goals
       clear p4 pf e0 e1 e2 a4 af hE4 K4 HEV4
       generalize w6.setCell ⟨eb,4,none⟩ (.slice (some ⟨g2,0,none⟩) (acc.length+1) cap2)=W7 at *
       obtain⟨-,-,-,-,q4,-,-⟩:=eng_cells K6.out.eng
       have rc1:=K6.out.rd.c1
       have HL:Hid (∀W i j,EvsAt (fun b=>w.heap.size≤b) W (.slice (some ⟨g2,0,none⟩) (acc.length+1) cap2) (acc++[x])→i < (acc++[x]).length→j < (acc++[x]).length→Calls Tryz.prog 188 #[.slice (some ⟨g2,0,none⟩) (acc.length+1) cap2,.int .i64 (i:Nat),.int .i64 (j:Nat)] W fun e w'=>e=.returned (.bool (En.evLt (En.nth (acc++[x]) i) (En.nth (acc++[x]) j)))∧∃q,w'=W.drewN q):=fun W i j h h1 h2=>qLess_any _ _ (acc++[x]) i j W h h1 h2
      all_goals
       by_cases ha:acc=[]
       ·have h0:((acc.length:Int) == 0)=true:=by rw[ha];rfl
        have HN:Hid (Fr.rdWait steps nx wm r=Fr.rdEvs steps nx wm (n - (acc.length+1)) (acc++[x]) r2):=by
         show _=_
         rw[HX.out.2.2,show n - acc.length=(n - (acc.length+1))+1 by omega,Fr.rdEvs,HX.out.1]
         simp only[]
         rw[X3.out,if_neg (by simp),if_pos (Or.inl ha)]
        clear HL q4 ha
        go_wp2_with (go_at_call_of 113 (Value.bool true);fail)
        refine (fNeed_true b _ _).mono ?_
        rintro e w8 ⟨rfl,hw8⟩
        subst hw8
        go_wp2
        go_roundw
        case rel=>exact⟨acc.length+1,acc++[x],r2,_,by omega,by go_num,by simp,K6.out,HN.out⟩
        case measure=>simp[intOf];omega
       ·have h0:((acc.length:Int) == 0)=false:=by simpa using ha
        have hpos:0 < acc.length:=List.length_pos_iff.2 ha
        have e1:((acc.length:Int) - 1)=((acc.length - 1:Nat):Int):=by omega
        have e2:En.nth (acc++[x]) (acc.length - 1)=En.nth acc (acc.length - 1):=by
         rw[En.nth_eq (by simp;omega),En.nth_eq (by omega),List.getElem_append_left]
        have e3:En.nth (acc++[x]) acc.length=x:=by
         rw[En.nth_eq (by simp),List.getElem_append_right (Nat.le_refl _)]
         simp
        have HL2:=hid (HL.out W7 (acc.length - 1) acc.length K6.out.row.evs (by simp;omega) (by simp))
        rw[e2,e3,← e1] at HL2
        clear e1 e2 e3 HL
        cases x4:En.evLt (En.nth acc (acc.length - 1)) x
        ·rw[x4] at HL2
         have HN:Hid (Fr.rdWait steps nx wm r=none):=by
          show _=_
          rw[HX.out.2.2,show n - acc.length=(n - (acc.length+1))+1 by omega,Fr.rdEvs,HX.out.1]
          simp only[]
          rw[X3.out,if_neg (by simp),if_neg (by rw[x4];simp[ha])]
         clear x4 ha
         go_wp2_with (go_at_call 188;fail)
         refine HL2.out.mono ?_
         rintro e w8 ⟨rfl,q,hw8⟩
         subst hw8
         go_wp2_with (go_at_call_of 113 (Value.bool false);fail)
         refine (fNeed_false b _ _ _ (by exact rc1)).mono ?_
         rintro e w9 ⟨rfl,hw9⟩
         subst hw9
         show _∧_
         refine⟨rfl,K6.out.keep.drewR q,?_⟩
         rw[HN.out]
         exact⟨_,_,rfl⟩
        ·rw[x4] at HL2
         have HN:Hid (Fr.rdWait steps nx wm r=Fr.rdEvs steps nx wm (n - (acc.length+1)) (acc++[x]) r2):=by
          show _=_
          rw[HX.out.2.2,show n - acc.length=(n - (acc.length+1))+1 by omega,Fr.rdEvs,HX.out.1]
          simp only[]
          rw[X3.out,if_neg (by simp),if_pos (Or.inr x4)]
         clear x4 ha
         go_wp2_with (go_at_call 188;fail)
         refine HL2.out.mono ?_
         rintro e w8 ⟨rfl,q,hw8⟩
         subst hw8
         have K8:=hid (K6.out.but E hltB (W':=W7.drewN q) ((But.refl b W7).drewR q) (by exact K6.out.rd) K6.out.le)
         go_wp2_with (go_at_call_of 113 (Value.bool true);fail)
         refine (fNeed_true b _ _).mono ?_
         rintro e w9 ⟨rfl,hw9⟩
         subst hw9
         go_wp2
         go_roundw
         case rel=>exact⟨acc.length+1,acc++[x],r2,_,by omega,by go_num,by simp,K8.out,HN.out⟩
         case measure=>simp[intOf];omega
     ·rw[x3] at HH
      have HE2:Hid (Fr.rdWait steps nx wm r=none):=by
       show _=_
       rw[HX.out.2.2,show n - acc.length=(n - acc.length - 1)+1 by omega,Fr.rdEvs,HX.out.1]
       simp only[]
       rw[if_pos x3]
      clear x3
      go_region_held2 (fun W=>W.cell? ⟨eb,4,none⟩=some vq∧W.cell? ⟨g,0,none⟩=some (.int .i64 x.off)) (go_keep) (first
       | (go_at_call 187;refine (HH.out _ (RowAt.below K3.out.row.evs (by exact Below.drew (Below.refl _ _)))).mono ?_;rintro e w4 ⟨rfl,hb⟩;have hb':Below W3.heap.size W3 w4:=(Below.drew (Below.refl _ _)).trans hb;have K4:=hid (K3.out.but E hltB (But.ofBelow hb') (K3.out.rd.below hb') K3.out.le);have HEV4:=hid ((hb'.block _ (lt_of_block HEV.out)).trans HEV.out);obtain⟨-,-,-,-,p4,-,-⟩:=eng_cells K4.out.eng;obtain⟨e0,e1,e2,-,-,-⟩:=res_three HEV4.out;have rc1:=K4.out.rd.c1;clear hb hb')
       | (go_at_call_of 113 (Value.bool false);refine (fNeed_false b _ _ _ rc1).mono ?_;rintro e w5 ⟨rfl,hw⟩;have hw':=hw.symm;subst hw';refine ended_hereF (by assumption) ⟨#[],[]⟩ w4 (by show _∧_;exact⟨rfl,K4.out.keep,by rw[HE2.out];exact⟨_,_,rfl⟩⟩) (fun hfls=>?_)))
      exact hfls.elim
   ·obtain rfl:acc.length=n:=by omega
    have HQ:Hid (Fr.rdWait steps nx wm r=some (acc,rr)):=by
     show _=_
     rw[hr.out.2,Nat.sub_self,Fr.rdEvs]
    go_wp2
    go_end0
    refine⟨hr.out.1.keep,?_⟩
    rw[HQ.out]
    exact⟨rfl,_,hr.out.1⟩
end Go.Proofs.YtfldcmdhneegmaaGreatDoor
namespace Go.Proofs.YtfldcmdhneegmaaGreatDoor.Fr
def rdT (l:List UInt8):Option (List UInt8 × List UInt8):=
 match rd l with
 | some (n,r)=>if n≤r.length then some (r.take n,r.drop n) else none
 | none=>none
theorem Left.drop {l r:List UInt8}(h:Left l r)(n:Nat):Left l (r.drop n):=by
 have:=Left.of_drop l ((l.length - r.length)+n)
 rw[← List.drop_drop,h.1] at this
 exact this
theorem rdT_some {l t r:List UInt8}(h:rdT l=some (t,r)):∃n q,rd l=some (n,q)∧n≤q.length∧t=q.take n∧r=q.drop n:=by
 unfold rdT at h
 cases hx:rd l with
 | none=>rw[hx] at h;cases h
 | some x=>
  obtain⟨n,q⟩:=x
  rw[hx] at h
  simp only[] at h
  split at h
  ·simp only[Option.some.injEq,Prod.mk.injEq] at h
   exact⟨n,q,rfl,by assumption,h.1.symm,h.2.symm⟩
  ·cases h
theorem Left.rdT {l r t r2:List UInt8}(h:Left l r)(h2:Fr.rdT r=some (t,r2)):Left l r2:=by
 obtain⟨n,q,h3,-,-,rfl⟩:=rdT_some h2
 exact (h.rd h3).drop n
def rdPat (l:List UInt8):Option ((List (Int × Bool) × Int) × List UInt8):=
 match rdT l with
 | none=>none
 | some (t,r)=>
  if 60 < t.length then none else
   match Pl.parse ⟨t.toArray⟩ with
   | none=>none
   | some (st,win)=>if Pl.text st win=t then some ((st,win),r) else none
end Go.Proofs.YtfldcmdhneegmaaGreatDoor.Fr
namespace Go.Proofs.YtfldcmdhneegmaaGreatDoor
open Go.RowKit Go.Lib
theorem TextEnd.rend {l:List UInt8}{k b:Nat}{v:Value}{w w':World}{e:Ending}(h:TextEnd l k v b w e w'):REnd (Fr.rdT (l.drop k)) (fun t=>.string ⟨t.toArray⟩) l.length v b w e w':=by
 obtain⟨h1,h2⟩:=h
 refine⟨h1,?_⟩
 unfold Fr.rdT
 cases hx:Fr.rd (l.drop k) with
 | none=>rw[hx] at h2;exact h2
 | some x=>
  obtain⟨n,r⟩:=x
  rw[hx] at h2
  simp only[] at h2 ⊢
  have hrl:=(rd_suffix hx).1
  by_cases hle:n≤r.length
  ·rw[if_pos hle] at h2 ⊢
   refine⟨h2.1,?_⟩
   rw[List.length_drop,show l.length - (r.length - n)=l.length - r.length+n by omega]
   exact h2.2
  ·rw[if_neg hle] at h2 ⊢;exact h2
theorem fText_left (F:Nat→Prop)(a:Addr)(cap:Nat)(l r:List UInt8)(b:Nat)(w:World)(hr:RdAt w b (.slice (some a) l.length cap) (l.length - r.length))(hv:BytesAt F w (.slice (some a) l.length cap) l)(hF:¬ F b)(hle:Fr.Left l r)(hl:l.length≤1000000) :
  Calls Tryz.prog 184 #[.pointer (some ⟨b,0,none⟩)] w (REnd (Fr.rdT r) (fun t=>.string ⟨t.toArray⟩) l.length (.slice (some a) l.length cap) b w):=by
 have:=fText_any F a cap l b (l.length - r.length) w hr hv hF (by omega) hl
 refine this.mono fun e w' h=>?_
 have h':=h.rend
 rw[hle.1] at h'
 exact h'
def PatEnd (r:List UInt8)(L:Nat)(v:Value)(b:Nat)(w:World)(e:Ending)(w':World):Prop:=
 But b w w' ∧
  match Fr.rdPat r with
  | some ((st,win),r')=>∃ao cap,e=.returned (.agg #[.slice ao st.length cap,.int .i64 win])∧RdAt w' b v (L - r'.length)∧StepsAt (fun x=>w.heap.size≤x) w' (.slice ao st.length cap) st
  | none=>BytesPanic e
theorem readPattern_any (F:Nat→Prop)(a:Addr)(cap:Nat)(l r:List UInt8)(b:Nat)(w:World)(hr:RdAt w b (.slice (some a) l.length cap) (l.length - r.length))(hv:BytesAt F w (.slice (some a) l.length cap) l)(hF:¬ F b)(hle:Fr.Left l r)(hl:l.length≤1000000)(hL:∀W,But b w W→Letters W)(hT:∀W,But b w W→Pow10 W) :
  Calls Tryz.prog 114 #[.pointer (some ⟨b,0,none⟩)] w (PatEnd r l.length (.slice (some a) l.length cap) b w):=by
 have hltB:b < w.heap.size:=lt_of_block hr
 have hal:Below w.heap.size w (w.alloc (.cells #[.slice none 0 0,.int .i64 0] 154)):=(Below.refl _ _).alloc (Nat.le_refl _) _
 have HC:=hid (fText_left F a cap l r b (w.alloc (.cells #[.slice none 0 0,.int .i64 0] 154)) (hr.below hal) (hv.below hal) hF hle hl)
 have H0:=hid (And.intro (But.ofBelow (b:=b) hal) (heap_alloc_new w (.cells #[.slice none 0 0,.int .i64 0] 154)))
 have HSz:Hid ((w.alloc (.cells #[.slice none 0 0,.int .i64 0] 154)).heap.size=w.heap.size+1):=by simp[Hid]
 have HLT:=hid (And.intro hL hT)
 have HLE:=hid hle
 clear hr hv hle hL hT hal
 go_enter Tryz.func114,Tryz.ntmps114
 go_wp2_with (go_at_call 184;fail)
 refine HC.out.mono ?_
 rintro e w1 ⟨hb0,he⟩
 have hb:=H0.out.1.trans hb0
 have hres:w1.heap[w.heap.size]?=some (.cells #[.slice none 0 0,.int .i64 0] 154 (0,0)):=(hb0.block _ (by rw[HSz.out];omega) (by simp;omega)).trans H0.out.2
 have hs1:w.heap.size < w1.heap.size:=lt_of_block hres
 clear hb0
 cases x1:Fr.rdT r with
 | none=>
  rw[x1] at he
  obtain⟨n1,s1,rfl⟩:=he
  have HE:Hid (Fr.rdPat r=none):=by show _=_;unfold Fr.rdPat;rw[x1]
  have HB:=hid hb
  clear hb x1 hres
  go_wp2
  refine⟨rfl,HB.out,?_⟩
  rw[HE.out]
  exact⟨_,_,rfl⟩
 | some p1=>
  obtain⟨t,r1⟩:=p1
  rw[x1] at he
  obtain⟨rfl,hr1⟩:=he
  have htl:t.length≤1000000:=by
   obtain⟨n,q,h3,-,h5,-⟩:=Fr.rdT_some x1
   have h6:=(HLE.out.rd h3).2
   rw[h5,List.length_take]
   omega
  have hsz:(ByteArray.mk t.toArray).size=t.length:=by show t.toArray.size=_;simp
  have HB:=hid (And.intro hb hr1)
  have HR:=hid hres
  clear hres
  have X1:=hid x1
  clear hb hr1 x1
  by_cases h60:60 < t.length
  ·have HE:Hid (Fr.rdPat r=none):=by show _=_;unfold Fr.rdPat;rw[X1.out];simp only[];rw[if_pos h60]
   have HP:=hid (pParse_long ⟨t.toArray⟩ w1 (by omega) (by omega))
   clear h60 htl
   go_wp2_with (go_at_call 83;fail)
   refine HP.out.mono ?_
   rintro e w2 ⟨rfl,hb1⟩
   have hb:=hb1.alloc hb1.size (.cells #[.slice none 0 0,.int .i64 0] 154)
   clear hb1
   have HB2:=hid (And.intro (HB.out.1.trans (But.ofBelow hb)) (HB.out.2.below hb).c1)
   have c1:=HB2.out.2
   clear hb
   go_wp2_with (go_at_call_of 113 (Value.bool false);fail)
   refine (fNeed_false b _ _ _ c1).mono ?_
   rintro e w3 ⟨rfl,hw⟩
   subst hw
   show _∧_
   refine⟨rfl,HB2.out.1,?_⟩
   rw[HE.out]
   exact⟨_,_,rfl⟩
  ·have HP:=hid (pParse_any ⟨t.toArray⟩ w1 (by omega) (HLT.out.1 _ HB.out.1))
   unfold ParseEnd at HP
   cases x2:Pl.parse ⟨t.toArray⟩ with
   | none=>
    have HE:Hid (Fr.rdPat r=none):=by show _=_;unfold Fr.rdPat;rw[X1.out];simp only[];rw[if_neg h60,x2]
    rw[x2] at HP
    have HP':Hid (Calls Tryz.prog 83 #[.string ⟨t.toArray⟩] w1 fun e w'=>(∃k:Int,e=.returned (.tuple #[.agg #[.slice none 0 0,.int .i64 0],.iface 238 (.agg #[.int .i64 k])]))∧Below w1.heap.size w1 w'):=HP
    clear h60 htl HP x2
    go_wp2_with (go_at_call 83;fail)
    refine HP'.out.mono ?_
    rintro e w2 ⟨⟨k,rfl⟩,hb1⟩
    have hb:=hb1.alloc hb1.size (.cells #[.slice none 0 0,.int .i64 0] 154)
    clear hb1
    have HB2:=hid (And.intro (HB.out.1.trans (But.ofBelow hb)) (HB.out.2.below hb).c1)
    have c1:=HB2.out.2
    clear hb
    go_wp2_with (go_at_call_of 113 (Value.bool false);fail)
    refine (fNeed_false b _ _ _ c1).mono ?_
    rintro e w3 ⟨rfl,hw⟩
    subst hw
    show _∧_
    refine⟨rfl,HB2.out.1,?_⟩
    rw[HE.out]
    exact⟨_,_,rfl⟩
   | some q=>
    obtain⟨st,win⟩:=q
    have HFi:=hid (Pl.fine_parse x2)
    have HE:Hid (Fr.rdPat r=if Pl.text st win=t then some ((st,win),r1) else none):=by show _=_;unfold Fr.rdPat;rw[X1.out];simp only[];rw[if_neg h60,x2]
    rw[x2] at HP
    have HP':Hid (Calls Tryz.prog 83 #[.string ⟨t.toArray⟩] w1 fun e w'=>∃ao cap,e=.returned (.tuple #[.agg #[.slice ao st.length cap,.int .i64 win],.nilIface])∧w'.ownsRow w1.heap.size 225 2 (.slice ao st.length cap) st.length (stepCells st)∧Below w1.heap.size w1 w'):=HP.out.mono fun e w' ⟨v,he,own1,b1⟩=>by
     obtain⟨ao,cap,rfl⟩:=own_slice own1
     exact⟨ao,cap,he,own1,b1⟩
    clear h60 htl HP x2
    go_wp2_with (go_at_call 83;fail)
    refine HP'.out.mono ?_
    rintro e w2 ⟨ao,cp,rfl,hown,hb1⟩
    have hb:=hb1.alloc hb1.size (.cells #[.slice ao st.length cp,.int .i64 win] 154)
    have hst:StepsAt (fun x=>w1.heap.size≤x) (w2.alloc (.cells #[.slice ao st.length cp,.int .i64 win] 154)) (.slice ao st.length cp) st:=StepsAt.below (RowAt.ofOwn hown) ((Below.refl _ _).alloc (Nat.le_refl _) _)
    clear hb1
    have HB2:=hid (And.intro (HB.out.1.trans (But.ofBelow hb)) (And.intro (HB.out.2.below hb) hst))
    have HR2:=hid ((hb.block _ hs1).trans HR.out)
    clear hb hown hst
    have HS:=hid (pString_row (fun x=>w1.heap.size≤x) st win (.slice ao st.length cp) (w2.alloc (.cells #[.slice ao st.length cp,.int .i64 win] 154)) HFi.out HB2.out.2.2 (HLT.out.2 _ HB2.out.1))
    go_wp2_with (go_at_call_of 113 (Value.bool true);fail)
    refine (fNeed_true b _ _).mono ?_
    rintro e w3 ⟨rfl,hw⟩
    subst hw
    go_wp2_with (go_at_call 77;fail)
    refine HS.out.mono ?_
    rintro e w3 ⟨rfl,hb⟩
    have HB3:=hid (And.intro (HB2.out.1.trans (But.ofBelow hb)) (And.intro (HB2.out.2.1.below hb) (HB2.out.2.2.below hb)))
    have c1:=HB3.out.2.1.c1
    have hpb:w3.heap[w2.heap.size]?=some (.cells #[.slice ao st.length cp,.int .i64 win] 154 (0,0)):=(hb.block _ (by simp)).trans (heap_alloc_new w2 _)
    obtain⟨p0,p1,-,-⟩:=res_cells hpb
    clear hpb
    have HR3:=hid ((hb.block _ (lt_of_block HR2.out)).trans HR2.out)
    obtain⟨d0,d1,f0,f1⟩:=res_cells HR3.out
    clear hb
    by_cases heq:Pl.text st win=t
    ·have hq:(Pl.text st win == t)=true:=by rw[heq];exact beq_self_eq_true _
     have HQ:=hid heq
     clear heq
     clear HP' HS HC H0 HSz HLT HLE hsz
     go_wp2_with (go_at_call_of 113 (Value.bool true);fail)
     refine (fNeed_true b _ _).mono ?_
     rintro e w4 ⟨rfl,hw⟩
     subst hw
     go_wp2
     have B2:=(blk_setF (blk_setF HR3.out (.slice ao st.length cp)).1 (.int .i64 win)).2
     obtain⟨t0,t1,-,-⟩:=res_cells B2
     refine bodyPost_ret (v:=.agg #[.slice ao st.length cp,.int .i64 win]) (by simp[results,Tryz.results114,go_sem,t0,t1]) rfl ?_
     refine⟨(HB3.out.1.setNew 0 _ (Nat.le_refl _)).setNew 1 _ (Nat.le_refl _),?_⟩
     rw[HE.out,if_pos HQ.out]
     refine⟨ao,cp,rfl,(HB3.out.2.1.setNe 0 _ (by omega)).setNe 1 _ (by omega),?_⟩
     have h5:StepsAt (fun x=>w1.heap.size≤x) ((w4.setCell ⟨w.heap.size,0,none⟩ (.slice ao st.length cp)).setCell ⟨w.heap.size,1,none⟩ (.int .i64 win)) (.slice ao st.length cp) st:=RowAt.but (RowAt.but HB3.out.2.2 (but_set _ w.heap.size 0 _) (by omega)) (but_set _ w.heap.size 1 _) (by omega)
     exact RowAt.mono h5 (fun x _ hx=>by omega)
    ·have hq:(Pl.text st win == t)=false:=beq_eq_false_iff_ne.2 heq
     have HQ:=hid heq
     clear heq
     clear HP' HS HC H0 HSz HLT HLE hs1 hsz
     go_wp2_with (go_at_call_of 113 (Value.bool false);fail)
     refine (fNeed_false b _ _ _ c1).mono ?_
     rintro e w4 ⟨rfl,hw⟩
     subst hw
     show _∧_
     refine⟨rfl,HB3.out.1,?_⟩
     rw[HE.out,if_neg HQ.out]
     exact⟨_,_,rfl⟩
end Go.Proofs.YtfldcmdhneegmaaGreatDoor

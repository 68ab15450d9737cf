import Derived.Test.YtfldcmdhneegmaaGreatDoorX45
import Derived.Test.YtfldcmdhneegmaaGreatDoorX46
set_option maxHeartbeats 4000000
set_option maxRecDepth 1000000
namespace Go.Proofs.YtfldcmdhneegmaaGreatDoor
open Go.RowKit Go.Lib
theorem rLoad_any (l:List UInt8)(w:World)(hl:l.length≤65536)(hL:Letters w)(hD:Decodes w) :
  Calls Tryz.prog 12 #[.string ⟨l.toArray⟩] w (DLoadEnd l w):=by
 have HL:=hid hL
 have HDc:=hid hD
 clear hL hD
 go_enter Tryz.func12,Tryz.ntmps12
 go_wp2_with (go_at_call 34;fail)
 refine (rSound_S l w (by omega)).mono ?_
 rintro e w1 ⟨t,rfl,ht,hb1⟩
 have H1:=hid hb1
 clear hb1
 cases hs:Fr.sound l 83 with
 | none=>
  have HN:=hid (Fr.dLoad_unsound hs)
  clear hs ht
  go_wp2
  go_ret
  exact⟨H1.out,Or.inl ⟨HN.out,rfl⟩⟩
 | some c=>
  obtain rfl:t=c:=ht c hs
  have hcl:=Fr.sound_length hs
  have HS:=hid hs
  clear ht hs
  have hal:Below w1.heap.size w1 (w1.alloc (.cells #[.string ⟨t.toArray⟩,.bool false] 79)):=(Below.refl _ _).alloc (Nat.le_refl _) _
  have hrd0:RdrAt (w1.alloc (.cells #[.string ⟨t.toArray⟩,.bool false] 79)) w1.heap.size t false:=heap_alloc_new w1 _
  have HAL:=hid hal
  have HRD:=hid hrd0
  clear hal hrd0
  go_wp2_with (go_at_call 35;fail)
  refine (rrNumber_s t false 60 w1.heap.size _ HRD.out (by omega)).mono ?_
  rintro e w2 ⟨hk2,n,r1,x1,rfl,hn,hr2,hl2,hS2⟩
  have HB2:Hid (Below w.heap.size w w2):=by
   have a1:=H1.out
   have a2:=HAL.out
   have s1:=a1.size
   have s2:=a2.size
   have s3:=hk2.size
   exact⟨hk2.os.trans (a2.os.trans a1.os),hk2.tape.trans (a2.tape.trans a1.tape),hk2.output.trans (a2.output.trans a1.output),by omega,fun k h1=>(hk2.block k (by omega) (by simp;omega)).trans ((a2.block k (by omega)).trans (a1.block k h1))⟩
  have hrb:=H1.out.size
  have HR2:=hid hr2
  have S2:=hid hS2
  have rc0:=hr2.c0
  have rc1:=hr2.c1
  have hs1:(⟨r1.toArray⟩:ByteArray).size=r1.length:=by simp[ByteArray.size]
  clear hk2 hr2 hS2 HAL HRD
  generalize w1.heap.size=rb at *
  clear H1
  cases x1 with
  | true=>
   have HN:=hid (Fr.dLoad_bad HS.out (Fr.dState_bad1 S2.out))
   go_wp2
   go_ret
   exact⟨HB2.out,Or.inl ⟨HN.out,rfl⟩⟩
  | false=>
   obtain⟨hn60,hds⟩:=Fr.dState_two S2.out
   have hwn:wrap64 (n:Int)=n:=by unfold wrap64;omega
   by_cases hlen:r1.length < n
   ·have hlen':(r1.length:Int) < (n:Int):=by omega
    have HN:Hid (Fr.dLoad l=none):=Fr.dLoad_bad HS.out (by rw[hds,if_pos hlen])
    clear hds
    go_wp2
    go_ret
    exact⟨HB2.out,Or.inl ⟨HN.out,rfl⟩⟩
   ·have hlen':decide ((r1.length:Int) < (n:Int))=false:=decide_eq_false (by omega)
    rw[if_neg hlen] at hds
    have hto:=fun w=>str_toN r1 n n rfl (by omega) w
    have hfr:=fun w=>str_fromN r1 n n rfl (by omega) w
    have HP:=hid (refParse_any (r1.take n) w2 (by rw[List.length_take];omega) (fun c W h1 h2 h3=>HL.out c W h1 h2 (HB2.out.trans (h3.mono HB2.out.size))) (HDc.out.below HB2.out))
    rw[Pl.ref_parse _ _ (by omega)] at HP
    have HDS:=hid hds
    clear hds
    go_wp2_with (go_at_call 15;fail)
    refine HP.out.mono ?_
    intro e w3 h3
    clear HP
    cases hp:Pl.parse ⟨(r1.take n).toArray⟩ with
    | none=>
     rw[hp] at h3
     obtain⟨rfl,hb3⟩:=h3
     have HN:Hid (Fr.dLoad l=none):=Fr.dLoad_bad HS.out (by rw[HDS.out,hp])
     have H3:=hid (HB2.out.trans (hb3.mono HB2.out.size))
     clear hb3 hp
     go_wp2
     go_ret
     exact⟨H3.out,Or.inl ⟨HN.out,rfl⟩⟩
    | some q=>
     obtain⟨st,win⟩:=q
     rw[hp] at h3
     obtain⟨vs,rfl,h3⟩:=h3
     have HF:=hid (Pl.fine_parse hp)
     have hs4:=HF.out.l4
     have HD2:Hid (Fr.dState t=Fr.dBody st win (r1.drop n)):=by
      show _=_
      rw[HDS.out,hp]
     have hr3:RdrAt w3 rb r1 false:=(h3.bel.block rb (lt_of_block HR2.out)).trans HR2.out
     have K5:=hid (DL.start HB2.out hrb HR2.out h3 (but_set w3 rb 0 (.string ⟨(r1.drop n).toArray⟩)) (blk_setF hr3 _).1)
     have rc0':=hr3.c0
     have rf0:=hr3.f 0
     clear hp h3 hr3 HDS rc0 rc1
     go_wp2_with (go_at_call 16;fail)
     refine (rNew_any w2.heap.size _).mono ?_
     rintro e w5 ⟨rfl,rfl⟩
     generalize hpb:w2.heap.size=pb at *
     generalize heb:(w3.setCell ⟨rb,0,none⟩ (.string ⟨(r1.drop n).toArray⟩)).heap.size=eb at *
     generalize (w3.setCell ⟨rb,0,none⟩ (.string ⟨(r1.drop n).toArray⟩)).alloc (.cells #[.pointer (some ⟨pb,0,none⟩),.int .i64 (-9223372036854775808),.int .i64 0,.slice none 0 0,.slice none 0 0,.slice none 0 0] 86)=W5 at *
     clear hpb heb rc0' rf0
     have hdl:(r1.drop n).length≤t.length:=by rw[List.length_drop];omega
     go_wp2_with (go_at_call 36;fail)
     refine (rrMoment_s (r1.drop n) false rb W5 K5.out.rd (by omega)).mono ?_
     rintro e w6 ⟨hk6,wm,r6,x6,rfl,hm0,hm1,hr6,hl6,hS6⟩
     have K6:=hid (K5.out.on hk6 hr6)
     have S6:=hid hS6
     obtain⟨c0,c1,c2,c3,c4,c5,cf⟩:=eng_cells K6.out.blk
     have cf1:=cf 1
     clear hk6 hr6 hS6 K5
     have K7:=hid (K6.out.setW wm)
     go_wp2_with (go_at_call 35;fail)
     generalize w6.setCell ⟨eb,1,none⟩ (.int .i64 wm)=W7 at *
     clear c0 c1 c2 c3 c4 c5 cf cf1 K6
     refine (rrNumber_s r6 x6 9007199254740991 rb W7 K7.out.rd (by omega)).mono ?_
     rintro e w8 ⟨hk8,nx,r8,x8,rfl,hnx,hr8,hl8,hS8⟩
     have K8:=hid (K7.out.on hk8 hr8)
     have S8:=hid hS8
     obtain⟨c0,c1,c2,c3,c4,c5,cf⟩:=eng_cells K8.out.blk
     have cf2:=cf 2
     clear hk8 hr8 hS8 K7
     have K9:=hid (K8.out.setN (wrap64 nx))
     go_wp2_with (go_at_call 35;fail)
     generalize w8.setCell ⟨eb,2,none⟩ (.int .i64 (wrap64 nx))=W9 at *
     clear c0 c1 c2 c3 c4 c5 cf cf2 K8
     refine (rrNumber_s r8 x8 12 rb W9 K9.out.rd (by omega)).mono ?_
     rintro e w10 ⟨hk10,k,r10,x10,rfl,hk,hr10,hl10,hS10⟩
     have K10:=hid (K9.out.on hk10 hr10)
     have R10:Hid (Fr.ERel (Fr.dState t) st win wm nx k 0 [] r10 x10):=by
      have h1:=Fr.ERel.start (steps:=st) (win:=win) S6.out S8.out hS10
      rw[← HD2.out] at h1
      exact h1
     clear hk10 hr10 hS10 K9 S6 S8 S2 HD2 hto hfr
     go_upto_block 0 with fail
     go_cut [] (fun wx=>∃(i:Nat) (Q:List En.Ev) (vw:Value) (r:List UInt8) (x:Bool),Q.length≤12∧r.length≤t.length∧Hid (DL w wx rb eb pb ⟨st,win⟩ wm (wrap64 nx) vs vw (.slice none 0 0) Q [] r x∧Fr.ERel (Fr.dState t) st win wm nx k i Q r x∧(x=false→¬ i < k)))
     case first=>
      go_wp2_with fail
      go_loopw [12] (fun s12 wr=>∃(i:Nat) (Q:List En.Ev) (vw:Value) (r:List UInt8) (x:Bool),s12=.int .i64 i∧i≤12∧Q.length=i∧r.length≤t.length∧Hid (DL w wr rb eb pb ⟨st,win⟩ wm (wrap64 nx) vs vw (.slice none 0 0) Q [] r x∧Fr.ERel (Fr.dState t) st win wm nx k i Q r x)) (fun s12 _=>13 - (intOf s12).toNat)
      case atStart=>exact⟨0,[],_,r10,x10,rfl,by omega,rfl,by omega,K10.out,R10.out⟩
      case round=>
       clear K10 R10
       obtain⟨i,Q,vw,r,x,rfl,hi,hQi,hrl,hr⟩:=hrel
       subst hQi
       obtain⟨wo,rfl⟩:∃wo,wo=wr:=⟨_,rfl⟩
       have rc1:=hr.out.1.rd.c1
       by_cases hc:(Q.length:Int) < wrap64 k
       ·cases x with
        | true=>
         go_wp2
         go_meet
         case rel=>exact⟨Q.length,Q,vw,r,true,hi,hrl,hr.out.1,hr.out.2,fun h=>by cases h⟩
        | false=>
         have hin:Q.length < k∧k≤12∧nx < 9007199254740992:=by
          rcases hr.out.2 with ⟨h,-⟩ | ⟨-,h3,h4,h5,-⟩
          ·cases h
          ·refine⟨?_,h4,h5⟩
           unfold wrap64 at hc
           omega
         obtain⟨hin1,hin2,hin3⟩:=hin
         go_wp2_with (go_at_call 35;fail)
         refine (rrNumber_s r false 9007199254740991 rb wo hr.out.1.rd (by omega)).mono ?_
         rintro e v1 ⟨hk1,a,q1,y1,rfl,ha,hq1,hl1,hS1⟩
         have L1:=hid (hr.out.1.on hk1 hq1)
         have S1:=hid hS1
         clear hk1 hq1 hS1 rc1
         go_wp2_with (go_at_call 35;fail)
         refine (rrNumber_s q1 y1 1114111 rb v1 L1.out.rd (by omega)).mono ?_
         rintro e v2 ⟨hk2,b,q2,y2,rfl,hb,hq2,hl2',hS2⟩
         have L2:=hid (L1.out.on hk2 hq2)
         have S2:=hid hS2
         clear hk2 hq2 hS2 L1
         go_wp2_with (go_at_call 36;fail)
         refine (rrMoment_s q2 y2 rb v2 L2.out.rd (by omega)).mono ?_
         rintro e v3 ⟨hk3,c,q3,y3,rfl,hc0,hc1,hq3,hl3,hS3⟩
         have L3:=hid (L2.out.on hk3 hq3)
         have S3:=hid hS3
         clear hk3 hq3 hS3 L2
         go_wp2_with (go_at_call 37;fail)
         refine (rHas_any (fun _=>True) eb pb ⟨st,win⟩ vs _ _ [] [] v3 L3.out.reads hs4 (wrap32 b)).mono ?_
         rintro e v4 ⟨rfl,hv4⟩
         have hv4':=hv4.symm
         subst hv4'
         obtain⟨hs,hhs⟩:∃hs,En.has ⟨st,win⟩ (wrap32 b)=hs:=⟨_,rfl⟩
         rw[hhs]
         have HHS:=hid hhs
         clear hhs
         have yc1:=L3.out.rd.c1
         have yf1:=L3.out.rd.f 1
         obtain⟨c0,c1,c2,c3,c4,c5,cf⟩:=eng_cells L3.out.blk
         have hnw:wrap64 (nx:Int)=nx:=by unfold wrap64;omega
         rw[hnw] at c2
         clear hnw
         go_upto_region 24 with fail
         go_cut [] (fun wx=>∃x',Hid (x'=(((y3 || !hs) || decide ((nx:Int)≤wrap64 a)) || decide (c≤wm))∧DL w wx rb eb pb ⟨st,win⟩ wm (wrap64 nx) vs vw (.slice none 0 0) Q [] q3 x'))
         case first=>
          cases y3 with
          | true=>
           go_wp2
           go_meet
           case rel=>exact⟨true,by simp,by exact L3.out.bad true⟩
          | false=>
           cases hs with
           | false=>
            go_wp2
            go_meet
            case rel=>exact⟨true,by simp,by exact L3.out.bad true⟩
           | true=>
            by_cases hna:(nx:Int)≤wrap64 a
            ·go_wp2
             go_meet
             case rel=>exact⟨true,by simp[hna],by exact L3.out.bad true⟩
            ·have hna':decide ((nx:Int)≤wrap64 a)=false:=decide_eq_false hna
             go_wp2
             go_meet
             case rel=>exact⟨decide (c≤wm),by rw[hna'];simp,by exact L3.out.bad _⟩
         case rest=>
          obtain⟨x',hx'⟩:=hcut
          have HX':=hid hx'.out.1
          have L4:=hid hx'.out.2
          clear hx' yc1 yf1 c0 c1 c2 c3 c4 c5 cf L3
          obtain⟨wx,rfl⟩:∃wx,wx=wc:=⟨_,rfl⟩
          obtain⟨aw,cw,rfl⟩:=own_slice L4.out.wait
          obtain⟨c0,c1,c2,c3,c4,c5,cf⟩:=eng_cells L4.out.blk
          have hbs:=L4.out.bel.size
          obtain⟨i0,hi0,hz0,hz1,hz2⟩:=info_parts Tryz.infoEv
          go_wp2_with (at_builtin;refine wpList_append_lies _ rfl _ _ 83 rfl w.heap.size 89 i0 (.agg #[.int .i64 0,.int .i32 0,.int .i64 0]) 3 24 Tryz.underlying83 hi0 hz0 hz1 hz2 rfl (by decide) _ _ _ rfl (World.ownsRow.alloc L4.out.wait _) ⟨wx.heap.size,0,none⟩ 1 1 [.int .i64 (wrap64 a),.int .i32 (wrap32 b),.int .i64 c] rfl rfl (World.news_of_block (cs:=#[.int .i64 (wrap64 a),.int .i32 (wrap32 b),.int .i64 c]) (new_at (by simp;done))) (by intro u hu;simp at hu;rcases hu with rfl | rfl | rfl<;>rfl) (by decide) (by unfold maxLen;omega) (by omega) (by simp;omega) _ rfl ?_)
          intro g2 cap2 w7 ow2 gr2 hat hlt3
          obtain⟨a4,af,hp⟩:=DL.pushE (e:=⟨wrap64 a,wrap32 b,c⟩) L4.out ((Below.refl _ _).alloc (Nat.le_refl _) _) gr2 ow2
          have K8:=hid hp
          have R8:=hid (Fr.ERel.step hr.out.2 hin1 S1.out S2.out S3.out (kd:=wrap32 b) (hs:=hs) (fun h=>by unfold wrap32;omega) HHS.out HX'.out)
          clear ow2 gr2 hat hlt3 hp
          go_wp2
          go_roundw
          case rel=>exact⟨Q.length+1,Q++[⟨wrap64 a,wrap32 b,c⟩],_,q3,x',by go_num,by omega,by simp,by omega,by exact K8.out,R8.out⟩
          case measure=>simp[intOf];omega
       ·have hcf:decide ((Q.length:Int) < wrap64 k)=false:=decide_eq_false hc
        go_wp2
        go_meet
        case rel=>
         refine⟨Q.length,Q,vw,r,x,hi,hrl,hr.out.1,hr.out.2,fun hx=>?_⟩
         subst hx
         rcases hr.out.2 with ⟨h,-⟩ | ⟨-,h3,h4,h5,-⟩
         ·cases h
         ·unfold wrap64 at hc
          omega
     case rest=>
      obtain⟨i,Q,vw,r,x,hQ12,hrl,hx⟩:=hcut
      clear K10 R10
      obtain⟨wo,rfl⟩:∃wo,wo=wc:=⟨_,rfl⟩
      go_wp2_with (go_at_call 35;fail)
      refine (rrNumber_s r x 24 rb wo hx.out.1.rd (by omega)).mono ?_
      rintro e w11 ⟨hk11,m,r11,x11,rfl,hm,hr11,hl11,hS11⟩
      have K11:=hid (hx.out.1.on hk11 hr11)
      have R11:=hid (Fr.RRel.start hx.out.2.1 hx.out.2.2 hS11)
      clear hk11 hr11 hS11 hx
      go_upto_block 2 with fail
      go_cut [] (fun wx=>∃(i:Nat) (old:List RV) (vo:Value) (r:List UInt8) (x:Bool),old.length≤24∧r.length≤t.length∧Hid (RdrAt wx rb r x∧Below w.heap.size w wx∧(x=false→DL w wx rb eb pb ⟨st,win⟩ wm (wrap64 nx) vs vw vo Q old r x)∧Fr.RRel (Fr.dState t) st win wm nx Q m i (old.map Prod.fst) r x∧(x=false→¬ i < m)))
      case first=>
       go_wp2_with fail
       go_loopw [17] (fun s17 wr=>∃(i:Nat) (old:List RV) (vo:Value) (r:List UInt8) (x:Bool),s17=.int .i64 i∧i≤24∧old.length=i∧r.length≤t.length∧Hid (RdrAt wr rb r x∧Below w.heap.size w wr∧(x=false→DL w wr rb eb pb ⟨st,win⟩ wm (wrap64 nx) vs vw vo Q old r x)∧Fr.RRel (Fr.dState t) st win wm nx Q m i (old.map Prod.fst) r x)) (fun s17 _=>25 - (intOf s17).toNat)
       case atStart=>exact⟨0,[],_,r11,x11,rfl,by omega,rfl,by omega,K11.out.rd,K11.out.bel,fun _=>K11.out,R11.out⟩
       case round=>
        clear K11 R11
        obtain⟨i,old,vo,r,x,rfl,hi,hoi,hrl,hr⟩:=hrel
        subst hoi
        obtain⟨wq,rfl⟩:∃wq,wq=wr:=⟨_,rfl⟩
        have rc1:=hr.out.1.c1
        by_cases hc:(old.length:Int) < wrap64 m
        ·cases x with
         | true=>
          go_wp2
          go_meet
          case rel=>exact⟨old.length,old,vo,r,true,hi,hrl,hr.out.1,hr.out.2.1,hr.out.2.2.1,hr.out.2.2.2,fun h=>by cases h⟩
         | false=>
          have KD:=hid (hr.out.2.2.1 rfl)
          have hin:old.length < m∧m≤24∧nx < 9007199254740992:=by
           rcases hr.out.2.2.2 with ⟨h,-⟩ | ⟨-,h3,h4,h5,-⟩
           ·cases h
           ·refine⟨?_,h4,h5⟩
            unfold wrap64 at hc
            omega
          obtain⟨hin1,hin2,hin3⟩:=hin
          have hnw:wrap64 (nx:Int)=nx:=by unfold wrap64;omega
          have HRUN:=hid (rrRun_any (DL.rlp wq rb eb pb ⟨st,win⟩ wm nx vs vw vo Q old) (KD.out.ok HF.out hm0 hm1 hin3 hQ12) r false wq (KD.out.at hnw) (fun c hc=>hc.1) hr.out.1 (by omega))
          clear hnw
          go_wp2_with (go_at_call 38;fail)
          refine HRUN.out.mono ?_
          rintro e v1 ⟨hk1,z,vq,tt,os,r4,x4,rfl,how,hr4,hl4,st4,hS4,hz⟩
          have L1:=hid (KD.out.on hk1 hr4)
          have R1:Hid (Fr.RRel (Fr.dState t) st win wm nx Q m (old.length+1) (old.map Prod.fst++[⟨st4,os,tt⟩]) r4 x4):=hr.out.2.2.2.step hin1 hS4
          obtain⟨aq,cq,rfl⟩:=own_slice how
          have HOW:=hid (own_mono how KD.out.bel.size)
          have HZ:=hid hz
          have hl4':r4.length≤r.length:=hl4
          clear hk1 hr4 hS4 how hz hl4 HRUN rc1 KD
          have hal:Below v1.heap.size v1 (v1.alloc (.cells #[.int .i64 z,.slice aq os.length cq,.int .i64 tt] 92)):=(Below.refl _ _).alloc (Nat.le_refl _) _
          have L2:=hid (L1.out.below hal)
          have HOW2:=hid (own_below HOW.out hal)
          obtain⟨u0,u1,u2,-,-,-⟩:=res_three (heap_alloc_new v1 (.cells #[.int .i64 z,.slice aq os.length cq,.int .i64 tt] 92))
          obtain⟨ao,co,rfl⟩:=own_slice L2.out.row
          obtain⟨c0,c1,c2,c3,c4,c5,cf⟩:=eng_cells L2.out.blk
          have hbs:=L2.out.bel.size
          have hze:eb < (v1.alloc (.cells #[.int .i64 z,.slice aq os.length cq,.int .i64 tt] 92)).heap.size:=lt_of_block L2.out.blk
          have hzu:=lt_of_block (heap_alloc_new v1 (.cells #[.int .i64 z,.slice aq os.length cq,.int .i64 tt] 92))
          clear hal L1 HOW
          go_upto_region 31 with fail
          generalize v1.alloc (.cells #[.int .i64 z,.slice aq os.length cq,.int .i64 tt] 92)=V0 at *
          have HPU:Hid (∀(V W':World) (g cap:Nat),Below V0.heap.size V0 V→V.grownBy W' (Value.slice ao old.length co).ownBlock→W'.ownsRow w.heap.size 92 3 (.slice (some ⟨g,0,none⟩) (old.length+1) cap) (old.length+1) (runCells old++[.int .i64 z,.slice aq os.length cq,.int .i64 tt]) →
            W'.cell? ⟨eb,5,none⟩=some (.slice ao old.length co)∧W'.frozen? ⟨eb,5,none⟩=false∧Hid (RdrAt (W'.setCell ⟨eb,5,none⟩ (.slice (some ⟨g,0,none⟩) (old.length+1) cap)) rb r4 x4∧Below w.heap.size w (W'.setCell ⟨eb,5,none⟩ (.slice (some ⟨g,0,none⟩) (old.length+1) cap))∧(x4=false→DL w (W'.setCell ⟨eb,5,none⟩ (.slice (some ⟨g,0,none⟩) (old.length+1) cap)) rb eb pb ⟨st,win⟩ wm (wrap64 nx) vs vw (.slice (some ⟨g,0,none⟩) (old.length+1) cap) Q (old++[(⟨st4,os,tt⟩,.slice aq os.length cq)]) r4 x4))):=by
           intro V W' g cap hV gr ow
           obtain⟨q5,f5,k1,k2⟩:=DL.pushB (y':=.slice (some ⟨g,0,none⟩) (old.length+1) cap) L2.out hV gr
           refine⟨q5,f5,k1,k2,fun hx4=>?_⟩
           have hz:=HZ.out hx4
           subst hz
           exact (DL.pushR (u:=(⟨st4,os,tt⟩,.slice aq os.length cq)) L2.out hV gr HOW2.out ow).2.2
          obtain⟨i0,hi0,hz0,hz1,hz2⟩:=info_parts Tryz.infoRun
          go_region_law (refine step_append_lies _ rfl (.tmp 173) (.tmp 175) 84 rfl w.heap.size 92 i0 (.agg #[.int .i64 0,.slice none 0 0,.int .i64 0]) 3 40 Tryz.underlying84 hi0 hz0 hz1 hz2 rfl (by decide) (.slice ao old.length co) old.length (runCells old) rfl (L2.out.row.alloc _) ⟨V0.heap.size,0,none⟩ 1 1 [.int .i64 z,.slice aq os.length cq,.int .i64 tt] rfl rfl (World.news_of_block (cs:=#[.int .i64 z,.slice aq os.length cq,.int .i64 tt]) (new_at (by simp;done))) (by intro u hu;simp at hu;rcases hu with rfl | rfl | rfl<;>rfl) (by decide) (by unfold maxLen;omega) (by omega) (by simp;omega) _ rfl ?_;intro g cap w3 ow2 gr2 hat hlt;obtain⟨q5,f5,K2⟩:=HPU.out _ _ g cap (((Below.refl _ V0).alloc (Nat.le_refl _) _).drew) gr2 ow2;clear ow2 gr2 hat hlt)
          all_goals (go_wp2;exact⟨⟨old.length+1,old++[(⟨st4,os,tt⟩,.slice aq os.length cq)],_,r4,x4,by go_num,by omega,by simp,by omega,by exact K2.out.1,by exact K2.out.2.1,by exact K2.out.2.2,by rw[List.map_append];exact R1.out⟩,by simp[intOf];omega⟩)
        ·have hcf:decide ((old.length:Int) < wrap64 m)=false:=decide_eq_false hc
         go_wp2
         go_meet
         case rel=>
          refine⟨old.length,old,vo,r,x,hi,hrl,hr.out.1,hr.out.2.1,hr.out.2.2.1,hr.out.2.2.2,fun hx=>?_⟩
          subst hx
          rcases hr.out.2.2.2 with ⟨h,-⟩ | ⟨-,h3,h4,h5,-⟩
          ·cases h
          ·unfold wrap64 at hc
           omega
      case rest=>
       obtain⟨i2,old,vo,r,x,ho24,hrl2,hx⟩:=hcut
       clear K11 R11
       obtain⟨wq,rfl⟩:∃wq,wq=wc:=⟨_,rfl⟩
       have rc0:=hx.out.1.c0
       have rc1:=hx.out.1.c1
       cases x with
       | true=>
        have HN:Hid (Fr.dLoad l=none):=Fr.dLoad_bad HS.out (by
         rcases hx.out.2.2.2.1 with ⟨-,h⟩ | ⟨h,-⟩
         ·exact h
         ·cases h)
        go_wp2
        go_ret
        exact⟨hx.out.2.1,Or.inl ⟨HN.out,rfl⟩⟩
       | false=>
        have KD:=hid (hx.out.2.2.1 rfl)
        have HST:=hid (hx.out.2.2.2.1.done (hx.out.2.2.2.2 rfl))
        have hin3:nx < 9007199254740992:=by
         rcases hx.out.2.2.2.1 with ⟨h,-⟩ | ⟨-,h3,h4,h5,-⟩
         ·cases h
         ·exact h5
        by_cases hr0:r=[]
        ·subst hr0
         have hnw:wrap64 (nx:Int)=nx:=by unfold wrap64;omega
         obtain⟨aw,cw,rfl⟩:=own_slice KD.out.wait
         rw[hnw] at KD
         clear hnw hx
         go_wp2
         clear rc0 rc1
         go_loopw [19] (fun s19 wr=>∃(i:Nat),s19=.int .i64 i∧i≤Q.length∧Hid (DL w wr rb eb pb ⟨st,win⟩ wm nx vs (.slice aw Q.length cw) vo Q old [] false∧((Q.take i).map En.Ev.off).Nodup)) (fun s19 _=>Q.length - (intOf s19).toNat)
         case atStart=>exact⟨0,rfl,Nat.zero_le _,KD.out,by simp⟩
         case round=>
          clear KD
          obtain⟨i,rfl,hi,hr⟩:=hrel
          obtain⟨wo2,rfl⟩:∃wo2,wo2=wr:=⟨_,rfl⟩
          obtain⟨c0,c1,c2,c3,c4,c5,cf⟩:=eng_cells hr.out.1.blk
          by_cases hlt:i < Q.length
          ·have hlt':(i:Int) < (Q.length:Int):=by omega
           go_wp2
           go_loopw [20] (fun s20 wr=>∃(j:Nat),s20=.int .i64 j∧j≤i∧Hid (DL w wr rb eb pb ⟨st,win⟩ wm nx vs (.slice aw Q.length cw) vo Q old [] false∧∀m (hm:m < j) (hq:m < Q.length),Q[m].off≠Q[i].off)) (fun s20 _=>i - (intOf s20).toNat)
           case atStart=>exact⟨0,rfl,Nat.zero_le _,hr.out.1,fun m hm=>by omega⟩
           case round=>
            obtain⟨j,rfl,hj,hq⟩:=hrel
            obtain⟨wo3,rfl⟩:∃wo3,wo3=wr:=⟨_,rfl⟩
            clear c0 c1 c2 c3 c4 c5 cf
            obtain⟨c0,c1,c2,c3,c4,c5,cf⟩:=eng_cells hq.out.1.blk
            by_cases hji:j < i
            ·have hji':(j:Int) < (i:Int):=by omega
             have hjl:j < Q.length:=by omega
             have hjl':(j:Int) < (Q.length:Int):=by omega
             obtain⟨b1,o1,hb1,-,e1,-,-⟩:=EvsAt.get (RowAt.ofOwn hq.out.1.wait) hlt
             obtain⟨b2,o2,hb2,-,e2,-,-⟩:=EvsAt.get (RowAt.ofOwn hq.out.1.wait) hjl
             cases hb1
             cases hb2
             obtain⟨x1,hx1⟩:∃x,Q[i].off=x:=⟨_,rfl⟩
             obtain⟨x2,hx2⟩:∃x,Q[j].off=x:=⟨_,rfl⟩
             rw[hx1] at e1
             rw[hx2] at e2
             by_cases he:x1=x2
             ·have he':(x1 == x2)=true:=by simpa using he
              have HN:Hid (Fr.dLoad l=none):=by
               show _=_
               rw[Fr.dLoad_end HS.out HST.out,if_neg]
               rintro⟨hn,-⟩
               have h1:=List.nodup_iff_pairwise_ne.1 hn
               rw[List.pairwise_map,List.pairwise_iff_getElem] at h1
               exact h1 j i hjl hlt hji (by rw[hx1,hx2,he])
              go_wp2
              go_quiet (fail)
              revert nq;intro n1
              go_wp2
              go_ret
              exact⟨hq.out.1.bel.trans ((bel_drewN (Below.refl _ _) _).mono hq.out.1.bel.size),Or.inl ⟨HN.out,rfl⟩⟩
             ·have he':(x1 == x2)=false:=by simpa using he
              go_wp2
              go_quiet (fail)
              revert nq;intro n1
              go_wp2
              go_roundw
              case rel=>
               refine⟨j+1,by go_num,by omega,hq.out.1.below (bel_drewN (Below.refl _ _) _),fun m hm hml=>?_⟩
               by_cases hmj:m=j
               ·subst hmj
                rw[hx1,hx2]
                exact fun e=>he e.symm
               ·exact hq.out.2 m (by omega) hml
              case measure=>simp[intOf];omega
            ·obtain rfl:j=i:=by omega
             have hjf:decide ((j:Int) < (j:Int))=false:=by simp
             go_wp2
             go_roundw
             case rel=>
              refine⟨j+1,by go_num,by omega,hq.out.1,?_⟩
              rw[List.take_succ_eq_append_getElem hlt,List.map_append,List.nodup_append]
              refine⟨hr.out.2,by simp,fun a ha b hb e=>?_⟩
              subst e
              simp only[List.map_cons,List.map_nil,List.mem_singleton] at hb
              obtain⟨y,hy,hya⟩:=List.mem_map.1 ha
              obtain⟨m,hm,hmy⟩:=List.getElem_of_mem hy
              rw[List.getElem_take] at hmy
              simp only[List.length_take] at hm
              exact hq.out.2 m (by omega) (by omega) (by rw[hmy,hya,hb])
             case measure=>simp[intOf];omega
          ·obtain rfl:i=Q.length:=by omega
           have hlf:decide ((Q.length:Int) < (Q.length:Int))=false:=by simp
           have hnd:=hr.out.2
           rw[List.take_length] at hnd
           obtain⟨U,hU⟩:∃U,En.under ⟨st,win⟩ [] (old.map Prod.fst) wm (win - 1)=U:=⟨_,rfl⟩
           have hsv:=Fr.svt_of (s:=⟨st,win,wm,nx,Q,old.map Prod.fst⟩) (by omega) HST.out hnd
           have hle:=Fr.dLoad_end HS.out HST.out
           simp only[] at hsv hle
           rw[hU] at hsv hle
           have hbd:Bds ⟨st,win⟩ [] old:=by
            refine⟨HF.out.w0,HF.out.w9,hs4,by simp,ho24,fun x hx=>?_⟩
            have:=((Fr.dState_some HST.out).1.run x.1 (List.mem_map.2 ⟨x,hx,rfl⟩)).len
            omega
           have HSV:=hid (rSave_any _ eb pb ⟨st,win⟩ wm nx vs _ _ vo Q [] old U wo2 hr.out.1.reng hbd hU hsv)
           have HLE:=hid hle
           have HND:=hid hnd
           clear hsv hle hnd hbd
           go_wp2_with (go_at_call 39;fail)
           refine HSV.out.mono ?_
           rintro e w12 ⟨rfl,hb12⟩
           have H12:=hid (hr.out.1.bel.trans (hb12.mono hr.out.1.bel.size))
           clear hb12 c0 c1 c2 c3 c4 c5 cf
           by_cases hfe:Fr.framed (En.stateB (Pl.text st win) wm nx Q U)=l
           ·rw[hfe]
            have HY:Hid (Fr.dLoad l=some ⟨st,win,wm,nx,Q,old.map Prod.fst⟩):=by
             show _=_
             rw[HLE.out,if_pos ⟨HND.out,hfe⟩]
            clear hfe
            go_wp2
            go_ret
            exact⟨H12.out,Or.inr ⟨_,eb,HY.out,rfl⟩⟩
           ·have HN:Hid (Fr.dLoad l=none):=by
             show _=_
             rw[HLE.out,if_neg (fun h=>hfe h.2)]
            obtain⟨fr,hfr⟩:∃fr,Fr.framed (En.stateB (Pl.text st win) wm nx Q U)=fr:=⟨_,rfl⟩
            rw[hfr] at hfe ⊢
            clear hfr HSV HLE
            have hfb:(fr == l)=false:=by simpa using hfe
            go_wp2
            go_ret
            exact⟨H12.out,Or.inl ⟨HN.out,rfl⟩⟩
        ·have hrn:r.isEmpty=false:=by simpa using hr0
         have HN:Hid (Fr.dLoad l=none):=Fr.dLoad_more HS.out HST.out hr0
         go_wp2
         go_ret
         exact⟨hx.out.2.1,Or.inl ⟨HN.out,rfl⟩⟩
end Go.Proofs.YtfldcmdhneegmaaGreatDoor

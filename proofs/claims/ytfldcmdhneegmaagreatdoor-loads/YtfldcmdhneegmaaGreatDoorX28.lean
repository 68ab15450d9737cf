import Derived.Test.YtfldcmdhneegmaaGreatDoorX27
set_option maxHeartbeats 4000000
set_option maxRecDepth 1000000
namespace Go.Proofs.YtfldcmdhneegmaaGreatDoor
open Go.RowKit Go.Lib
theorem ref_nil (f:Nat)(acc:List (Int × Bool)):Pl.refLoop f [] acc=none:=by
 cases f with
 | zero=>rfl
 | succ f=>simp[Pl.refLoop]
theorem ref_bad (f:Nat)(b:UInt8)(r:List UInt8)(acc:List (Int × Bool))(h:isLetterU (Utf8.decode ⟨(b::r).toArray⟩ 0).1=false∨acc.length=4):Pl.refLoop f (b::r) acc=none:=by
 cases f with
 | zero=>rfl
 | succ f=>unfold Pl.refLoop;rw[if_pos (Or.inr h)]
theorem ref_go (f:Nat)(b:UInt8)(r:List UInt8)(acc:List (Int × Bool))(h:isLetterU (Utf8.decode ⟨(b::r).toArray⟩ 0).1=true)(h4:acc.length≠4)(s1 s2:List UInt8)(p:Bool)
  (e1:(b::r).drop (Utf8.decode ⟨(b::r).toArray⟩ 0).2=s1) (ep:(s1.head? == some 43)=p) (e2:(if p then s1.drop 1 else s1)=s2) :
  Pl.refLoop (f+1) (b::r) acc=if (Pl.sp s2).head?=some 47 then (if Pl.winOf ((Pl.sp s2).drop 1) < 0 then none else some (acc++[(((Utf8.decode ⟨(b::r).toArray⟩ 0).1:Int),p)],Pl.winOf ((Pl.sp s2).drop 1)))
   else if s2.head?=some 32 then Pl.refLoop f (Pl.sp s2) (acc++[(((Utf8.decode ⟨(b::r).toArray⟩ 0).1:Int),p)]) else none:=by
 subst e1 ep e2
 rw[Pl.refLoop,if_neg (by simp[h,h4])]
theorem head_zero' (t:List UInt8)(h:0 < (⟨t.toArray⟩:ByteArray).size):t.head?=some ((⟨t.toArray⟩:ByteArray)[0]'h):=head_zero t (by simpa [ByteArray.size] using h)
theorem ne_byte {b:UInt8}{k:Nat}(hk:k < 256)(h:b≠UInt8.ofNat k):((b.toNat:Int) == k)=false:=by
 rw[beq_eq_false_iff_ne]
 intro e
 apply h
 apply UInt8.toNat_inj.1
 simp
 omega
theorem two_cells (w:World)(x y:Value)(t:TypeId):∀(j:Nat) (u:Value),[x,y][j]?=some u→(w.alloc (.cells #[x,y] t)).cell? ((⟨w.heap.size,0,none⟩:Addr).add j)=some u:=by
 intro j u hj
 match j,hj with
 | 0,hj=>simp at hj;subst hj;simp[Addr.add]
 | 1,hj=>simp at hj;subst hj;simp[Addr.add]
theorem two_one (c:Int)(p:Bool):∀u∈[Value.int .i32 c,Value.bool p],u.oneCell'=true:=by
 intro u hu
 simp at hu
 rcases hu with rfl | rfl<;>rfl
theorem step_facts (t:List UInt8)(ht:t≠[])(acc:List (Int × Bool))(fuel:Nat)(W:World)(hD:Decodes W):∃c n:Nat,1≤n∧n≤t.length∧(c:Int)≤2147483647 ∧
  Hid (Calls Tryz.prog 44 #[.string ⟨t.toArray⟩] W fun e w'=>e=.returned (.tuple #[.int .i32 c,.int .i64 n])∧Below W.heap.size W w') ∧
  Hid (isLetterU c=false∨acc.length=4→Pl.refLoop fuel t acc=none) ∧
  Hid (∀(f:Nat),fuel=f+1→isLetterU c=true→acc.length≠4→∀(s1 s2:List UInt8) (p:Bool),t.drop n=s1→(s1.head? == some 43)=p→(if p then s1.drop 1 else s1)=s2 →
   Pl.refLoop fuel t acc=if (Pl.sp s2).head?=some 47 then (if Pl.winOf ((Pl.sp s2).drop 1) < 0 then none else some (acc++[((c:Int),p)],Pl.winOf ((Pl.sp s2).drop 1)))
    else if s2.head?=some 32 then Pl.refLoop f (Pl.sp s2) (acc++[((c:Int),p)]) else none):=by
 cases t with
 | nil=>exact absurd rfl ht
 | cons b r=>
  refine⟨(Utf8.decode ⟨(b::r).toArray⟩ 0).1,(Utf8.decode ⟨(b::r).toArray⟩ 0).2,Pl.dec_width b r,dec_le b r,?_,decode_any b r W hD,ref_bad fuel b r acc,?_⟩
  ·have hcv:=Pl.decode_valid ⟨(b::r).toArray⟩ 0
   rcases hcv with h | h<;>omega
  ·rintro f rfl h h4 s1 s2 p e1 ep e2
   exact ref_go f b r acc h h4 s1 s2 p e1 ep e2
structure LRel (w wr:World)(t:List UInt8)(acc:List (Int × Bool))(fuel:Nat)(v:Value)(res:Option (List (Int × Bool) × Int)):Prop where
 len:t.length≤60
 fu:t.length < fuel
 l4:acc.length≤4
 rel:PRel w wr acc v 0
 run:Pl.refLoop fuel t acc=res
theorem refParse_any (l:List UInt8)(w:World)(hl:l.length≤60)(hL:Letters w)(hD:Decodes w) :
  Calls Tryz.prog 15 #[.string ⟨l.toArray⟩] w fun e w'=>RefEnd (Pl.refLoop (l.length+1) (Pl.sp l) []) w e w':=by
 have h60:¬ (60:Int) < (l.length:Int):=by omega
 obtain⟨res,hres⟩:∃res,Pl.refLoop (l.length+1) (Pl.sp l) []=res:=⟨_,rfl⟩
 rw[hres]
 have hsl0:=Pl.sp_length l
 have HS0:Hid (LRel w (w.alloc (.cells #[.slice none 0 0,.int .i64 0] 99)) (Pl.sp l) [] (l.length+1) (.slice none 0 0) res):=⟨by omega,by omega,by simp,prel_start w,hres⟩
 have HC:Hid (∀(s:List UInt8) (W:World),s.length≤100→Calls Tryz.prog 43 #[.string ⟨s.toArray⟩] W fun e w'=>e=.returned (.tuple #[.string ⟨(Pl.sp s).toArray⟩,.bool (s.head? == some 32)])∧Hid (w'=W)):=fun s W h=>(spaces_any s W h).mono fun e w' ⟨h1,h2⟩=>⟨h1,h2⟩
 have HL:=hid hL
 have HD:=hid hD
 clear hL hD hres hsl0
 go_enter Tryz.func15,Tryz.ntmps15
 go_wp2_with (go_at_call 43;refine (HC.out l _ (by omega)).mono ?_;rintro e w0 ⟨rfl,hw0⟩)
 have HS1:Hid (LRel w w0 (Pl.sp l) [] (l.length+1) (.slice none 0 0) res):=by rw[hw0.out];exact HS0
 clear HS0 hw0
 go_loopw [5] (fun s wr=>∃t acc fuel v,s=.string ⟨t.toArray⟩∧Hid (LRel w wr t acc fuel v res)) (fun s _=>strLen s)
 case atStart=>exact⟨_,_,_,_,rfl,HS1⟩
 case round=>
  clear HS1
  obtain⟨t,acc,fuel,v,rfl,hr⟩:=hrel
  obtain⟨ao,cap,rfl⟩:=own_slice hr.out.rel.own
  have hl4:=hr.out.l4
  have htl:=hr.out.len
  by_cases ht:t=[]
  ·subst ht
   have HP:Hid (res=none):=by unfold Hid;rw[← hr.out.run];exact ref_nil _ _
   have HD1:=hid (decode_nil wr (HD.out.below hr.out.rel.bel))
   go_wp2_with (first | (go_at_call 44;refine HD1.out.mono ?_;rintro e w1 ⟨rfl,b1⟩;have HB1:=hid (hr.out.rel.bel.trans (b1.mono (Nat.le_of_lt hr.out.rel.lt)));clear b1) | (go_at_call 45;refine (HL.out 65533 _ (by omega) (by omega) HB1.out).mono ?_;rintro e w2 ⟨rfl,b2⟩;have HB2:=hid b2;clear b2))
   all_goals (go_ret2;rw[HP.out];exact⟨rfl,HB1.out.trans (HB2.out.mono HB1.out.size)⟩)
  ·obtain⟨c,n,hn1,hnl,hchi,HD1,HBAD,HGO⟩:=step_facts t ht acc fuel wr (HD.out.below hr.out.rel.bel)
   have HL2:Hid (∀W,Below w.heap.size w W→Calls Tryz.prog 45 #[.int .i32 c] W fun e w'=>e=.returned (.bool (isLetterU c))∧Below W.heap.size W w'):=fun W hb=>HL.out c W (by omega) hchi hb
   have hn0:((n:Int) == 0)=false:=by simp;omega
   by_cases hlet:isLetterU c=true
   ·have hc3:((c:Int) == 65533)=false:=by
     rw[beq_eq_false_iff_ne]
     intro e
     rw[e] at hlet
     revert hlet
     decide
    by_cases h4:acc.length=4
    ·have HP:Hid (res=none):=by unfold Hid;rw[← hr.out.run];exact HBAD.out (Or.inr h4)
     have h4':((acc.length:Int) == 4)=true:=by simp;omega
     clear h4 HGO HBAD
     rw[hlet] at HL2
     go_wp2_with (first | (go_at_call 44;refine HD1.out.mono ?_;rintro e w1 ⟨rfl,b1⟩;have HB1:=hid b1;clear b1) | (go_at_call 45;refine (HL2.out _ (hr.out.rel.below HB1.out).bel).mono ?_;rintro e w2 ⟨rfl,b2⟩;have HP2:=hid ((hr.out.rel.below HB1.out).below b2);clear b2;obtain⟨q0,q1,g0,g1⟩:=res_cells HP2.out.blk))
     all_goals (go_ret2;rw[HP.out];exact⟨rfl,HP2.out.bel⟩)
    ·have h4':((acc.length:Int) == 4)=false:=by simp;omega
     obtain⟨f,rfl⟩:∃f,fuel=f+1:=⟨fuel - 1,by have:=hr.out.fu;omega⟩
     have hfu:=hr.out.fu
     obtain⟨i0,hi,hz0,hz1,hz2⟩:=info_parts Tryz.infoRefStep
     have hsl1:∀W,(Instr.slice 9 (.string ⟨t.toArray⟩) (some (.int .i64 n)) none none).run Tryz.prog W=.ok (.string ⟨(t.drop n).toArray⟩) W:=fun W=>slice_from t n n rfl hnl W
     have hs1l:(t.drop n).length=t.length - n:=List.length_drop ..
     generalize hs1:t.drop n=s1 at hsl1 hs1l
     rw[hlet] at HL2
     by_cases hp0:0 < s1.length
     ·have hp0':(0:Int) < (s1.length:Int):=by omega
      have hpp:0 < (⟨s1.toArray⟩:ByteArray).size:=by simp[ByteArray.size];omega
      have hph:=head_zero' s1 hpp
      by_cases h43:(⟨s1.toArray⟩:ByteArray)[0]'hpp=43
      ·have hb43:((((⟨s1.toArray⟩:ByteArray)[0]'hpp).toNat:Int) == 43)=true:=by rw[h43];rfl
       have hpl:(s1.head? == some 43)=true:=by rw[hph,h43];rfl
       have hsl2:∀W,(Instr.slice 9 (.string ⟨s1.toArray⟩) (some (.int .i64 1)) none none).run Tryz.prog W=.ok (.string ⟨(s1.drop 1).toArray⟩) W:=fun W=>slice_from s1 1 1 rfl (by omega) W
       obtain⟨s2,hs2⟩:∃s2,(if true then s1.drop 1 else s1)=s2:=⟨_,rfl⟩
       have hs2':s1.drop 1=s2:=hs2
       rw[hs2'] at hsl2
       clear h43 hph hs2'
       have HREC:=hid (hr.out.run.symm.trans (HGO.out f rfl hlet h4 s1 s2 true hs1 hpl hs2))
       have hs2l:s2.length≤s1.length:=by rw[← hs2];simp
       have hspl:=Pl.sp_length s2
       have HSP:Hid (∀W,Calls Tryz.prog 43 #[.string ⟨s2.toArray⟩] W fun e w'=>e=.returned (.tuple #[.string ⟨(Pl.sp s2).toArray⟩,.bool (s2.head? == some 32)])∧Hid (w'=W)):=fun W=>HC.out s2 W (by omega)
       generalize Pl.sp s2=rs at HREC hspl HSP
       generalize hsm:(s2.head? == some 32)=sm at HSP
       have HSM:=hid hsm
       clear hsm HGO HBAD hs1 hpl hs2
       by_cases hrl:0 < rs.length
       ·have hrl':(0:Int) < (rs.length:Int):=by omega
        have hrp:0 < (⟨rs.toArray⟩:ByteArray).size:=by simp[ByteArray.size];omega
        have hrh:=head_zero' rs hrp
        by_cases h47:(⟨rs.toArray⟩:ByteArray)[0]'hrp=47
        ·have hb47:((((⟨rs.toArray⟩:ByteArray)[0]'hrp).toNat:Int) == 47)=true:=by rw[h47];rfl
         have HRH:Hid (rs.head?=some 47):=by unfold Hid;rw[hrh,h47]
         have hsl3:∀W,(Instr.slice 9 (.string ⟨rs.toArray⟩) (some (.int .i64 1)) none none).run Tryz.prog W=.ok (.string ⟨(rs.drop 1).toArray⟩) W:=fun W=>slice_from rs 1 1 rfl (by omega) W
         have HWN:Hid (∀W,Calls Tryz.prog 46 #[.string ⟨(rs.drop 1).toArray⟩] W fun e w'=>e=.returned (.int .i64 (Pl.winOf (rs.drop 1)))∧Hid (w'=W)):=fun W=>(window_any (rs.drop 1) W (by rw[List.length_drop];omega)).mono fun e w' ⟨h1,h2⟩=>⟨h1,h2⟩
         generalize Pl.winOf (rs.drop 1)=wv at HREC HWN
         generalize rs.drop 1=rs1 at hsl3 HWN
         clear h47 hrh
         by_cases hwv:wv < 0
         ·have HP:Hid (res=none):=by unfold Hid;rw[HREC.out,if_pos HRH.out,if_pos hwv]
          go_wp2_with (first | (go_at_call 44;refine HD1.out.mono ?_;rintro e w1 ⟨rfl,b1⟩;have HB1:=hid b1;clear b1) | (go_at_call 45;refine (HL2.out _ (hr.out.rel.below HB1.out).bel).mono ?_;rintro e w2 ⟨rfl,b2⟩;have HP2:=hid ((hr.out.rel.below HB1.out).below b2);clear b2;obtain⟨q0,q1,g0,g1⟩:=res_cells HP2.out.blk) | (at_builtin;refine wpList_append_own _ rfl _ _ 97 rfl (w.heap.size+1) 104 i0 (.agg #[.int .i32 0,.bool false]) 2 8 Tryz.underlying97 hi hz0 hz1 hz2 rfl (by decide) _ _ _ rfl (HP2.out.own.alloc _) ⟨w2.heap.size,0,none⟩ 1 1 [.int .i32 c,.bool true] rfl rfl (two_cells _ _ _ _) (two_one _ _) (by unfold maxLen;omega) (by omega) (by have:=HP2.out.lt;simp;omega) ?_;intro v' w3 hown' hgrow hnil;obtain⟨ao',cap',rfl⟩:=own_slice hown';obtain⟨R3,blk3⟩:=PRel.grown HP2.out hown' hgrow;obtain⟨d0,d1,k0,k1⟩:=res_cells blk3;have HP3:=hid R3;clear hown' hgrow R3 blk3 hnil) | (go_at_call 43;refine (HSP.out _).mono ?_;rintro e w4 ⟨rfl,hw4⟩;obtain rfl:=hw4.out;clear hw4) | (go_at_call 46;refine (HWN.out _).mono ?_;rintro e w5 ⟨rfl,hw5⟩;obtain rfl:=hw5.out;clear hw5))
          go_ret2
          rw[HP.out]
          exact⟨rfl,(HP3.out.setWin wv).bel⟩
         ·have HP:Hid (res=some (acc++[((c:Int),true)],wv)):=by unfold Hid;rw[HREC.out,if_pos HRH.out,if_neg hwv]
          go_wp2_with (first | (go_at_call 44;refine HD1.out.mono ?_;rintro e w1 ⟨rfl,b1⟩;have HB1:=hid b1;clear b1) | (go_at_call 45;refine (HL2.out _ (hr.out.rel.below HB1.out).bel).mono ?_;rintro e w2 ⟨rfl,b2⟩;have HP2:=hid ((hr.out.rel.below HB1.out).below b2);clear b2;obtain⟨q0,q1,g0,g1⟩:=res_cells HP2.out.blk) | (at_builtin;refine wpList_append_own _ rfl _ _ 97 rfl (w.heap.size+1) 104 i0 (.agg #[.int .i32 0,.bool false]) 2 8 Tryz.underlying97 hi hz0 hz1 hz2 rfl (by decide) _ _ _ rfl (HP2.out.own.alloc _) ⟨w2.heap.size,0,none⟩ 1 1 [.int .i32 c,.bool true] rfl rfl (two_cells _ _ _ _) (two_one _ _) (by unfold maxLen;omega) (by omega) (by have:=HP2.out.lt;simp;omega) ?_;intro v' w3 hown' hgrow hnil;obtain⟨ao',cap',rfl⟩:=own_slice hown';obtain⟨R3,blk3⟩:=PRel.grown HP2.out hown' hgrow;obtain⟨d0,d1,k0,k1⟩:=res_cells blk3;have HP3:=hid R3;clear hown' hgrow R3 blk3 hnil) | (go_at_call 43;refine (HSP.out _).mono ?_;rintro e w4 ⟨rfl,hw4⟩;obtain rfl:=hw4.out;clear hw4) | (go_at_call 46;refine (HWN.out _).mono ?_;rintro e w5 ⟨rfl,hw5⟩;obtain rfl:=hw5.out;clear hw5))
          go_ret2
          rw[HP.out]
          exact⟨_,rfl,HP3.out.setWin wv⟩
        ·have hb47:((((⟨rs.toArray⟩:ByteArray)[0]'hrp).toNat:Int) == 47)=false:=ne_byte (k:=47) (by omega) h47
         have HRH:Hid (¬ rs.head?=some 47):=by unfold Hid;rw[hrh];simpa using h47
         clear h47 hrh
         cases sm with
         | false=>
          have HP:Hid (res=none):=by unfold Hid;rw[HREC.out,if_neg HRH.out,if_neg (by simpa using HSM.out)]
          go_wp2_with (first | (go_at_call 44;refine HD1.out.mono ?_;rintro e w1 ⟨rfl,b1⟩;have HB1:=hid b1;clear b1) | (go_at_call 45;refine (HL2.out _ (hr.out.rel.below HB1.out).bel).mono ?_;rintro e w2 ⟨rfl,b2⟩;have HP2:=hid ((hr.out.rel.below HB1.out).below b2);clear b2;obtain⟨q0,q1,g0,g1⟩:=res_cells HP2.out.blk) | (at_builtin;refine wpList_append_own _ rfl _ _ 97 rfl (w.heap.size+1) 104 i0 (.agg #[.int .i32 0,.bool false]) 2 8 Tryz.underlying97 hi hz0 hz1 hz2 rfl (by decide) _ _ _ rfl (HP2.out.own.alloc _) ⟨w2.heap.size,0,none⟩ 1 1 [.int .i32 c,.bool true] rfl rfl (two_cells _ _ _ _) (two_one _ _) (by unfold maxLen;omega) (by omega) (by have:=HP2.out.lt;simp;omega) ?_;intro v' w3 hown' hgrow hnil;obtain⟨ao',cap',rfl⟩:=own_slice hown';obtain⟨R3,blk3⟩:=PRel.grown HP2.out hown' hgrow;obtain⟨d0,d1,k0,k1⟩:=res_cells blk3;have HP3:=hid R3;clear hown' hgrow R3 blk3 hnil) | (go_at_call 43;refine (HSP.out _).mono ?_;rintro e w4 ⟨rfl,hw4⟩;obtain rfl:=hw4.out;clear hw4))
          go_ret2
          rw[HP.out]
          exact⟨rfl,HP3.out.bel⟩
         | true=>
          have HP:Hid (res=Pl.refLoop f rs (acc++[((c:Int),true)])):=by unfold Hid;rw[HREC.out,if_neg HRH.out,if_pos (by simpa using HSM.out)]
          go_wp2_with (first | (go_at_call 44;refine HD1.out.mono ?_;rintro e w1 ⟨rfl,b1⟩;have HB1:=hid b1;clear b1) | (go_at_call 45;refine (HL2.out _ (hr.out.rel.below HB1.out).bel).mono ?_;rintro e w2 ⟨rfl,b2⟩;have HP2:=hid ((hr.out.rel.below HB1.out).below b2);clear b2;obtain⟨q0,q1,g0,g1⟩:=res_cells HP2.out.blk) | (at_builtin;refine wpList_append_own _ rfl _ _ 97 rfl (w.heap.size+1) 104 i0 (.agg #[.int .i32 0,.bool false]) 2 8 Tryz.underlying97 hi hz0 hz1 hz2 rfl (by decide) _ _ _ rfl (HP2.out.own.alloc _) ⟨w2.heap.size,0,none⟩ 1 1 [.int .i32 c,.bool true] rfl rfl (two_cells _ _ _ _) (two_one _ _) (by unfold maxLen;omega) (by omega) (by have:=HP2.out.lt;simp;omega) ?_;intro v' w3 hown' hgrow hnil;obtain⟨ao',cap',rfl⟩:=own_slice hown';obtain⟨R3,blk3⟩:=PRel.grown HP2.out hown' hgrow;obtain⟨d0,d1,k0,k1⟩:=res_cells blk3;have HP3:=hid R3;clear hown' hgrow R3 blk3 hnil) | (go_at_call 43;refine (HSP.out _).mono ?_;rintro e w4 ⟨rfl,hw4⟩;obtain rfl:=hw4.out;clear hw4))
          go_roundw
          case rel=>exact⟨rs,acc++[((c:Int),true)],f,_,rfl,⟨by omega,by omega,by simp;omega,HP3.out,HP.out.symm⟩⟩
          case measure=>simp only[strLen,ByteArray.size,List.size_toArray];omega
       ·have hrl':¬ (0:Int) < (rs.length:Int):=by omega
        have HRH:Hid (¬ rs.head?=some 47):=by unfold Hid;rw[List.length_eq_zero_iff.1 (by omega:rs.length=0)];simp
        cases sm with
        | false=>
         have HP:Hid (res=none):=by unfold Hid;rw[HREC.out,if_neg HRH.out,if_neg (by simpa using HSM.out)]
         go_wp2_with (first | (go_at_call 44;refine HD1.out.mono ?_;rintro e w1 ⟨rfl,b1⟩;have HB1:=hid b1;clear b1) | (go_at_call 45;refine (HL2.out _ (hr.out.rel.below HB1.out).bel).mono ?_;rintro e w2 ⟨rfl,b2⟩;have HP2:=hid ((hr.out.rel.below HB1.out).below b2);clear b2;obtain⟨q0,q1,g0,g1⟩:=res_cells HP2.out.blk) | (at_builtin;refine wpList_append_own _ rfl _ _ 97 rfl (w.heap.size+1) 104 i0 (.agg #[.int .i32 0,.bool false]) 2 8 Tryz.underlying97 hi hz0 hz1 hz2 rfl (by decide) _ _ _ rfl (HP2.out.own.alloc _) ⟨w2.heap.size,0,none⟩ 1 1 [.int .i32 c,.bool true] rfl rfl (two_cells _ _ _ _) (two_one _ _) (by unfold maxLen;omega) (by omega) (by have:=HP2.out.lt;simp;omega) ?_;intro v' w3 hown' hgrow hnil;obtain⟨ao',cap',rfl⟩:=own_slice hown';obtain⟨R3,blk3⟩:=PRel.grown HP2.out hown' hgrow;obtain⟨d0,d1,k0,k1⟩:=res_cells blk3;have HP3:=hid R3;clear hown' hgrow R3 blk3 hnil) | (go_at_call 43;refine (HSP.out _).mono ?_;rintro e w4 ⟨rfl,hw4⟩;obtain rfl:=hw4.out;clear hw4))
         go_ret2
         rw[HP.out]
         exact⟨rfl,HP3.out.bel⟩
        | true=>
         have HP:Hid (res=Pl.refLoop f rs (acc++[((c:Int),true)])):=by unfold Hid;rw[HREC.out,if_neg HRH.out,if_pos (by simpa using HSM.out)]
         go_wp2_with (first | (go_at_call 44;refine HD1.out.mono ?_;rintro e w1 ⟨rfl,b1⟩;have HB1:=hid b1;clear b1) | (go_at_call 45;refine (HL2.out _ (hr.out.rel.below HB1.out).bel).mono ?_;rintro e w2 ⟨rfl,b2⟩;have HP2:=hid ((hr.out.rel.below HB1.out).below b2);clear b2;obtain⟨q0,q1,g0,g1⟩:=res_cells HP2.out.blk) | (at_builtin;refine wpList_append_own _ rfl _ _ 97 rfl (w.heap.size+1) 104 i0 (.agg #[.int .i32 0,.bool false]) 2 8 Tryz.underlying97 hi hz0 hz1 hz2 rfl (by decide) _ _ _ rfl (HP2.out.own.alloc _) ⟨w2.heap.size,0,none⟩ 1 1 [.int .i32 c,.bool true] rfl rfl (two_cells _ _ _ _) (two_one _ _) (by unfold maxLen;omega) (by omega) (by have:=HP2.out.lt;simp;omega) ?_;intro v' w3 hown' hgrow hnil;obtain⟨ao',cap',rfl⟩:=own_slice hown';obtain⟨R3,blk3⟩:=PRel.grown HP2.out hown' hgrow;obtain⟨d0,d1,k0,k1⟩:=res_cells blk3;have HP3:=hid R3;clear hown' hgrow R3 blk3 hnil) | (go_at_call 43;refine (HSP.out _).mono ?_;rintro e w4 ⟨rfl,hw4⟩;obtain rfl:=hw4.out;clear hw4))
         go_roundw
         case rel=>exact⟨rs,acc++[((c:Int),true)],f,_,rfl,⟨by omega,by omega,by simp;omega,HP3.out,HP.out.symm⟩⟩
         case measure=>simp only[strLen,ByteArray.size,List.size_toArray];omega
      ·have hb43:((((⟨s1.toArray⟩:ByteArray)[0]'hpp).toNat:Int) == 43)=false:=ne_byte (k:=43) (by omega) h43
       have hpl:(s1.head? == some 43)=false:=by rw[hph];simpa using h43
       obtain⟨s2,hs2⟩:∃s2,(if false then s1.drop 1 else s1)=s2:=⟨_,rfl⟩
       obtain rfl:s1=s2:=by simpa using hs2
       clear h43 hph
       have HREC:=hid (hr.out.run.symm.trans (HGO.out f rfl hlet h4 s1 s1 false hs1 hpl hs2))
       have hs2l:s1.length≤s1.length:=Nat.le_refl _
       have hspl:=Pl.sp_length s1
       have HSP:Hid (∀W,Calls Tryz.prog 43 #[.string ⟨s1.toArray⟩] W fun e w'=>e=.returned (.tuple #[.string ⟨(Pl.sp s1).toArray⟩,.bool (s1.head? == some 32)])∧Hid (w'=W)):=fun W=>HC.out s1 W (by omega)
       generalize Pl.sp s1=rs at HREC hspl HSP
       generalize hsm:(s1.head? == some 32)=sm at HSP
       have HSM:=hid hsm
       clear hsm HGO HBAD hs1 hpl hs2
       by_cases hrl:0 < rs.length
       ·have hrl':(0:Int) < (rs.length:Int):=by omega
        have hrp:0 < (⟨rs.toArray⟩:ByteArray).size:=by simp[ByteArray.size];omega
        have hrh:=head_zero' rs hrp
        by_cases h47:(⟨rs.toArray⟩:ByteArray)[0]'hrp=47
        ·have hb47:((((⟨rs.toArray⟩:ByteArray)[0]'hrp).toNat:Int) == 47)=true:=by rw[h47];rfl
         have HRH:Hid (rs.head?=some 47):=by unfold Hid;rw[hrh,h47]
         have hsl3:∀W,(Instr.slice 9 (.string ⟨rs.toArray⟩) (some (.int .i64 1)) none none).run Tryz.prog W=.ok (.string ⟨(rs.drop 1).toArray⟩) W:=fun W=>slice_from rs 1 1 rfl (by omega) W
         have HWN:Hid (∀W,Calls Tryz.prog 46 #[.string ⟨(rs.drop 1).toArray⟩] W fun e w'=>e=.returned (.int .i64 (Pl.winOf (rs.drop 1)))∧Hid (w'=W)):=fun W=>(window_any (rs.drop 1) W (by rw[List.length_drop];omega)).mono fun e w' ⟨h1,h2⟩=>⟨h1,h2⟩
         generalize Pl.winOf (rs.drop 1)=wv at HREC HWN
         generalize rs.drop 1=rs1 at hsl3 HWN
         clear h47 hrh
         by_cases hwv:wv < 0
         ·have HP:Hid (res=none):=by unfold Hid;rw[HREC.out,if_pos HRH.out,if_pos hwv]
          go_wp2_with (first | (go_at_call 44;refine HD1.out.mono ?_;rintro e w1 ⟨rfl,b1⟩;have HB1:=hid b1;clear b1) | (go_at_call 45;refine (HL2.out _ (hr.out.rel.below HB1.out).bel).mono ?_;rintro e w2 ⟨rfl,b2⟩;have HP2:=hid ((hr.out.rel.below HB1.out).below b2);clear b2;obtain⟨q0,q1,g0,g1⟩:=res_cells HP2.out.blk) | (at_builtin;refine wpList_append_own _ rfl _ _ 97 rfl (w.heap.size+1) 104 i0 (.agg #[.int .i32 0,.bool false]) 2 8 Tryz.underlying97 hi hz0 hz1 hz2 rfl (by decide) _ _ _ rfl (HP2.out.own.alloc _) ⟨w2.heap.size,0,none⟩ 1 1 [.int .i32 c,.bool false] rfl rfl (two_cells _ _ _ _) (two_one _ _) (by unfold maxLen;omega) (by omega) (by have:=HP2.out.lt;simp;omega) ?_;intro v' w3 hown' hgrow hnil;obtain⟨ao',cap',rfl⟩:=own_slice hown';obtain⟨R3,blk3⟩:=PRel.grown HP2.out hown' hgrow;obtain⟨d0,d1,k0,k1⟩:=res_cells blk3;have HP3:=hid R3;clear hown' hgrow R3 blk3 hnil) | (go_at_call 43;refine (HSP.out _).mono ?_;rintro e w4 ⟨rfl,hw4⟩;obtain rfl:=hw4.out;clear hw4) | (go_at_call 46;refine (HWN.out _).mono ?_;rintro e w5 ⟨rfl,hw5⟩;obtain rfl:=hw5.out;clear hw5))
          go_ret2
          rw[HP.out]
          exact⟨rfl,(HP3.out.setWin wv).bel⟩
         ·have HP:Hid (res=some (acc++[((c:Int),false)],wv)):=by unfold Hid;rw[HREC.out,if_pos HRH.out,if_neg hwv]
          go_wp2_with (first | (go_at_call 44;refine HD1.out.mono ?_;rintro e w1 ⟨rfl,b1⟩;have HB1:=hid b1;clear b1) | (go_at_call 45;refine (HL2.out _ (hr.out.rel.below HB1.out).bel).mono ?_;rintro e w2 ⟨rfl,b2⟩;have HP2:=hid ((hr.out.rel.below HB1.out).below b2);clear b2;obtain⟨q0,q1,g0,g1⟩:=res_cells HP2.out.blk) | (at_builtin;refine wpList_append_own _ rfl _ _ 97 rfl (w.heap.size+1) 104 i0 (.agg #[.int .i32 0,.bool false]) 2 8 Tryz.underlying97 hi hz0 hz1 hz2 rfl (by decide) _ _ _ rfl (HP2.out.own.alloc _) ⟨w2.heap.size,0,none⟩ 1 1 [.int .i32 c,.bool false] rfl rfl (two_cells _ _ _ _) (two_one _ _) (by unfold maxLen;omega) (by omega) (by have:=HP2.out.lt;simp;omega) ?_;intro v' w3 hown' hgrow hnil;obtain⟨ao',cap',rfl⟩:=own_slice hown';obtain⟨R3,blk3⟩:=PRel.grown HP2.out hown' hgrow;obtain⟨d0,d1,k0,k1⟩:=res_cells blk3;have HP3:=hid R3;clear hown' hgrow R3 blk3 hnil) | (go_at_call 43;refine (HSP.out _).mono ?_;rintro e w4 ⟨rfl,hw4⟩;obtain rfl:=hw4.out;clear hw4) | (go_at_call 46;refine (HWN.out _).mono ?_;rintro e w5 ⟨rfl,hw5⟩;obtain rfl:=hw5.out;clear hw5))
          go_ret2
          rw[HP.out]
          exact⟨_,rfl,HP3.out.setWin wv⟩
        ·have hb47:((((⟨rs.toArray⟩:ByteArray)[0]'hrp).toNat:Int) == 47)=false:=ne_byte (k:=47) (by omega) h47
         have HRH:Hid (¬ rs.head?=some 47):=by unfold Hid;rw[hrh];simpa using h47
         clear h47 hrh
         cases sm with
         | false=>
          have HP:Hid (res=none):=by unfold Hid;rw[HREC.out,if_neg HRH.out,if_neg (by simpa using HSM.out)]
          go_wp2_with (first | (go_at_call 44;refine HD1.out.mono ?_;rintro e w1 ⟨rfl,b1⟩;have HB1:=hid b1;clear b1) | (go_at_call 45;refine (HL2.out _ (hr.out.rel.below HB1.out).bel).mono ?_;rintro e w2 ⟨rfl,b2⟩;have HP2:=hid ((hr.out.rel.below HB1.out).below b2);clear b2;obtain⟨q0,q1,g0,g1⟩:=res_cells HP2.out.blk) | (at_builtin;refine wpList_append_own _ rfl _ _ 97 rfl (w.heap.size+1) 104 i0 (.agg #[.int .i32 0,.bool false]) 2 8 Tryz.underlying97 hi hz0 hz1 hz2 rfl (by decide) _ _ _ rfl (HP2.out.own.alloc _) ⟨w2.heap.size,0,none⟩ 1 1 [.int .i32 c,.bool false] rfl rfl (two_cells _ _ _ _) (two_one _ _) (by unfold maxLen;omega) (by omega) (by have:=HP2.out.lt;simp;omega) ?_;intro v' w3 hown' hgrow hnil;obtain⟨ao',cap',rfl⟩:=own_slice hown';obtain⟨R3,blk3⟩:=PRel.grown HP2.out hown' hgrow;obtain⟨d0,d1,k0,k1⟩:=res_cells blk3;have HP3:=hid R3;clear hown' hgrow R3 blk3 hnil) | (go_at_call 43;refine (HSP.out _).mono ?_;rintro e w4 ⟨rfl,hw4⟩;obtain rfl:=hw4.out;clear hw4))
          go_ret2
          rw[HP.out]
          exact⟨rfl,HP3.out.bel⟩
         | true=>
          have HP:Hid (res=Pl.refLoop f rs (acc++[((c:Int),false)])):=by unfold Hid;rw[HREC.out,if_neg HRH.out,if_pos (by simpa using HSM.out)]
          go_wp2_with (first | (go_at_call 44;refine HD1.out.mono ?_;rintro e w1 ⟨rfl,b1⟩;have HB1:=hid b1;clear b1) | (go_at_call 45;refine (HL2.out _ (hr.out.rel.below HB1.out).bel).mono ?_;rintro e w2 ⟨rfl,b2⟩;have HP2:=hid ((hr.out.rel.below HB1.out).below b2);clear b2;obtain⟨q0,q1,g0,g1⟩:=res_cells HP2.out.blk) | (at_builtin;refine wpList_append_own _ rfl _ _ 97 rfl (w.heap.size+1) 104 i0 (.agg #[.int .i32 0,.bool false]) 2 8 Tryz.underlying97 hi hz0 hz1 hz2 rfl (by decide) _ _ _ rfl (HP2.out.own.alloc _) ⟨w2.heap.size,0,none⟩ 1 1 [.int .i32 c,.bool false] rfl rfl (two_cells _ _ _ _) (two_one _ _) (by unfold maxLen;omega) (by omega) (by have:=HP2.out.lt;simp;omega) ?_;intro v' w3 hown' hgrow hnil;obtain⟨ao',cap',rfl⟩:=own_slice hown';obtain⟨R3,blk3⟩:=PRel.grown HP2.out hown' hgrow;obtain⟨d0,d1,k0,k1⟩:=res_cells blk3;have HP3:=hid R3;clear hown' hgrow R3 blk3 hnil) | (go_at_call 43;refine (HSP.out _).mono ?_;rintro e w4 ⟨rfl,hw4⟩;obtain rfl:=hw4.out;clear hw4))
          go_roundw
          case rel=>exact⟨rs,acc++[((c:Int),false)],f,_,rfl,⟨by omega,by omega,by simp;omega,HP3.out,HP.out.symm⟩⟩
          case measure=>simp only[strLen,ByteArray.size,List.size_toArray];omega
       ·have hrl':¬ (0:Int) < (rs.length:Int):=by omega
        have HRH:Hid (¬ rs.head?=some 47):=by unfold Hid;rw[List.length_eq_zero_iff.1 (by omega:rs.length=0)];simp
        cases sm with
        | false=>
         have HP:Hid (res=none):=by unfold Hid;rw[HREC.out,if_neg HRH.out,if_neg (by simpa using HSM.out)]
         go_wp2_with (first | (go_at_call 44;refine HD1.out.mono ?_;rintro e w1 ⟨rfl,b1⟩;have HB1:=hid b1;clear b1) | (go_at_call 45;refine (HL2.out _ (hr.out.rel.below HB1.out).bel).mono ?_;rintro e w2 ⟨rfl,b2⟩;have HP2:=hid ((hr.out.rel.below HB1.out).below b2);clear b2;obtain⟨q0,q1,g0,g1⟩:=res_cells HP2.out.blk) | (at_builtin;refine wpList_append_own _ rfl _ _ 97 rfl (w.heap.size+1) 104 i0 (.agg #[.int .i32 0,.bool false]) 2 8 Tryz.underlying97 hi hz0 hz1 hz2 rfl (by decide) _ _ _ rfl (HP2.out.own.alloc _) ⟨w2.heap.size,0,none⟩ 1 1 [.int .i32 c,.bool false] rfl rfl (two_cells _ _ _ _) (two_one _ _) (by unfold maxLen;omega) (by omega) (by have:=HP2.out.lt;simp;omega) ?_;intro v' w3 hown' hgrow hnil;obtain⟨ao',cap',rfl⟩:=own_slice hown';obtain⟨R3,blk3⟩:=PRel.grown HP2.out hown' hgrow;obtain⟨d0,d1,k0,k1⟩:=res_cells blk3;have HP3:=hid R3;clear hown' hgrow R3 blk3 hnil) | (go_at_call 43;refine (HSP.out _).mono ?_;rintro e w4 ⟨rfl,hw4⟩;obtain rfl:=hw4.out;clear hw4))
         go_ret2
         rw[HP.out]
         exact⟨rfl,HP3.out.bel⟩
        | true=>
         have HP:Hid (res=Pl.refLoop f rs (acc++[((c:Int),false)])):=by unfold Hid;rw[HREC.out,if_neg HRH.out,if_pos (by simpa using HSM.out)]
         go_wp2_with (first | (go_at_call 44;refine HD1.out.mono ?_;rintro e w1 ⟨rfl,b1⟩;have HB1:=hid b1;clear b1) | (go_at_call 45;refine (HL2.out _ (hr.out.rel.below HB1.out).bel).mono ?_;rintro e w2 ⟨rfl,b2⟩;have HP2:=hid ((hr.out.rel.below HB1.out).below b2);clear b2;obtain⟨q0,q1,g0,g1⟩:=res_cells HP2.out.blk) | (at_builtin;refine wpList_append_own _ rfl _ _ 97 rfl (w.heap.size+1) 104 i0 (.agg #[.int .i32 0,.bool false]) 2 8 Tryz.underlying97 hi hz0 hz1 hz2 rfl (by decide) _ _ _ rfl (HP2.out.own.alloc _) ⟨w2.heap.size,0,none⟩ 1 1 [.int .i32 c,.bool false] rfl rfl (two_cells _ _ _ _) (two_one _ _) (by unfold maxLen;omega) (by omega) (by have:=HP2.out.lt;simp;omega) ?_;intro v' w3 hown' hgrow hnil;obtain⟨ao',cap',rfl⟩:=own_slice hown';obtain⟨R3,blk3⟩:=PRel.grown HP2.out hown' hgrow;obtain⟨d0,d1,k0,k1⟩:=res_cells blk3;have HP3:=hid R3;clear hown' hgrow R3 blk3 hnil) | (go_at_call 43;refine (HSP.out _).mono ?_;rintro e w4 ⟨rfl,hw4⟩;obtain rfl:=hw4.out;clear hw4))
         go_roundw
         case rel=>exact⟨rs,acc++[((c:Int),false)],f,_,rfl,⟨by omega,by omega,by simp;omega,HP3.out,HP.out.symm⟩⟩
         case measure=>simp only[strLen,ByteArray.size,List.size_toArray];omega
     ·have hp0':¬ (0:Int) < (s1.length:Int):=by omega
      have hpl:(s1.head? == some 43)=false:=by rw[List.length_eq_zero_iff.1 (by omega:s1.length=0)];rfl
      obtain⟨s2,hs2⟩:∃s2,(if false then s1.drop 1 else s1)=s2:=⟨_,rfl⟩
      obtain rfl:s1=s2:=by simpa using hs2
      have HREC:=hid (hr.out.run.symm.trans (HGO.out f rfl hlet h4 s1 s1 false hs1 hpl hs2))
      have hs2l:s1.length≤s1.length:=Nat.le_refl _
      have hspl:=Pl.sp_length s1
      have HSP:Hid (∀W,Calls Tryz.prog 43 #[.string ⟨s1.toArray⟩] W fun e w'=>e=.returned (.tuple #[.string ⟨(Pl.sp s1).toArray⟩,.bool (s1.head? == some 32)])∧Hid (w'=W)):=fun W=>HC.out s1 W (by omega)
      generalize Pl.sp s1=rs at HREC hspl HSP
      generalize hsm:(s1.head? == some 32)=sm at HSP
      have HSM:=hid hsm
      clear hsm HGO HBAD hs1 hpl hs2
      have hrl':¬ (0:Int) < (rs.length:Int):=by omega
      have HRH:Hid (¬ rs.head?=some 47):=by unfold Hid;rw[List.length_eq_zero_iff.1 (by omega:rs.length=0)];simp
      obtain rfl:sm=false:=by rw[← HSM.out,List.length_eq_zero_iff.1 (by omega:s1.length=0)];rfl
      have HP:Hid (res=none):=by unfold Hid;rw[HREC.out,if_neg HRH.out,if_neg (by simpa using HSM.out)]
      go_wp2_with (first | (go_at_call 44;refine HD1.out.mono ?_;rintro e w1 ⟨rfl,b1⟩;have HB1:=hid b1;clear b1) | (go_at_call 45;refine (HL2.out _ (hr.out.rel.below HB1.out).bel).mono ?_;rintro e w2 ⟨rfl,b2⟩;have HP2:=hid ((hr.out.rel.below HB1.out).below b2);clear b2;obtain⟨q0,q1,g0,g1⟩:=res_cells HP2.out.blk) | (at_builtin;refine wpList_append_own _ rfl _ _ 97 rfl (w.heap.size+1) 104 i0 (.agg #[.int .i32 0,.bool false]) 2 8 Tryz.underlying97 hi hz0 hz1 hz2 rfl (by decide) _ _ _ rfl (HP2.out.own.alloc _) ⟨w2.heap.size,0,none⟩ 1 1 [.int .i32 c,.bool false] rfl rfl (two_cells _ _ _ _) (two_one _ _) (by unfold maxLen;omega) (by omega) (by have:=HP2.out.lt;simp;omega) ?_;intro v' w3 hown' hgrow hnil;obtain⟨ao',cap',rfl⟩:=own_slice hown';obtain⟨R3,blk3⟩:=PRel.grown HP2.out hown' hgrow;obtain⟨d0,d1,k0,k1⟩:=res_cells blk3;have HP3:=hid R3;clear hown' hgrow R3 blk3 hnil) | (go_at_call 43;refine (HSP.out _).mono ?_;rintro e w4 ⟨rfl,hw4⟩;obtain rfl:=hw4.out;clear hw4))
      go_ret2
      rw[HP.out]
      exact⟨rfl,HP3.out.bel⟩
   ·have hlet':isLetterU c=false:=by simpa using hlet
    have HP:Hid (res=none):=by unfold Hid;rw[← hr.out.run];exact HBAD.out (Or.inl hlet')
    clear HGO HBAD hlet
    rw[hlet'] at HL2
    go_wp2_with (first | (go_at_call 44;refine HD1.out.mono ?_;rintro e w1 ⟨rfl,b1⟩;have HB1:=hid b1;clear b1) | (go_at_call 45;refine (HL2.out _ (hr.out.rel.below HB1.out).bel).mono ?_;rintro e w2 ⟨rfl,b2⟩;have HP2:=hid ((hr.out.rel.below HB1.out).below b2);clear b2;obtain⟨q0,q1,g0,g1⟩:=res_cells HP2.out.blk))
    all_goals (go_ret2;rw[HP.out];exact⟨rfl,HP2.out.bel⟩)
end Go.Proofs.YtfldcmdhneegmaaGreatDoor

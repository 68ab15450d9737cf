import Derived.Test.YtfldcmdhneegmaaGreatDoorX39
set_option maxHeartbeats 4000000
set_option maxRecDepth 1000000
namespace Go.Proofs.YtfldcmdhneegmaaGreatDoor
open Go.RowKit Go.Lib
theorem rGoes_any (F:Nat→Prop)(eb pb:Nat)(P:En.Pat)(vs vd vo:Value)(D:List En.Ev)(old:List RV)(w:World)(hR:Reads F w eb pb P vs vd vo D old)(hs4:P.steps.length≤4)(s:Nat)(hs:s < P.steps.length) :
  Calls Tryz.prog 70 #[.pointer (some ⟨pb,0,none⟩),.int .i64 s] w fun e w'=>e=.returned (.bool (En.goes P s))∧w'=w:=by
 obtain⟨a1,c1,rfl,-,-⟩:=RowAt.slice hR.steps
 obtain⟨b1,o1,rfl,s0,s1⟩:=hR.stepAt hs
 have p0:=hR.p0
 have hp:=plusAt_get hs
 generalize P.steps[s]=sp at s0 s1 hp
 have HP:=hid hp
 clear hR hp
 by_cases hl:(s:Int) < (P.steps.length:Int) - 1
 ·have hl':decide ((s:Int) < (P.steps.length:Int) - 1)=true:=by simpa using hl
  go_enter Tryz.func70,Tryz.ntmps70
  go_wp2
  go_ret
  refine⟨?_,rfl⟩
  rw[show En.goes P s=true by unfold En.goes;rw[decide_eq_true (by omega),Bool.true_or]]
  rfl
 ·have hl':decide ((s:Int) < (P.steps.length:Int) - 1)=false:=by simpa using hl
  go_enter Tryz.func70,Tryz.ntmps70
  go_wp2
  go_ret
  refine⟨?_,rfl⟩
  rw[show En.goes P s=sp.2 by unfold En.goes;rw[decide_eq_false (by omega),Bool.false_or,HP.out]]
  try rfl
def uStep (P:En.Pat)(D:List En.Ev)(old:List En.Rn)(t most:Int)(k:Nat)(l:List En.Rn)(s:Nat):List En.Rn:=
 if En.goes P s then En.puts l ((En.ends P D old s k).filter fun r=>decide (En.far t r.first≤most)) else l
def uEv (P:En.Pat)(D:List En.Ev)(old:List En.Rn)(t most:Int)(l:List En.Rn)(k:Nat):List En.Rn:=
 match D[k]? with
 | none=>l
 | some d=>if most < 0∨En.far t d.time > most then l else (List.range' 0 P.steps.length).foldl (uStep P D old t most k) l
theorem under_eq (P:En.Pat)(D:List En.Ev)(old:List En.Rn)(t most:Int):En.under P D old t most=(List.range' 0 D.length).foldl (uEv P D old t most) (En.puts [] (old.filter fun r=>decide (0≤most∧En.far t r.first≤most))):=by
 unfold En.under
 rw[List.range_eq_range']
 congr 1
 funext l k
 unfold uEv
 cases D[k]? with
 | none=>rfl
 | some d=>
  simp only[]
  unfold En.underAt
  rw[List.range_eq_range']
  rfl
theorem uStep_ge (P:En.Pat)(D:List En.Ev)(old:List En.Rn)(t most:Int)(k:Nat)(l:List En.Rn)(s:Nat):l.length≤(uStep P D old t most k l s).length:=by
 unfold uStep
 split
 ·exact En.puts_ge _ _
 ·exact Nat.le_refl _
theorem uSteps_ge (P:En.Pat)(D:List En.Ev)(old:List En.Rn)(t most:Int)(k:Nat)(ss:List Nat)(l:List En.Rn):l.length≤(ss.foldl (uStep P D old t most k) l).length:=by
 induction ss generalizing l with
 | nil=>exact Nat.le_refl _
 | cons s ss ih=>exact Nat.le_trans (uStep_ge _ _ _ _ _ _ _ _) (ih _)
theorem uEv_ge (P:En.Pat)(D:List En.Ev)(old:List En.Rn)(t most:Int)(l:List En.Rn)(k:Nat):l.length≤(uEv P D old t most l k).length:=by
 unfold uEv
 split
 ·exact Nat.le_refl _
 ·split
  ·exact Nat.le_refl _
  ·exact uSteps_ge _ _ _ _ _ _ _ _
theorem uEvs_ge (P:En.Pat)(D:List En.Ev)(old:List En.Rn)(t most:Int)(ks:List Nat)(l:List En.Rn):l.length≤(ks.foldl (uEv P D old t most) l).length:=by
 induction ks generalizing l with
 | nil=>exact Nat.le_refl _
 | cons k ks ih=>exact Nat.le_trans (uEv_ge _ _ _ _ _ _ _) (ih _)
theorem uSteps_le (P:En.Pat)(D:List En.Ev)(old:List En.Rn)(t most:Int)(k B:Nat)(hB:∀s,(En.ends P D old s k).length≤B)(ss:List Nat)(l:List En.Rn):(ss.foldl (uStep P D old t most k) l).length≤l.length+ss.length * B:=by
 induction ss generalizing l with
 | nil=>simp
 | cons s ss ih=>
  rw[List.foldl_cons]
  refine Nat.le_trans (ih _) ?_
  have h1:(uStep P D old t most k l s).length≤l.length+B:=by
   unfold uStep
   split
   ·refine Nat.le_trans (En.puts_le _ _) ?_
    have:=List.length_filter_le (fun r=>decide (En.far t r.first≤most)) (En.ends P D old s k)
    have:=hB s
    omega
   ·omega
  rw[List.length_cons,Nat.add_mul]
  omega
theorem uEvs_le (P:En.Pat)(D:List En.Ev)(old:List En.Rn)(t most:Int)(B:Nat)(hB:∀s k,k < D.length→(En.ends P D old s k).length≤B)(ks:List Nat)(l:List En.Rn):(ks.foldl (uEv P D old t most) l).length≤l.length+ks.length * (P.steps.length * B):=by
 induction ks generalizing l with
 | nil=>simp
 | cons k ks ih=>
  rw[List.foldl_cons]
  refine Nat.le_trans (ih _) ?_
  have h1:(uEv P D old t most l k).length≤l.length+P.steps.length * B:=by
   unfold uEv
   split
   ·omega
   ·rename_i d hd
    split
    ·omega
    ·have hk:k < D.length:=by
      rcases Nat.lt_or_ge k D.length with h | h
      ·exact h
      ·rw[List.getElem?_eq_none h] at hd;cases hd
     have:=uSteps_le P D old t most k B (fun s=>hB s k hk) (List.range' 0 P.steps.length) l
     simpa using this
  rw[List.length_cons,Nat.add_mul]
  omega
theorem under_le (P:En.Pat)(D:List En.Ev)(old:List RV)(hB:Bds P D old)(t most:Int):(En.under P D (old.map Prod.fst) t most).length≤900000000:=by
 rw[under_eq]
 have hd:=hB.d12
 have hs:=hB.s4
 have ho:=hB.o24
 refine Nat.le_trans (uEvs_le P D (old.map Prod.fst) t most 9000000 (fun s k hk=>?_) _ _) ?_
 ·refine Nat.le_trans (En.endsF_le P D _ (k+1) s k) ?_
  rw[List.length_map]
  have h3:3 ^ k≤3 ^ 11:=Nat.pow_le_pow_right (by omega) (by omega)
  have:=Nat.mul_le_mul (show 1+2 * old.length≤49 by omega) h3
  refine Nat.le_trans this (by decide)
 ·have h1:=En.puts_le [] ((old.map Prod.fst).filter fun r=>decide (0≤most∧En.far t r.first≤most))
  have h2:=List.length_filter_le (fun r:En.Rn=>decide (0≤most∧En.far t r.first≤most)) (old.map Prod.fst)
  rw[List.length_map] at h2
  have h4:D.length * (P.steps.length * 9000000)≤12 * (4 * 9000000):=Nat.mul_le_mul hd (Nat.mul_le_mul_right _ hs)
  rw[List.length_range']
  refine Nat.le_trans (Nat.add_le_add (Nat.le_trans h1 (Nat.add_le_add_left (Nat.le_trans h2 ho) _)) h4) (by simp)
theorem range'_cons {k n:Nat}(h:k < n):List.range' k (n - k)=k::List.range' (k+1) (n - (k+1)):=by
 obtain⟨m,hm⟩:∃m,n - k=m+1:=⟨n - k - 1,by omega⟩
 rw[hm,List.range'_succ,show n - (k+1)=m by omega]
theorem rUnder_any (F:Nat→Prop)(eb pb:Nat)(P:En.Pat)(vs vd vo:Value)(D:List En.Ev)(old:List RV)(hB:Bds P D old)(t most:Int)(hm0:-1≤most)(hm1:most≤9999)(w:World)(hF:∀b,w.heap.size≤b→F b)(hR:Reads F w eb pb P vs vd vo D old) :
  Calls Tryz.prog 49 #[.pointer (some ⟨eb,0,none⟩),.int .i64 t,.int .i64 most] w fun e w'=>Makes F (En.under P D (old.map Prod.fst) t most) w e w':=by
 obtain⟨a1,c1,rfl,-,-⟩:=RowAt.slice hR.steps
 obtain⟨a2,c2,rfl,-,-⟩:=RowAt.slice hR.done
 obtain⟨a3,c3,rfl,-,-⟩:=RowAt.slice hR.old.row
 have hd12:=hB.d12
 have ho24:=hB.o24
 have hs4:=hB.s4
 have HR:=hid hR
 have HF:=hid hF
 have HB:=hid hB
 have HU:=hid (under_eq P D (old.map Prod.fst) t most)
 have HUB:=hid (under_le P D old hB t most)
 obtain⟨U,hU⟩:∃U,En.under P D (old.map Prod.fst) t most=U:=⟨_,rfl⟩
 rw[hU] at HU HUB
 have HUU:=hid hU
 clear hR hF hB hU
 go_enter Tryz.func49,Tryz.ntmps49
 go_wp2
 obtain⟨q1,hq1⟩:∃q1,En.puts [] ((old.map Prod.fst).filter fun r=>decide (0≤most∧En.far t r.first≤most))=q1:=⟨_,rfl⟩
 have HQ1:=hid hq1
 have HUQ:Hid ((List.range' 0 (D.length - 0)).foldl (uEv P D (old.map Prod.fst) t most) q1=U):=by unfold Hid;rw[HU.out,hq1];rfl
 have hq1U:q1.length≤U.length:=by rw[HU.out,← hq1];exact uEvs_ge _ _ _ _ _ _ _
 have HQU:=hid hq1U
 clear hq1 hq1U
 go_loopw [7,8] (fun l i wi=>∃(ii:Nat) (v:Value) (li:List RV) (qi:List En.Rn),ii≤old.length∧i=.int .i64 ii∧l=v∧Hid (ERel F w wi v li qi)∧Hid (En.puts qi (((old.map Prod.fst).drop ii).filter fun r=>decide (0≤most∧En.far t r.first≤most))=q1)) (fun _ i _=>old.length - (intOf i).toNat)
 case atStart=>exact⟨0,_,[],[],Nat.zero_le _,rfl,rfl,⟨⟨⟨rfl,Or.inl ⟨rfl,rfl⟩⟩,by simp⟩,rfl,Below.refl _ _⟩,HQ1⟩
 case round=>
  obtain⟨ii,vi,li,qi,hii,rfl,rfl,hi,hfo⟩:=hrel
  obtain⟨ai,ci,rfl,-,-⟩:=hi.out.runs.slice
  have HRi:=hid (HR.out.below hi.out.bel)
  have e5:=HRi.out.e5
  by_cases hlt:ii < old.length
  ·obtain⟨bb,oo,hbb,hbz,g0,g1,g2⟩:=HRi.out.old.get hlt
   subst hbb
   have hmem:old[ii]∈old:=List.getElem_mem hlt
   have HOF:=hid (HRi.out.old.offs _ hmem)
   have hget:(old.map Prod.fst)[ii]?=some old[ii].1:=by simp[hlt]
   obtain⟨ar,cr,hvr,-,-⟩:=RowAt.slice HOF.out
   have HQB:Hid (li.length≤900000000):=by
    have h1:=En.puts_ge qi (((old.map Prod.fst).drop ii).filter fun r=>decide (0≤most∧En.far t r.first≤most))
    rw[hfo.out] at h1
    have h2:=hi.out.len
    have h3:=HQU.out
    have h4:=HUB.out
    unfold Hid
    omega
   have HPutW:Hid (∀W,Below wr.heap.size wr W→Calls Tryz.prog 94 #[.slice ai li.length ci,.agg #[.int .i64 old[ii].1.step,old[ii].2,.int .i64 old[ii].1.first]] W fun e w'=>Put F li old[ii] W e w'):=fun W hb=>
    rPut_any F _ li old[ii] W (fun b hb'=>HF.out b (Nat.le_trans hi.out.bel.size (Nat.le_trans hb.size hb'))) (hi.out.runs.below hb) (HOF.out.below hb) (by have:=HQB.out;omega)
   have HFar:=hid (fun W=>rFar_any t old[ii].1.first W)
   rw[hvr] at g1 HPutW
   generalize old[ii]=x at g0 g1 g2 hget hvr HOF HPutW HFar
   have HG:=hid hget
   clear hget hmem hvr HOF
   have HNX:Hid (En.puts (if 0≤most∧En.far t x.1.first≤most then En.put qi x.1 else qi) (((old.map Prod.fst).drop (ii+1)).filter fun r=>decide (0≤most∧En.far t r.first≤most))=q1):=by
    unfold Hid
    rw[← hfo.out,drop_of_get HG.out,List.filter_cons]
    by_cases hc:0≤most∧En.far t x.1.first≤most
    ·rw[if_pos hc,if_pos (decide_eq_true hc)];rfl
    ·rw[if_neg hc,if_neg (by simpa using hc)]
   by_cases hm:0≤most
   ·by_cases hfr:En.far t x.1.first≤most
    ·rw[if_pos ⟨hm,hfr⟩] at HNX
     go_wp2_with (first | (go_at_call 71;refine (HFar.out _).mono ?_;rintro e w2 ⟨rfl,rfl⟩) | (go_at_call 94;refine (HPutW.out _ (Below.refl _ _)).mono ?_;rintro e w4 ⟨v4,l4,rfl,hr4,hq4,b4⟩;have H4:=hid (And.intro hr4 (And.intro hq4 b4));clear hr4 hq4 b4))
     go_roundw
     case rel=>exact⟨ii+1,_,l4,_,by omega,by go_num,rfl,hid ⟨H4.out.1,by rw[H4.out.2.1,hi.out.eq],hi.out.bel.trans (H4.out.2.2.mono hi.out.bel.size)⟩,HNX⟩
     case measure=>simp[intOf];omega
    ·rw[if_neg (by omega)] at HNX
     go_wp2_with (go_at_call 71;refine (HFar.out _).mono ?_;rintro e w2 ⟨rfl,rfl⟩)
     go_roundw
     case rel=>exact⟨ii+1,_,li,_,by omega,by go_num,rfl,hi,HNX⟩
     case measure=>simp[intOf];omega
   ·rw[if_neg (by omega)] at HNX
    have hm':decide (0≤most)=false:=by simpa using hm
    go_wp2_with (go_at_call 71;refine (HFar.out _).mono ?_;rintro e w2 ⟨rfl,rfl⟩)
    go_roundw
    case rel=>exact⟨ii+1,_,li,_,by omega,by go_num,rfl,hi,HNX⟩
    case measure=>simp[intOf];omega
  ·have hqi:qi=q1:=by
    have h1:=hfo.out
    rw[List.drop_eq_nil_of_le (by simpa using hlt)] at h1
    exact h1
   have HE0:Hid (ERel F w wr (.slice ai li.length ci) li q1):=by rw[← hqi];exact hi
   clear hfo hi hqi HQ1
   go_wp2
   clear e5 HRi
   go_loopw [7,10] (fun l i wi=>∃(kk:Nat) (v:Value) (lk:List RV) (qk:List En.Rn),kk≤D.length∧i=.int .i64 kk∧l=v∧Hid (ERel F w wi v lk qk)∧Hid ((List.range' kk (D.length - kk)).foldl (uEv P D (old.map Prod.fst) t most) qk=U)) (fun _ i _=>D.length - (intOf i).toNat)
   case atStart=>exact⟨0,_,_,_,Nat.zero_le _,rfl,rfl,HE0,HUQ⟩
   case round=>
    obtain⟨kk,vk,lk,qk,hkk,rfl,rfl,hk,hfk⟩:=hrel
    obtain⟨ak,ck,rfl,-,-⟩:=hk.out.runs.slice
    have HRk:=hid (HR.out.below hk.out.bel)
    have e4:=HRk.out.e4
    by_cases hkD:kk < D.length
    ·obtain⟨b2,o2,hb2,hbz2,d0,d1,d2⟩:=EvsAt.get HRk.out.done hkD
     subst hb2
     have hDk:D[kk]?=some D[kk]:=by simp[hkD]
     generalize D[kk]=dk at d0 d1 d2 hDk
     have HDK:=hid hDk
     have HFar:=hid (fun W=>rFar_any t dk.time W)
     have hfk1:=hfk.out
     rw[range'_cons hkD,List.foldl_cons] at hfk1
     have HFK:=hid hfk1
     clear hfk hfk1 hDk d0 d1
     by_cases hskip:most < 0∨En.far t dk.time > most
     ·have HNX:Hid ((List.range' (kk+1) (D.length - (kk+1))).foldl (uEv P D (old.map Prod.fst) t most) qk=U):=by
       unfold Hid
       rw[← HFK.out]
       unfold uEv
       rw[HDK.out]
       simp only[]
       rw[if_pos hskip]
      by_cases hm:most < 0
      ·have hm':decide (most < 0)=true:=by simpa using hm
       go_wp2_with (go_at_call 71;refine (HFar.out _).mono ?_;rintro e w2 ⟨rfl,rfl⟩)
       go_roundw
       case rel=>exact⟨kk+1,_,lk,_,by omega,by go_num,rfl,hk,HNX⟩
       case measure=>simp[intOf];omega
      ·have hm':decide (most < 0)=false:=by simpa using hm
       have hf2:most < En.far t dk.time:=by omega
       clear hskip
       go_wp2_with (go_at_call 71;refine (HFar.out _).mono ?_;rintro e w2 ⟨rfl,rfl⟩)
       go_roundw
       case rel=>exact⟨kk+1,_,lk,_,by omega,by go_num,rfl,hk,HNX⟩
       case measure=>simp[intOf];omega
     ·have hm':decide (most < 0)=false:=by simp;omega
      have hm:0≤most:=by omega
      have hf2:¬ most < En.far t dk.time:=by omega
      obtain⟨qs,hqs⟩:∃qs,(List.range' 0 P.steps.length).foldl (uStep P D (old.map Prod.fst) t most kk) qk=qs:=⟨_,rfl⟩
      have HNX:Hid ((List.range' (kk+1) (D.length - (kk+1))).foldl (uEv P D (old.map Prod.fst) t most) qs=U):=by
       unfold Hid
       rw[← HFK.out]
       congr 1
       unfold uEv
       rw[HDK.out]
       simp only[]
       rw[if_neg hskip]
       exact hqs.symm
      have HQS:=hid hqs
      have HQSB:Hid (qs.length≤900000000):=by
       have h1:=uEvs_ge P D (old.map Prod.fst) t most (List.range' (kk+1) (D.length - (kk+1))) qs
       rw[HNX.out] at h1
       exact Nat.le_trans h1 HUB.out
      clear hskip hqs HFK
      go_wp2_with (go_at_call 71;refine (HFar.out _).mono ?_;rintro e w2 ⟨rfl,rfl⟩)
      clear e4 d2 HRk
      go_loopw [7,12] (fun l i wi=>∃(ss:Nat) (v:Value) (lz:List RV) (qz:List En.Rn),ss≤P.steps.length∧i=.int .i64 ss∧l=v∧Hid (ERel F w wi v lz qz)∧Hid ((List.range' ss (P.steps.length - ss)).foldl (uStep P D (old.map Prod.fst) t most kk) qz=qs)) (fun _ i _=>P.steps.length - (intOf i).toNat)
      case atStart=>exact⟨0,_,_,_,Nat.zero_le _,rfl,rfl,hk,HQS⟩
      case round=>
       obtain⟨ss,vz,lz,qz,hss,rfl,rfl,hz,hfz⟩:=hrel
       obtain⟨az,cz,rfl,-,-⟩:=hz.out.runs.slice
       have HRz:=hid (HR.out.below hz.out.bel)
       have e0:=HRz.out.e0
       have p0:=HRz.out.p0
       by_cases hsl:ss < P.steps.length
       ·have hfz1:=hfz.out
        rw[range'_cons hsl,List.foldl_cons] at hfz1
        have HFZ:=hid hfz1
        have HGO:=hid (rGoes_any F eb pb P _ _ _ D old wr HRz.out hs4 ss hsl)
        clear hfz hfz1
        by_cases hg:En.goes P ss=true
        ·rw[hg] at HGO
         have HEN:=hid (rEnds_any F eb pb P _ _ _ D old HB.out (kk+1) ss kk wr (by omega) hsl hkD (fun b hb=>HF.out b (Nat.le_trans hz.out.bel.size hb)) HRz.out)
         have HEB:=hid (ends_bound P D old HB.out (kk+1) ss kk hkD)
         obtain⟨qn,hqn⟩:∃qn,uStep P D (old.map Prod.fst) t most kk qz ss=qn:=⟨_,rfl⟩
         rw[hqn] at HFZ
         have HQN:Hid (En.puts qz ((En.endsF P D (old.map Prod.fst) (kk+1) ss kk).filter fun r=>decide (En.far t r.first≤most))=qn):=by
          unfold Hid
          rw[← hqn]
          unfold uStep
          rw[if_pos hg]
          rfl
         have HQNB:Hid (qn.length≤900000000):=by
          have h1:=uSteps_ge P D (old.map Prod.fst) t most kk (List.range' (ss+1) (P.steps.length - (ss+1))) qn
          rw[HFZ.out] at h1
          exact Nat.le_trans h1 HQSB.out
         clear hqn hg
         go_wp2_with (first | (go_at_call 70;refine HGO.out.mono ?_;rintro e w2 ⟨rfl,rfl⟩) | (go_at_call 48;refine HEN.out.mono ?_;rintro e w3 ⟨vm,lm,rfl,hm3,hmq,bm⟩;obtain⟨am,cm,rfl,hcm,hcx⟩:=hm3.slice;unfold maxLen at hcx;have HM:=hid (And.intro hm3 (And.intro hmq bm));clear hm3 hmq bm))
         have HZ3:=hid (hz.out.below HM.out.2.2)
         have hlm:lm.length≤900000000:=by
          have h1:=congrArg List.length HM.out.2.1
          rw[List.length_map] at h1
          have:=HEB.out.1
          omega
         rw[← HM.out.2.1] at HQN
         clear e0 p0 HRz HGO HEN HEB
         go_loopw [7,15] (fun l i wi=>∃(jj:Nat) (v:Value) (lj:List RV) (qj:List En.Rn),jj≤lm.length∧i=.int .i64 jj∧l=v∧Hid (ERel F w3 wi v lj qj)∧Hid (En.puts qj (((lm.map Prod.fst).drop jj).filter fun r=>decide (En.far t r.first≤most))=qn)) (fun _ i _=>lm.length - (intOf i).toNat)
         case atStart=>exact⟨0,_,_,_,Nat.zero_le _,rfl,rfl,hid ⟨HZ3.out.runs,HZ3.out.eq,Below.refl _ _⟩,HQN⟩
         case round=>
          obtain⟨jj,vj,lj,qj,hjj,rfl,rfl,hj,hpu⟩:=hrel
          obtain⟨aj,cj,rfl,-,-⟩:=hj.out.runs.slice
          by_cases hlt2:jj < lm.length
          ·obtain⟨bb2,oo2,hbb2,hbz3,g0,g1,g2⟩:=(HM.out.1.below hj.out.bel).get hlt2
           cases hbb2
           have hmem:lm[jj]∈lm:=List.getElem_mem hlt2
           have HOF2:=hid ((HM.out.1.below hj.out.bel).offs _ hmem)
           have hget:(lm.map Prod.fst)[jj]?=some lm[jj].1:=by simp[hlt2]
           obtain⟨ar,cr,hvr,-,-⟩:=RowAt.slice HOF2.out
           rw[hvr] at g1
           have hPut:=rPut_any F _ lj lm[jj] wr (fun b hb=>HF.out b (Nat.le_trans HZ3.out.bel.size (Nat.le_trans hj.out.bel.size hb))) hj.out.runs HOF2.out (by
            have h1:=En.puts_ge qj (((lm.map Prod.fst).drop jj).filter fun r=>decide (En.far t r.first≤most))
            rw[hpu.out] at h1
            have h2:=hj.out.len
            have:=HQNB.out
            omega)
           rw[hvr] at hPut
           have HPut:=hid hPut
           have HFar2:=hid (fun W=>rFar_any t lm[jj].1.first W)
           generalize lm[jj]=rr at g0 g1 g2 hget hvr HOF2 HPut HFar2
           have HNX2:Hid (En.puts (if En.far t rr.1.first≤most then En.put qj rr.1 else qj) (((lm.map Prod.fst).drop (jj+1)).filter fun r=>decide (En.far t r.first≤most))=qn):=by
            unfold Hid
            rw[← hpu.out,drop_of_get hget,List.filter_cons]
            by_cases hc:En.far t rr.1.first≤most
            ·rw[if_pos hc,if_pos (decide_eq_true hc)];rfl
            ·rw[if_neg hc,if_neg (by simpa using hc)]
           clear hPut hget hmem hvr
           by_cases hfr:En.far t rr.1.first≤most
           ·rw[if_pos hfr] at HNX2
            go_wp2_with (first | (go_at_call 71;refine (HFar2.out _).mono ?_;rintro e w2 ⟨rfl,rfl⟩) | (go_at_call 94;refine HPut.out.mono ?_;rintro e w4 ⟨v4,l4,rfl,hr4,hq4,b4⟩;have H4:=hid (And.intro hr4 (And.intro hq4 b4));clear hr4 hq4 b4))
            go_roundw
            case rel=>exact⟨jj+1,_,l4,_,by omega,by go_num,rfl,hid ⟨H4.out.1,by rw[H4.out.2.1,hj.out.eq],hj.out.bel.trans (H4.out.2.2.mono hj.out.bel.size)⟩,HNX2⟩
            case measure=>simp[intOf];omega
           ·rw[if_neg hfr] at HNX2
            go_wp2_with (go_at_call 71;refine (HFar2.out _).mono ?_;rintro e w2 ⟨rfl,rfl⟩)
            go_roundw
            case rel=>exact⟨jj+1,_,lj,_,by omega,by go_num,rfl,hj,HNX2⟩
            case measure=>simp[intOf];omega
          ·have hqj:qj=qn:=by
            have h1:=hpu.out
            rw[List.drop_eq_nil_of_le (by simpa using hlt2)] at h1
            exact h1
           have HQJ:=hid hqj
           clear hqj
           go_wp2
           go_roundw
           case rel=>exact⟨ss+1,_,lj,_,by omega,by go_num,rfl,hid ⟨hj.out.runs,hj.out.eq.trans HQJ.out,HZ3.out.bel.trans (hj.out.bel.mono HZ3.out.bel.size)⟩,HFZ⟩
           case measure=>simp[intOf];omega
        ·have hg':En.goes P ss=false:=by simpa using hg
         rw[hg'] at HGO
         have HNX3:Hid ((List.range' (ss+1) (P.steps.length - (ss+1))).foldl (uStep P D (old.map Prod.fst) t most kk) qz=qs):=by
          unfold Hid
          rw[← HFZ.out]
          congr 1
          unfold uStep
          rw[if_neg hg]
         clear hg hg'
         go_wp2_with (go_at_call 70;refine HGO.out.mono ?_;rintro e w2 ⟨rfl,rfl⟩)
         go_roundw
         case rel=>exact⟨ss+1,_,lz,_,by omega,by go_num,rfl,hz,HNX3⟩
         case measure=>simp[intOf];omega
       ·have hqz:qz=qs:=by
         have h1:=hfz.out
         rw[show P.steps.length - ss=0 by omega] at h1
         exact h1
        have HQZ:=hid hqz
        clear hqz
        go_wp2
        go_roundw
        case rel=>exact⟨kk+1,_,lz,_,by omega,by go_num,rfl,hid ⟨hz.out.runs,hz.out.eq.trans HQZ.out,hz.out.bel⟩,HNX⟩
        case measure=>simp[intOf];omega
    ·have hqk:qk=U:=by
      have h1:=hfk.out
      rw[show D.length - kk=0 by omega] at h1
      exact h1
     have HQK:=hid hqk
     clear hqk
     go_wp2
     go_ret
     exact⟨_,lk,rfl,hk.out.runs,hk.out.eq.trans (HQK.out.trans HUU.out.symm),hk.out.bel⟩
namespace En
theorem ins_skip {l:List Ev}{e x:Ev}{k:Nat}(hk:l[k]?=some x)(h:evLt x e=true):l.take k++ins (l.drop k) e=l.take (k+1)++ins (l.drop (k+1)) e:=by
 rw[drop_of_get hk,take_of_get hk]
 simp[ins,h]
theorem ins_here {l:List Ev}{e x:Ev}{k:Nat}(hk:l[k]?=some x)(h:evLt x e=false):l.take k++ins (l.drop k) e=l.take k++e::l.drop k:=by
 rw[drop_of_get hk]
 simp[ins,h]
theorem ins_last {l:List Ev}{e:Ev}{k:Nat}(hk:l.length≤k):l.take k++ins (l.drop k) e=l.take k++e::l.drop k:=by
 rw[List.drop_eq_nil_of_le hk]
 rfl
theorem has_drop {P:Pat}{kind:Int}{k:Nat}(hk:k < P.steps.length):(P.steps.drop k).any (fun x=>x.1 == kind)=((P.steps[k].1 == kind) || (P.steps.drop (k+1)).any fun x=>x.1 == kind):=by
 rw[List.drop_eq_getElem_cons hk];rfl
end En
theorem rHas_any (F:Nat→Prop)(eb pb:Nat)(P:En.Pat)(vs vd vo:Value)(D:List En.Ev)(old:List RV)(w:World)(hR:Reads F w eb pb P vs vd vo D old)(hs4:P.steps.length≤4)(kind:Int) :
  Calls Tryz.prog 37 #[.pointer (some ⟨pb,0,none⟩),.int .i32 kind] w fun e w'=>e=.returned (.bool (En.has P kind))∧w'=w:=by
 obtain⟨a1,c1,rfl,-,-⟩:=RowAt.slice hR.steps
 have p0:=hR.p0
 have HR:=hid hR
 clear hR
 go_enter Tryz.func37,Tryz.ntmps37
 go_wp2
 go_loop [5] (fun i=>∃k:Nat,k≤P.steps.length∧i=.int .i64 k∧Hid ((P.steps.drop k).any (fun x=>x.1 == kind)=En.has P kind)) (fun i=>P.steps.length - (intOf i).toNat)
 case atStart=>exact⟨0,by omega,rfl,rfl⟩
 case round=>
  obtain⟨k,hk,rfl,hr⟩:=hrel
  by_cases hlt:k < P.steps.length
  ·obtain⟨b1,o1,hb,s0,s1⟩:=HR.out.stepAt hlt
   subst hb
   have hd:=En.has_drop (kind:=kind) hlt
   rw[hr.out] at hd
   generalize P.steps[k]=sp at s0 s1 hd
   have HD:=hid hd
   clear hd
   by_cases he:sp.1=kind
   ·have he':(sp.1 == kind)=true:=by simpa using he
    have HE:=hid he
    clear he
    go_wp2
    go_ret
    refine⟨?_,rfl⟩
    rw[HD.out]
    simp[HE.out]
   ·have he':(sp.1 == kind)=false:=by simpa using he
    have HE:=hid he
    clear he
    go_wp2
    go_round
    case rel=>
     refine⟨k+1,by omega,by go_num,?_⟩
     unfold Hid
     rw[HD.out]
     simp[HE.out]
    case measure=>simp[intOf];omega
  ·go_wp2
   go_ret
   refine⟨?_,rfl⟩
   have h1:=hr.out
   rw[List.drop_eq_nil_of_le (by omega)] at h1
   rw[← h1]
   rfl
theorem Tryz.infoEv:(Tryz.prog.info? 89).map (fun i=>(i.zero,i.size,i.bytes))=some (some (.agg #[.int .i64 0,.int .i32 0,.int .i64 0]),3,24):=by kernel_rfl
theorem Tryz.elemEvs:Tryz.prog.elem 83=89:=by kernel_rfl
theorem EvsAt.head {F:Nat→Prop}{w:World}{ao:Option Addr}{cap:Nat}{l:List En.Ev}(h:EvsAt F w (.slice ao l.length cap) l)(k:Nat)(hk:k≤l.length)(hc:l.length≤cap) :
  ∃vs,(∀W,(Instr.slice 83 (.slice ao l.length cap) none (some (.int .i64 k)) none).run Tryz.prog W=.ok vs W)∧RowAt F w vs 3 k (evCells (l.take k)):=by
 refine⟨Go.sliced ao 0 k cap 3,fun W=>?_,?_⟩
 ·rw[run_slice_h W 83 ao l.length cap (by rw[Tryz.elemEvs];exact Tryz.underlying83) .i64 k (by omega) (by omega),Tryz.elemEvs,Tryz.sizeOf89]
  simp[Result.andThen]
 ·have:=RowAt.sliced h 0 k (Nat.zero_le _) hk
  simpa [evCells_take] using this
theorem EvsAt.tail {F:Nat→Prop}{w:World}{ao:Option Addr}{cap:Nat}{l:List En.Ev}(h:EvsAt F w (.slice ao l.length cap) l)(k:Nat)(hk:k≤l.length) :
  ∃vs,(∀W,(Instr.slice 83 (.slice ao l.length cap) (some (.int .i64 k)) none none).run Tryz.prog W=.ok vs W)∧RowAt F w vs 3 (l.length - k) (evCells (l.drop k)):=by
 refine⟨Go.sliced ao k l.length cap 3,fun W=>?_,?_⟩
 ·rw[run_slice_l W 83 ao l.length cap (by rw[Tryz.elemEvs];exact Tryz.underlying83) .i64 k (by omega) (by omega),Tryz.elemEvs,Tryz.sizeOf89]
  simp[Result.andThen]
 ·have:=RowAt.sliced h k l.length hk (Nat.le_refl _)
  rwa [evCells_drop,List.take_of_length_le (by rw[evCells_length,List.length_drop];exact Nat.le_refl _)] at this
theorem rSorted_any (F:Nat→Prop)(vl:Value)(l:List En.Ev)(w:World)(hF:∀b,w.heap.size≤b→F b)(hl:EvsAt F w vl l)(hn:l.length≤1000) :
  Calls Tryz.prog 47 #[vl] w fun e w'=>∃v',e=.returned v'∧EvsAt F w' v' (En.sortEv l)∧Below w.heap.size w w':=by
 obtain⟨ao,cap,rfl,-,-⟩:=RowAt.slice hl
 have HL:=hid hl
 have HF:=hid hF
 clear hl hF
 go_enter Tryz.func47,Tryz.ntmps47
 go_wp2
 go_loopw [3,4] (fun o i wr=>∃(ii:Nat) (v:Value) (lo:List En.Ev),ii≤l.length∧i=.int .i64 ii∧o=v∧Hid (EvsAt F wr v lo∧Below w.heap.size w wr∧(l.drop ii).foldl En.ins lo=En.sortEv l∧lo.length=ii)) (fun _ i _=>l.length - (intOf i).toNat)
 case atStart=>exact⟨0,_,[],Nat.zero_le _,rfl,rfl,⟨rfl,Or.inl ⟨rfl,rfl⟩⟩,Below.refl _ _,rfl,rfl⟩
 case round=>
  obtain⟨ii,v,lo,hii,rfl,rfl,hr⟩:=hrel
  obtain⟨av,cv,rfl,hcv,hcx⟩:=RowAt.slice hr.out.1
  unfold maxLen at hcx
  have hlo:lo.length≤1000:=by have:=hr.out.2.2.2;omega
  by_cases hlt:ii < l.length
  ·obtain⟨b1,o1,hb,hbz,d0,d1,d2⟩:=EvsAt.get (HL.out.below hr.out.2.1) hlt
   subst hb
   have hget:l[ii]?=some l[ii]:=by simp[hlt]
   generalize l[ii]=ev at d0 d1 d2 hget
   obtain⟨off,kind,time⟩:=ev
   simp only at d0 d1 d2
   have HG:=hid hget
   clear hget
   have HB:=hid (And.intro hbz (And.intro d0 (And.intro d1 d2)))
   go_upto_block 2 with fail
   go_cut [5] (fun s5 wx=>∃k:Nat,k≤lo.length∧s5=.int .i64 k∧Hid (Dr wr wx∧En.ins lo ⟨off,kind,time⟩=lo.take k++⟨off,kind,time⟩::lo.drop k))
   case first=>
    go_wp2_with fail
    generalize hw0:wr=W0 at *
    go_loopw [5] (fun a wx=>∃k:Nat,k≤lo.length∧a=.int .i64 k∧Hid (Dr W0 wx∧En.ins lo ⟨off,kind,time⟩=lo.take k++En.ins (lo.drop k) ⟨off,kind,time⟩)) (fun a _=>lo.length - (intOf a).toNat)
    case atStart=>exact⟨0,Nat.zero_le _,rfl,Dr.refl _,rfl⟩
    case round=>
     obtain⟨k,hk,rfl,hq⟩:=hrel
     have d0':=(hq.out.1.cell ⟨b1,o1+ii * 3,none⟩).trans d0
     have d2':=(hq.out.1.cell ⟨b1,o1+ii * 3+2,none⟩).trans d2
     by_cases hkl:k < lo.length
     ·obtain⟨b2,o2,hb2,hbz2,x0,x1,x2⟩:=EvsAt.get (hr.out.1.below (hq.out.1.below _)) hkl
      subst hb2
      have hgk:lo[k]?=some lo[k]:=by simp[hkl]
      generalize lo[k]=xk at x0 x1 x2 hgk
      obtain⟨xo,xd,xt⟩:=xk
      simp only at x0 x1 x2
      have HGK:=hid hgk
      clear hgk
      have hki:(k:Int) < (lo.length:Int):=by omega
      by_cases ht:xt < time
      ·have HLT:Hid (En.evLt ⟨xo,xd,xt⟩ ⟨off,kind,time⟩=true):=by unfold Hid;simp[En.evLt,ht]
       go_wp2
       go_quiet (fail)
       go_wp2
       go_roundw
       case rel=>exact⟨k+1,by omega,by go_num,hid ⟨hq.out.1.step _,hq.out.2.trans (En.ins_skip HGK.out HLT.out)⟩⟩
       case measure=>simp[intOf];omega
      ·have ht':decide (xt < time)=false:=by simpa using ht
       by_cases hte:xt=time
       ·have hte':(xt == time)=true:=by simpa using hte
        have HTE:=hid hte
        by_cases ho:xo < off
        ·have HLT:Hid (En.evLt ⟨xo,xd,xt⟩ ⟨off,kind,time⟩=true):=by unfold Hid;simp[En.evLt,HTE.out,ho]
         clear hte
         go_wp2
         go_quiet (fail)
         go_wp2
         go_roundw
         case rel=>exact⟨k+1,by omega,by go_num,hid ⟨hq.out.1.step _,hq.out.2.trans (En.ins_skip HGK.out HLT.out)⟩⟩
         case measure=>simp[intOf];omega
        ·have ho':decide (xo < off)=false:=by simpa using ho
         have HLT:Hid (En.evLt ⟨xo,xd,xt⟩ ⟨off,kind,time⟩=false):=by unfold Hid;simp[En.evLt,HTE.out,ho]
         clear hte
         go_wp2
         go_quiet (fail)
         go_wp2
         go_meet
         case rel=>exact⟨k,hk,rfl,hid ⟨hq.out.1.step _,hq.out.2.trans (En.ins_here HGK.out HLT.out)⟩⟩
       ·have hte':(xt == time)=false:=by simpa using hte
        have HLT:Hid (En.evLt ⟨xo,xd,xt⟩ ⟨off,kind,time⟩=false):=by unfold Hid;simp[En.evLt,ht,hte]
        go_wp2
        go_quiet (fail)
        go_wp2
        go_meet
        case rel=>exact⟨k,hk,rfl,hid ⟨hq.out.1.step _,hq.out.2.trans (En.ins_here HGK.out HLT.out)⟩⟩
     ·have hkl':decide ((k:Int) < (lo.length:Int))=false:=by simp;omega
      have hkl'':decide (k < lo.length)=false:=by simpa using hkl
      go_wp2
      go_quiet (fail)
      go_wp2
      go_meet
      case rel=>exact⟨k,hk,rfl,hid ⟨hq.out.1.step _,hq.out.2.trans (En.ins_last (by omega))⟩⟩
   case rest=>
    obtain⟨k,hk,rfl,hc⟩:=hcut
    obtain⟨i0,hi,hz0,hz1,hz2⟩:=info_parts Tryz.infoEv
    have hBx:=hc.out.1.below wr.heap.size
    have HW2:=hid hBx
    obtain⟨vh,hsh,hvh⟩:=EvsAt.head (hr.out.1.below hBx) k hk hcv
    have HVH:=hid hvh
    clear hvh hBx
    go_wp2_with (at_builtin;refine wpList_append_row rfl _ _ 83 rfl wr.heap.size 89 i0 (.agg #[.int .i64 0,.int .i32 0,.int .i64 0]) 3 24 Tryz.underlying83 hi hz0 hz1 hz2 rfl (by decide) _ _ _ rfl (World.ownsRow_nil _ _ _ _) F vh k (evCells (lo.take k)) rfl HVH.out (oneCell_evs _) (by unfold maxLen;omega) (by omega) HW2.out.size ?_)
    intro v2 w2 own2 gr2
    have B2:Below wr.heap.size wr w2:=HW2.out.grown gr2 HW2.out.size (fun k hk=>by cases hk)
    have y0:=(cell_bel B2 ⟨b1,o1+ii * 3,none⟩ HB.out.1).trans HB.out.2.1
    have y1:=(cell_bel B2 ⟨b1,o1+ii * 3+1,none⟩ HB.out.1).trans HB.out.2.2.1
    have y2:=(cell_bel B2 ⟨b1,o1+ii * 3+2,none⟩ HB.out.1).trans HB.out.2.2.2
    obtain⟨a2,p2,rfl⟩:=own_slice own2
    have O2:=hid (And.intro own2 B2)
    clear own2 B2 gr2
    go_wp2_with (at_builtin;refine wpList_append_row rfl _ _ 83 rfl wr.heap.size 89 i0 (.agg #[.int .i64 0,.int .i32 0,.int .i64 0]) 3 24 Tryz.underlying83 hi hz0 hz1 hz2 rfl (by decide) _ _ _ rfl (O2.out.1.alloc _) (fun _=>True) _ 1 [.int .i64 off,.int .i32 kind,.int .i64 time] rfl (three_row (new_at (by simp;done))) (by intro u hu;simp at hu;rcases hu with rfl | rfl | rfl<;>rfl) (by unfold maxLen;omega) (by omega) (Nat.le_trans O2.out.2.size (by simp)) ?_)
    intro v4 w4 own4 gr4
    have B4:Below wr.heap.size wr w4:=(O2.out.2.alloc O2.out.2.size _).grown gr4 (Nat.le_trans O2.out.2.size (by simp)) (fun k hk=>(own_block O2.out.1 k hk).1)
    obtain⟨a4,p4,rfl⟩:=own_slice own4
    have O4:=hid (And.intro own4 B4)
    obtain⟨vt,hsl,hvr⟩:=EvsAt.tail (hr.out.1.below B4) k hk
    have HVR:=hid hvr
    clear own4 B4 gr4 hvr y0 y1 y2
    go_wp2_with (at_builtin;refine wpList_append_row rfl _ _ 83 rfl wr.heap.size 89 i0 (.agg #[.int .i64 0,.int .i32 0,.int .i64 0]) 3 24 Tryz.underlying83 hi hz0 hz1 hz2 rfl (by decide) _ _ _ rfl O4.out.1 F vt (lo.length - k) (evCells (lo.drop k)) rfl HVR.out (oneCell_evs _) (by unfold maxLen;omega) (by omega) O4.out.2.size ?_)
    intro v5 w5 own5 gr5
    have B5:Below wr.heap.size wr w5:=O4.out.2.grown gr5 O4.out.2.size (fun k hk=>(own_block O4.out.1 k hk).1)
    have O5:=hid (And.intro own5 B5)
    clear own5 B5 gr5
    go_wp2
    go_roundw
    case rel=>
     refine⟨ii+1,_,En.ins lo ⟨off,kind,time⟩,by omega,by go_num,rfl,hid ⟨?_,hr.out.2.1.trans (O5.out.2.mono hr.out.2.1.size),?_,?_⟩⟩
     ·have h1:=(RowAt.ofOwn O5.out.1).mono (G:=F) (fun b _ h=>HF.out b (Nat.le_trans hr.out.2.1.size h))
      rw[hc.out.2]
      unfold EvsAt
      rw[show (lo.take k++⟨off,kind,time⟩::lo.drop k).length=k+1+(lo.length - k) by simp;omega]
      rw[show evCells (lo.take k++⟨off,kind,time⟩::lo.drop k)=evCells (lo.take k)++.int .i64 off::.int .i32 kind::.int .i64 time::evCells (lo.drop k) by simp[evCells]]
      exact h1
     ·rw[← hr.out.2.2.1,drop_of_get HG.out]
      rfl
     ·rw[En.ins_length,hr.out.2.2.2]
    case measure=>simp[intOf];omega
  ·go_wp2
   go_ret
   refine⟨_,rfl,?_,hr.out.2.1⟩
   have h1:=hr.out.2.2.1
   rw[List.drop_eq_nil_of_le (by omega)] at h1
   have h2:lo=En.sortEv l:=h1
   rw[← h2]
   exact hr.out.1
end Go.Proofs.YtfldcmdhneegmaaGreatDoor

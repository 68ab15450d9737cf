import Derived.Test.YtfldcmdhneegmaaGreatDoorY32
import Derived.Test.YtfldcmdhneegmaaGreatDoorY41
set_option maxHeartbeats 4000000
set_option maxRecDepth 1000000
namespace Go.Proofs.YtfldcmdhneegmaaGreatDoor
open Go.RowKit Go.Lib
structure Spoilt (L:List MV)(v:Value)(w w':World):Prop where
 os:w'.os=w.os
 tape:w'.tape=w.tape
 output:w'.output=w.output
 size:w.heap.size≤w'.heap.size
 block:∀k,k < w.heap.size→v.ownBlock≠some k→(∀y∈L,y.2.ownBlock≠some k)→w'.heap[k]?=w.heap[k]?
structure SpRel (base:Nat)(L:List MV)(v:Value)(w wr:World)(i:Nat)(L':List MV):Prop where
 own:MOwn base wr v L'
 len:L'.length=L.length
 marks:∀j (hj:j < L'.length),j < i→∃n,L'[j].1.1=markN n j
 lens:∀y∈L',y.1.1.length≤1000001
 from':∀y∈L',∀b,y.2.ownBlock=some b→w.heap.size≤b∨∃x∈L,x.2.ownBlock=some b
 sp:Spoilt L v w wr
theorem own_int_cell {w:World}{base g n cap:Nat}{xs:List Int}(h:w.ownsRow base 3 1 (.slice (some ⟨g,0,none⟩) n cap) xs.length (intCells xs)){k:Nat}(hk:k < xs.length):w.cell? ⟨g,k,none⟩=some (.int .i64 xs[k])∧w.frozen? ⟨g,k,none⟩=false:=by
 rcases h.2 with ⟨he,-⟩ | ⟨g',cap',cur,he,-,hg,-,-,h5,h6⟩
 ·cases he
 ·cases he
  refine⟨?_,by simp[World.frozen?,hg]⟩
  have h7:(cur.toList.take (xs.length * 1))[k]?=(intCells xs)[k]?:=by rw[h6]
  rw[List.getElem?_take_of_lt (by omega)] at h7
  simp[World.cell?,hg]
  rw[← Array.getElem?_toList,h7]
  simp[intCells,hk]
theorem own_m_cell {w:World}{base g n cap:Nat}{L:List MV}(h:w.ownsRow base 109 2 (.slice (some ⟨g,0,none⟩) n cap) L.length (mCells L)){i:Nat}(hi:i < L.length):w.cell? ⟨g,i * 2,none⟩=some L[i].2∧w.frozen? ⟨g,i * 2,none⟩=false:=by
 rcases h.2 with ⟨he,-⟩ | ⟨g',cap',cur,he,-,hg,-,-,h5,h6⟩
 ·cases he
 ·cases he
  refine⟨?_,by simp[World.frozen?,hg]⟩
  have h7:(cur.toList.take (L.length * 2))[i * 2]?=(mCells L)[i * 2]?:=by rw[h6]
  rw[List.getElem?_take_of_lt (by omega),(mCells_get L i hi).1] at h7
  simp[World.cell?,hg]
  rw[← Array.getElem?_toList,h7]
theorem take_mark {xs:List Int}{k:Nat}{a:Int}(h:xs.take k=List.replicate k a)(hk:k < xs.length):(xs.set k a).take (k+1)=List.replicate (k+1) a:=by
 have e:(xs.set k a).take (k+1)=(xs.set k a).take k++[(xs.set k a)[k]'(by simpa using hk)]:=by
  rw[List.take_succ_eq_append_getElem (by simpa using hk)]
 rw[e,List.take_set_of_le (Nat.le_refl _),h,List.getElem_set_self,List.replicate_succ']
section
variable {base:Nat} {L L':List MV} {v:Value} {w wr w':World} {i:Nat}
theorem SpRel.start (h:MOwn base w v L)(hb:Below w.heap.size w wr)(ho:∀y∈L,y.1.1.length≤1000000):SpRel base L v w wr 0 L:=
 ⟨h.below hb,rfl,fun j hj h=>by omega,fun y hy=>by have:=ho y hy;omega,fun y hy b e=>Or.inr ⟨y,hy,e⟩,⟨hb.os,hb.tape,hb.output,hb.size,fun k hk _ _=>hb.block k hk⟩⟩
theorem SpRel.write (h:SpRel base L v w wr i L')(hi:i < L'.length){g n cap k:Nat}(hg:L'[i].2=.slice (some ⟨g,0,none⟩) n cap)(x:Int):SpRel base L v w (wr.setCell ⟨g,k,none⟩ (.int .i64 x)) i (L'.set i ((L'[i].1.1.set k x,L'[i].1.2),L'[i].2)):=by
 have gr:=grown_set wr g k (.int .i64 x)
 have hgb:L'[i].2.ownBlock=some g:=by rw[hg];rfl
 refine⟨h.own.write hi hg x,by rw[List.length_set];exact h.len,fun j hj hji=>?_,fun y hy=>?_,fun y hy b hb=>?_,⟨gr.os.trans h.sp.os,gr.tape.trans h.sp.tape,gr.output.trans h.sp.output,Nat.le_trans h.sp.size gr.size,fun q hq h1 h2=>(gr.block q (Nat.lt_of_lt_of_le hq h.sp.size) (fun e=>?_)).trans (h.sp.block q hq h1 h2)⟩⟩
 ·rw[List.getElem_set_ne (by omega)]
  exact h.marks j (by simpa using hj) hji
 ·rcases mem_set_index hy with rfl | ⟨j,hj,hne,rfl⟩
  ·have:=h.lens _ (List.getElem_mem hi)
   simpa using this
  ·exact h.lens _ (List.getElem_mem hj)
 ·rcases mem_set_index hy with rfl | ⟨j,hj,hne,rfl⟩
  ·exact h.from' _ (List.getElem_mem hi) b hb
  ·exact h.from' _ (List.getElem_mem hj) b hb
 ·cases e
  rcases h.from' _ (List.getElem_mem hi) _ hgb with h3 | ⟨y,hy,h3⟩
  ·omega
  ·exact h2 y hy h3
theorem SpRel.grow (h:SpRel base L v w wr i L')(hi:i < L'.length){g gm n cap nm cm m:Nat}{x:Int}(hv:v=.slice (some ⟨gm,0,none⟩) nm cm)(hm:L'[i].1.1=List.replicate m (-1 - (i:Int)))(hx:x=-100 - (i:Int))(hl:L'[i].1.1.length≤1000000)
  (own5:w'.ownsRow base 3 1 (.slice (some ⟨g,0,none⟩) n cap) (L'[i].1.1.length+1) (intCells L'[i].1.1++[.int .i64 x])) (gr5:wr.grownBy w' L'[i].2.ownBlock) (hg:L'[i].2.ownBlock=some g∨g=wr.heap.size) :
  SpRel base L v w (w'.setCell ⟨gm,i * 2,none⟩ (.slice (some ⟨g,0,none⟩) n cap)) (i+1) (L'.set i ((L'[i].1.1++[x],L'[i].1.2),.slice (some ⟨g,0,none⟩) n cap)):=by
 have gr:=grown_set w' gm (i * 2) (.slice (some ⟨g,0,none⟩) n cap)
 refine⟨h.own.grow hi hv own5 gr5 hg,by rw[List.length_set];exact h.len,fun j hj hji=>?_,fun y hy=>?_,fun y hy b hb=>?_,⟨(gr.os.trans gr5.os).trans h.sp.os,(gr.tape.trans gr5.tape).trans h.sp.tape,(gr.output.trans gr5.output).trans h.sp.output,Nat.le_trans h.sp.size (Nat.le_trans gr5.size gr.size),fun q hq h1 h2=>?_⟩⟩
 ·by_cases e:j=i
  ·subst e
   refine⟨m,?_⟩
   simp[hm,hx,markN]
  ·rw[List.getElem_set_ne (Ne.symm e)]
   exact h.marks j (by simpa using hj) (by omega)
 ·rcases mem_set_index hy with rfl | ⟨j,hj,hne,rfl⟩
  ·simp
   omega
  ·exact h.lens _ (List.getElem_mem hj)
 ·rcases mem_set_index hy with rfl | ⟨j,hj,hne,rfl⟩
  ·have e:g=b:=by simpa [Value.ownBlock] using hb
   subst e
   rcases hg with h3 | h3
   ·exact h.from' _ (List.getElem_mem hi) _ h3
   ·have:=h.sp.size
    exact Or.inl (by omega)
  ·exact h.from' _ (List.getElem_mem hj) b hb
 ·refine (gr.block q (Nat.lt_of_lt_of_le hq (Nat.le_trans h.sp.size gr5.size)) (fun e=>h1 (by rw[hv,e];rfl))).trans ((gr5.block q (Nat.lt_of_lt_of_le hq h.sp.size) (fun e=>?_)).trans (h.sp.block q hq h1 h2))
  rcases h.from' _ (List.getElem_mem hi) _ e.symm with h3 | ⟨y,hy,h3⟩
  ·omega
  ·exact h2 y hy h3
end
theorem sameMatches_same (base:Nat)(va vb:Value)(L M:List MV)(w:World)(ha:MOwn base w va L)(hb:MRd w vb M)(he:L.map Prod.fst=M.map Prod.fst)(hn:L.length≤2000000000)(ho:∀y∈L,y.1.1.length≤1000000) :
  Calls Tryz.prog 19 #[va,vb] w fun e w'=>e=.returned (.bool true)∧Spoilt L va w w':=by
 obtain⟨aa,ca,rfl⟩:=ha.len
 obtain⟨ab,cb,rfl,-,-⟩:=RowAt.slice hb.row
 have hlen:M.length=L.length:=by have:=congrArg List.length he;simpa using this.symm
 have hlen':((L.length:Int) != (M.length:Int))=false:=by simp[hlen]
 have HL:=hid hlen
 have H:=hid (And.intro ha (And.intro hb (And.intro he ho)))
 clear ha hb he hlen ho
 go_enter Tryz.func19,Tryz.ntmps19
 go_wp2
 go_loopw [5] (fun s5 wr=>∃i:Nat,i≤L.length∧s5=.int .i64 i∧Hid (Below w.heap.size w wr)) (fun s5 _=>L.length - (intOf s5).toNat)
 case atStart=>exact⟨0,by omega,rfl,Below.refl _ _⟩
 case round=>
  obtain⟨i,hi,rfl,hr⟩:=hrel
  by_cases hlt:i < L.length
  ·have hi':(i:Int) < (L.length:Int):=by omega
   have hi2:(i:Int) < (M.length:Int):=by have:=HL.out;omega
   have hiM:i < M.length:=by have:=HL.out;omega
   obtain⟨b1,o1,rfl,lb1,c0,c1⟩:=(H.out.1.rd.below hr.out).get hlt
   obtain⟨b2,o2,rfl,lb2,d0,d1⟩:=(H.out.2.1.below hr.out).get hiM
   have hA:=(H.out.1.rd.below hr.out).offs _ (List.getElem_mem hlt)
   have hBo:=(H.out.2.1.below hr.out).offs _ (List.getElem_mem hiM)
   have hq:L[i].1=M[i].1:=by
    have h1:(L.map Prod.fst)[i]?=(M.map Prod.fst)[i]?:=by rw[H.out.2.2.1]
    simpa [List.getElem?_eq_getElem hlt,List.getElem?_eq_getElem hiM] using h1
   obtain⟨x,hx⟩:∃x,L[i]=x:=⟨_,rfl⟩
   obtain⟨y,hy⟩:∃y,M[i]=y:=⟨_,rfl⟩
   rw[hx] at c0 c1 hA hq
   rw[hy] at d0 d1 hBo hq
   obtain⟨a3,c3,hv3,-,-⟩:=RowAt.slice hA
   obtain⟨a4,c4,hv4,-,-⟩:=RowAt.slice hBo
   rw[hv3] at c0 hA
   rw[hv4] at d0 hBo
   rw[← hq] at d1
   have HC:=hid (fun W' (hW:Below wr.heap.size wr W')=>rSame_any (fun _=>True) (.slice a3 x.1.1.length c3) (.slice a4 y.1.1.length c4) x.1.1 y.1.1 W' (hA.below hW) (hBo.below hW))
   rw[show decide (x.1.1=y.1.1)=true by rw[hq];simp] at HC
   clear hA hBo hx hy hv3 hv4 hq
   go_wp2
   go_region_held3 (fun W=>W.cell? ⟨b1,o1+i * 2,none⟩=some (.slice a3 x.1.1.length c3)∧W.cell? ⟨b2,o2+i * 2,none⟩=some (.slice a4 y.1.1.length c4)) (go_keep) ((go_at_call 50;refine (HC.out _ (by first | exact bel_drewN (Below.refl _ _) _ | exact Below.drew (Below.refl _ _) | exact Below.refl _ _)).mono ?_;rintro e w1 ⟨rfl,q1,hw1⟩;have hb1:Below wr.heap.size wr w1:=(by rw[hw1];first | exact bel_drewN (bel_drewN (Below.refl _ _) _) _ | exact bel_drewN (Below.drew (Below.refl _ _)) _ | exact bel_drewN (Below.refl _ _) _);have z0:=(cell_bel hb1 ⟨b1,o1+i * 2,none⟩ lb1).trans c0;have z1:=(cell_bel hb1 ⟨b2,o2+i * 2,none⟩ lb2).trans d0;have H1:=hid hb1;clear hb1 hw1))
   have y1:=(cell_bel H1.out ⟨b1,o1+i * 2+1,none⟩ lb1).trans c1
   have y2:=(cell_bel H1.out ⟨b2,o2+i * 2+1,none⟩ lb2).trans d1
   clear z0 z1 c0 c1 d0 d1
   go_wp2
   go_quiet (fail)
   revert nq;intro n1
   go_wp2
   go_roundw
   case rel=>exact⟨i+1,by omega,by go_num,bel_drewN (hr.out.trans (H1.out.mono hr.out.size)) _⟩
   case measure=>simp[intOf];omega
  ·have hi':decide ((i:Int) < (L.length:Int))=false:=decide_eq_false (by omega)
   have HS:=hid (SpRel.start H.out.1 hr.out H.out.2.2.2)
   go_wp2
   clear hlt hi' hi hr
   go_loopw [8] (fun s8 wr=>∃(i2:Nat) (L':List MV),i2≤L.length∧s8=.int .i64 i2∧Hid (SpRel base L (.slice aa L.length ca) w wr i2 L'∧∀j (hj:j < L'.length),i2≤j→L'[j].1.1.length≤1000000)) (fun s8 _=>L.length - (intOf s8).toNat)
   case atStart=>exact⟨0,L,by omega,rfl,HS.out,fun j hj _=>H.out.2.2.2 _ (List.getElem_mem hj)⟩
   case round=>
    obtain⟨i2,L2,hi2,rfl,hr2⟩:=hrel
    by_cases hlt2:i2 < L.length
    ·have hi2':(i2:Int) < (L.length:Int):=by omega
     have hl2:i2 < L2.length:=by rw[hr2.out.1.len];exact hlt2
     obtain⟨gm,haa⟩:∃gm,aa=some ⟨gm,0,none⟩:=by
      rcases hr2.out.1.own.row.2 with ⟨-,h0⟩ | ⟨g,cap,cur,h1,-⟩
      ·omega
      ·injection h1 with e1
       exact⟨g,e1⟩
     subst haa
     go_wp2
     go_loopw [9] (fun s9 wq=>∃(k:Nat) (L3:List MV),s9=.int .i64 k∧k≤1000000∧Hid (∃h3:i2 < L3.length,SpRel base L (.slice (some ⟨gm,0,none⟩) L.length ca) w wq i2 L3∧k≤L3[i2].1.1.length∧L3[i2].1.1.length≤1000000∧L3[i2].1.1.take k=List.replicate k (-1 - (i2:Int))∧∀j (hj:j < L3.length),i2 < j→L3[j].1.1.length≤1000000)) (fun s9 _=>1000000 - (intOf s9).toNat)
     case atStart=>exact⟨0,L2,rfl,by omega,hl2,hr2.out.1,by omega,hr2.out.2 i2 hl2 (Nat.le_refl _),by simp,fun j hj h=>hr2.out.2 j hj (by omega)⟩
     case round=>
      obtain⟨k,L3,rfl,hkm,hr3⟩:=hrel
      obtain⟨h3,hS3,hk3,hl3,htk,hlo⟩:=hr3.out
      have hlen3:L3.length=L.length:=hS3.len
      have hown3:=hS3.own.row
      rw[hlen3] at hown3
      obtain⟨m0,mf⟩:=own_m_cell (by rw[hlen3];exact hown3) h3
      have ho3:=(hS3.own.offs _ (List.getElem_mem h3))
      obtain⟨g3,cap3,hv3⟩:∃g cap,L3[i2].2=.slice (some ⟨g,0,none⟩) L3[i2].1.1.length cap:=by
       rcases ho3.1.2 with ⟨-,h0⟩ | ⟨g,cap,cur,h1,-⟩
       ·exact absurd (List.eq_nil_of_length_eq_zero h0) ho3.2
       ·exact⟨g,cap,h1⟩
      rw[hv3] at m0
      obtain⟨n3,hn3⟩:∃n3,L3[i2].1.1.length=n3:=⟨_,rfl⟩
      rw[hn3] at m0 hv3
      have HX:=hid (And.intro hS3 (And.intro hn3 (And.intro hv3 (And.intro htk (And.intro hlo (And.intro ho3 hl3))))))
      have hn3m:n3≤1000000:=by omega
      have hk3n:k≤n3:=by omega
      clear hr3 hS3 hlen3 hown3 ho3 htk hlo hn3 hv3 hk3 hl3
      by_cases hkl:k < n3
      ·have hk':(k:Int) < (n3:Int):=by omega
       have hcell:=own_int_cell (by have hh:=HX.out.2.2.2.2.2.1.1;rw[HX.out.2.2.1] at hh;exact hh) (k:=k) (by rw[HX.out.2.1];exact hkl)
       obtain⟨cc,cf⟩:=hcell
       generalize L3[i2].1.1[k]'(by rw[HX.out.2.1];exact hkl)=old at cc
       have hN:=HX.out.1.write h3 HX.out.2.2.1 (k:=k) (-1 - (i2:Int))
       have HN:=hid hN
       clear hN
       go_wp2
       refine⟨⟨k+1,L3.set i2 ((L3[i2].1.1.set k (-1 - (i2:Int)),L3[i2].1.2),L3[i2].2),by go_num,by omega,by simpa using h3,HN.out,?_,?_,?_,?_⟩,by simp[intOf];omega⟩
       ·have:=HX.out.2.1
        simp
        omega
       ·have:=HX.out.2.1
        simp
        omega
       ·have h1:=HX.out.2.2.2.1
        simp only[List.getElem_set_self]
        exact take_mark h1 (by rw[HX.out.2.1];exact hkl)
       ·intro j hj hij
        rw[List.getElem_set_ne (by omega)]
        exact HX.out.2.2.2.2.1 j (by simpa using hj) hij
      ·obtain rfl:k=n3:=by omega
       have hk':decide ((k:Int) < (k:Int))=false:=decide_eq_false (by omega)
       have hmarks:L3[i2].1.1=List.replicate k (-1 - (i2:Int)):=by
        have h1:=HX.out.2.2.2.1
        rw[List.take_of_length_le (by rw[HX.out.2.1];exact Nat.le_refl _)] at h1
        exact h1
       have hgb:L3[i2].2.ownBlock=some g3:=by rw[HX.out.2.2.1];rfl
       have hlenI:=HX.out.2.1
       obtain⟨i1,hi1,hy0,hy1,hy2⟩:=info_parts Tryz.infoCcI
       have hw1:=HX.out.1
       have HM:=hid (And.intro hmarks (And.intro hgb hlenI))
       have hown:wr.ownsRow base 3 1 (.slice (some ⟨g3,0,none⟩) k cap3) k (intCells L3[i2].1.1):=by
        have hh:=HX.out.2.2.2.2.2.1.1
        rw[HX.out.2.2.1,hlenI] at hh
        exact hh
       have HOw:=hid hown
       have hbs:base≤wr.heap.size:=by
        have h1:=(own_block hown g3 rfl)
        obtain⟨h2,c,fz,h3'⟩:=h1
        have:=lt_of_block h3'
        omega
       clear hmarks hgb hlenI hw1 hown
       go_wp2_with (at_builtin;refine wpList_append_lies _ rfl _ _ 90 rfl base 3 i1 (.int .i64 0) 1 8 Tryz.underlying90 hi1 hy0 hy1 hy2 rfl (by decide) _ _ _ rfl (World.ownsRow.alloc HOw.out _) ⟨wr.heap.size,0,none⟩ 1 1 [.int .i64 (-100 - (i2:Int))] rfl rfl (World.news_of_block (cs:=#[.int .i64 (-100 - (i2:Int))]) (new_at (by simp;done))) (by intro u hu;simp at hu;subst hu;rfl) (by decide) (by unfold maxLen;omega) (by omega) (by simp;omega) _ rfl ?_)
       intro g5 cap5 w5 own5 gr5 hg5 _
       have hal:=(Below.refl wr.heap.size wr).alloc (Nat.le_refl _) (.cells #[.int .i64 (-100 - (i2:Int))] 3)
       have hS1:SpRel base L (.slice (some ⟨gm,0,none⟩) L.length ca) w (wr.alloc (.cells #[.int .i64 (-100 - (i2:Int))] 3)) i2 L3:=⟨HX.out.1.own.below hal,HX.out.1.len,HX.out.1.marks,HX.out.1.lens,HX.out.1.from',⟨hal.os.trans HX.out.1.sp.os,hal.tape.trans HX.out.1.sp.tape,hal.output.trans HX.out.1.sp.output,Nat.le_trans HX.out.1.sp.size hal.size,fun q hq h1 h2=>(hal.block q (Nat.lt_of_lt_of_le hq HX.out.1.sp.size)).trans (HX.out.1.sp.block q hq h1 h2)⟩⟩
       have hG:=hS1.grow h3 rfl HM.out.1 rfl (by rw[HM.out.2.2];omega) (by rw[HM.out.2.2];exact own5) (by rw[HM.out.2.1];exact gr5) (hg5.imp (fun h=>by rw[HM.out.2.1,← h];rfl) (fun h=>by rw[h];simp))
       have hmf:w5.cell? ⟨gm,i2 * 2,none⟩=some (.slice (some ⟨g3,0,none⟩) k cap3)∧w5.frozen? ⟨gm,i2 * 2,none⟩=false:=by
        have hr5:=hS1.own.row.kept gr5 (own_other hS1.own.row (World.ownsRow.alloc HOw.out (.cells #[.int .i64 (-100 - (i2:Int))] 3)) (by decide))
        have:=own_m_cell (n:=L.length) (by have e:=hS1.len;exact hr5) h3
        rw[HX.out.2.2.1] at this
        exact this
       obtain⟨mc5,mf5⟩:=hmf
       have HG:=hid hG
       clear own5 gr5 hg5 hal hS1 hG
       go_wp2
       exact⟨⟨i2+1,_,by omega,by go_num,HG.out,fun j hj h=>by rw[List.getElem_set_ne (by omega)];exact HX.out.2.2.2.2.1 j (by simpa using hj) (by omega)⟩,by simp[intOf];omega⟩
    ·have hi2':decide ((i2:Int) < (L.length:Int))=false:=decide_eq_false (by omega)
     have hi2e:i2=L.length:=by omega
     have H2:=hid hr2.out.1
     clear hr2 hlt2
     go_wp2
     go_loopw [10,7] (fun s10 s7 wq=>∃i3:Nat,i3≤L.length∧s10=.int .i64 i3∧s7=.bool true∧Hid (Below wr.heap.size wr wq)) (fun s10 _ _=>L.length - (intOf s10).toNat)
     case atStart=>exact⟨0,by omega,rfl,rfl,Below.refl _ _⟩
     case round=>
      obtain⟨i3,hi3,rfl,rfl,hr3⟩:=hrel
      by_cases hlt3:i3 < L.length
      ·have hi3':(i3:Int) < (L.length:Int):=by omega
       have hl3:i3 < L2.length:=by rw[H2.out.len];exact hlt3
       obtain⟨gm,haa⟩:∃gm,aa=some ⟨gm,0,none⟩:=by
        rcases H2.out.own.row.2 with ⟨-,h0⟩ | ⟨g,cap,cur,h1,-⟩
        ·omega
        ·injection h1 with e1
         exact⟨g,e1⟩
       subst haa
       have hO:=H2.out.own.below hr3.out
       obtain⟨m0,mf⟩:=own_m_cell hO.row hl3
       have ho3:=hO.offs _ (List.getElem_mem hl3)
       obtain⟨n3,hn3⟩:=H2.out.marks i3 hl3 (by omega)
       have hle3:n3≤1000000:=by
        have h1:=H2.out.lens _ (List.getElem_mem hl3)
        rw[hn3] at h1
        simp[markN] at h1
        omega
       rw[hn3] at ho3
       obtain⟨g3,cap3,hv3⟩:∃g cap,L2[i3].2=.slice (some ⟨g,0,none⟩) (n3+1) cap:=by
        rcases ho3.1.2 with ⟨-,h0⟩ | ⟨g,cap,cur,h1,-⟩
        ·simp[markN] at h0
        ·exact⟨g,cap,by rw[h1];simp[markN]⟩
       rw[hv3] at m0 ho3
       have HO:=hid ho3.1
       clear hO ho3 hn3 hv3
       have lgm:gm < wr.heap.size:=by
        rcases Nat.lt_or_ge gm wr.heap.size with h | h
        ·exact h
        ·simp[World.cell?,Array.getElem?_eq_none h] at m0
       go_wp2
       go_loopw [11,7] (fun s11 s7 wz=>∃k:Nat,k≤n3∧s11=.int .i64 k∧s7=.bool true∧Hid (Below wr.heap.size wr wz)) (fun s11 _ _=>n3 - (intOf s11).toNat)
       case atStart=>exact⟨0,by omega,rfl,rfl,Below.refl _ _⟩
       case round=>
        obtain⟨k,hk,rfl,rfl,hrz⟩:=hrel
        have z0:=(cell_bel hrz.out ⟨gm,i3 * 2,none⟩ lgm).trans m0
        by_cases hkl:k < n3
        ·have hk1:(k:Int)+1 < ((n3+1:Nat):Int):=by omega
         have hk2:(k:Int) < ((n3+1:Nat):Int):=by omega
         obtain⟨cc,cf⟩:=own_int_cell (own_below HO.out hrz.out) (k:=k) (by simp[markN];omega)
         have hce:(markN n3 i3)[k]'(by simp[markN];omega)=-1 - (i3:Int):=by
          unfold markN
          rw[List.getElem_append_left (by simpa using hkl)]
          simp
         rw[hce] at cc
         clear hce
         go_wp2
         exact⟨⟨k+1,by omega,by go_num,rfl,hrz.out⟩,by simp[intOf];omega⟩
        ·have hk1:decide ((k:Int)+1 < ((n3+1:Nat):Int))=false:=decide_eq_false (by omega)
         go_wp2
         exact⟨⟨i3+1,by omega,by go_num,rfl,hr3.out.trans (hrz.out.mono hr3.out.size)⟩,by simp[intOf];omega⟩
      ·have hi3':decide ((i3:Int) < (L.length:Int))=false:=decide_eq_false (by omega)
       go_wp2
       have hsp:=H2.out.sp
       have hz:=hr3.out
       go_ret
       exact⟨rfl,⟨hz.os.trans hsp.os,hz.tape.trans hsp.tape,hz.output.trans hsp.output,Nat.le_trans hsp.size hz.size,fun q hq h1 h2=>(hz.block q (Nat.lt_of_lt_of_le hq hsp.size)).trans (hsp.block q hq h1 h2)⟩⟩
end Go.Proofs.YtfldcmdhneegmaaGreatDoor

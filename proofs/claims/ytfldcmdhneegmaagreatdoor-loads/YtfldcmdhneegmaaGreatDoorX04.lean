import Derived.Test.YtfldcmdhneegmaaGreatDoorX03
import Derived.Deep.RegionHeld3
set_option maxHeartbeats 4000000
set_option maxRecDepth 1000000
namespace Go.Proofs.YtfldcmdhneegmaaGreatDoor
open Go.RowKit Go.Lib
def I64 (w:World)(i:Nat):Prop:=∃c fz,w.heap[i]?=some (.cells c 3 fz)
structure SAt (base g ob:Nat)(w:World)(cap:Nat)(l:List RV):Prop where
 row:w.ownsRow base 164 3 (.slice (some ⟨g,0,none⟩) l.length cap) l.length (runCells l)
 ord:OrdAt w ob
 offs:∀x∈l,IntsAt (I64 w) w x.2 x.1.offs
theorem IntsAt.onI {w w':World}{v:Value}{xs:List Int}(h:IntsAt (I64 w) w v xs)(hi:∀i,I64 w i→w'.heap[i]?=w.heap[i]?)(hs:w.heap.size≤w'.heap.size):IntsAt (I64 w') w' v xs:=
 RowAt.mono (RowAt.frame h hs (fun b _ hb=>hi b hb)) (fun b _ hb=>by obtain⟨c,fz,h⟩:=hb;exact⟨c,fz,(hi b ⟨c,fz,h⟩).trans h⟩)
theorem SAt.blk {base g ob:Nat}{w:World}{cap:Nat}{l:List RV}(h:SAt base g ob w cap l):base≤g∧∃cur,w.heap[g]?=some (.cells cur 164 (0,0)):=by
 rcases h.row.2 with ⟨he,-⟩ | ⟨g',cap',cur,he,hb,hg,-⟩
 ·cases he
 ·cases he
  exact⟨hb,cur,hg⟩
theorem SAt.ne {base g ob:Nat}{w:World}{cap:Nat}{l:List RV}(h:SAt base g ob w cap l){i:Nat}{c:Array Value}{t:TypeId}{fz:Nat × Nat}(hi:w.heap[i]?=some (.cells c t fz))(ht:t≠164):some i≠some g:=fun e=>by
 injection e with e
 subst e
 obtain⟨-,cur,hg⟩:=h.blk
 rw[hg] at hi
 cases hi
 exact ht rfl
theorem OrdAt.grown {w w':World}{ob g:Nat}(h:OrdAt w ob)(hg:w.grownBy w' (some g))(hn:∀(i:Nat) (c:Array Value) (t:TypeId) (fz:Nat × Nat),w.heap[i]?=some (.cells c t fz)→t≠164→some i≠some g):OrdAt w' ob:=by
 obtain⟨sb,h1,h2⟩:=h
 exact⟨sb,(hg.block _ (lt_of_block h1) (hn _ _ _ _ h1 (by decide))).trans h1,(hg.block _ (lt_of_block h2) (hn _ _ _ _ h2 (by decide))).trans h2⟩
theorem SAt.turn {base g ob:Nat}{w w':World}{cap:Nat}{l l':List RV}(h:SAt base g ob w cap l)(hg:w.grownBy w' (some g))(hl:∀x∈l',x∈l)(hr:w'.ownsRow base 164 3 (.slice (some ⟨g,0,none⟩) l'.length cap) l'.length (runCells l')):SAt base g ob w' cap l':=
 ⟨hr,h.ord.grown hg (fun _ _ _ _ hi ht=>h.ne hi ht),fun x hx=>(h.offs x (hl x hx)).onI (fun i ⟨_,_,hi⟩=>hg.block i (lt_of_block hi) (h.ne hi (by decide))) hg.size⟩
theorem SAt.below {base g ob:Nat}{w w':World}{cap:Nat}{l:List RV}(h:SAt base g ob w cap l)(hb:Below w.heap.size w w'):SAt base g ob w' cap l:=
 ⟨own_below h.row hb,h.ord.below hb,fun x hx=>(h.offs x hx).onI (fun i ⟨_,_,hi⟩=>hb.block i (lt_of_block hi)) hb.size⟩
theorem grown_below {w w':World}(hb:Below w.heap.size w w')(r:Option Nat):w.grownBy w' r:=⟨hb.os,hb.tape,hb.output,hb.size,fun k hk _=>hb.block k hk⟩
theorem SAt.get {base g ob:Nat}{w:World}{cap:Nat}{l:List RV}(h:SAt base g ob w cap l){i:Nat}(hi:i < l.length):∃a n c,l[i].2=.slice a n c∧w.cell? ⟨g,i * 3,none⟩=some (.int .i64 l[i].1.step)∧w.cell? ⟨g,i * 3+1,none⟩=some (.slice a n c)∧w.cell? ⟨g,i * 3+2,none⟩=some (.int .i64 l[i].1.first):=by
 have hR:RunsAt (fun _=>True) w (.slice (some ⟨g,0,none⟩) l.length cap) l:=⟨(RowAt.ofOwn h.row).mono (fun _ _ _=>trivial),fun x hx=>RowAt.mono (h.offs x hx) (fun _ _ _=>trivial)⟩
 obtain⟨b,o,he,-,c0,c1,c2⟩:=hR.get hi
 cases he
 obtain⟨a,c,hv,-⟩:=RowAt.slice (h.offs l[i] (List.getElem_mem hi))
 rw[hv] at c1
 simp only[Nat.zero_add] at c0 c1 c2
 exact⟨a,_,c,hv,c0,c1,c2⟩
theorem SAt.frozen {base g ob:Nat}{w:World}{cap:Nat}{l:List RV}(h:SAt base g ob w cap l)(k:Nat):w.frozen? ⟨g,k,none⟩=false:=by
 obtain⟨-,cur,hg⟩:=h.blk
 simp[World.frozen?,hg]
theorem runCells_set (l:List RV)(i:Nat)(x:RV):(((runCells l).set (i * 3) (.int .i64 x.1.step)).set (i * 3+1) x.2).set (i * 3+2) (.int .i64 x.1.first)=runCells (l.set i x):=by
 induction l generalizing i with
 | nil=>simp[runCells]
 | cons y t ih=>
  cases i with
  | zero=>simp[runCells]
  | succ i=>
   have e1:(i+1) * 3=i * 3+1+1+1:=by omega
   have:=ih i
   simp only[runCells,List.flatMap_cons,List.set_cons_succ] at this ⊢
   rw[e1]
   simp only[List.cons_append,List.nil_append,List.set_cons_succ]
   rw[this]
def put3 (w:World)(g i:Nat)(x y z:Value):World:=((w.setCell ⟨g,i * 3,none⟩ x).setCell ⟨g,i * 3+1,none⟩ y).setCell ⟨g,i * 3+2,none⟩ z
theorem put3_grown (w:World)(g i:Nat)(x y z:Value):w.grownBy (put3 w g i x y z) (some g):=grown_trans (grown_trans (grown_set w g _ _) (grown_set _ g _ _)) (grown_set _ g _ _)
theorem SAt.put {base g ob:Nat}{w:World}{cap:Nat}{l:List RV}(h:SAt base g ob w cap l)(i:Nat)(x:RV)(hx:x∈l):SAt base g ob (put3 w g i (.int .i64 x.1.step) x.2 (.int .i64 x.1.first)) cap (l.set i x):=by
 refine h.turn (put3_grown _ _ _ _ _ _) (fun y hy=>?_) ?_
 ·rcases List.mem_or_eq_of_mem_set hy with h | h
  ·exact h
  ·rw[h];exact hx
 ·have h1:=own_write h.row (i * 3) (.int .i64 x.1.step)
  have h2:=own_write h1 (i * 3+1) x.2
  have h3:=own_write h2 (i * 3+2) (.int .i64 x.1.first)
  rw[runCells_set] at h3
  rw[List.length_set]
  exact h3
theorem SAt.cmp {base g ob:Nat}{w:World}{cap:Nat}{l:List RV}(h:SAt base g ob w cap l){i j:Nat}(hi:i < l.length)(hj:j < l.length) :
  Calls Tryz.prog 254 #[rval l[i],rval l[j],.pointer (some ⟨ob,0,none⟩)] w fun e w'=>e=.returned (.int .i64 (En.cmpR l[i].1 l[j].1))∧Below w.heap.size w w':=
 inTurn1_any _ _ ob l[i] l[j] w h.ord (h.offs _ (List.getElem_mem hi)) (h.offs _ (List.getElem_mem hj))
theorem wrap_small {x:Int}(h1:-9223372036854775808≤x)(h2:x≤9223372036854775807):IntKind.i64.wrap x=x:=by
 simp[IntKind.wrap,IntKind.bits,IntKind.signed]
 omega
theorem swap_mid {α:Type}(X:List α)(y x:α)(Z:List α):((X++y::x::Z).set (X.length+1) y).set X.length x=X++x::y::Z:=by
 rw[List.set_append_right _ _ (by omega),List.set_append_right _ _ (by omega)]
 simp
theorem SAt.swap {base g ob:Nat}{w:World}{cap:Nat}{X Z:List RV}{x y:RV}{q:Nat}(h:SAt base g ob w cap (X++y::x::Z))(hq:X.length=q):SAt base g ob (put3 (put3 w g (q+1) (.int .i64 y.1.step) y.2 (.int .i64 y.1.first)) g q (.int .i64 x.1.step) x.2 (.int .i64 x.1.first)) cap (X++x::y::Z):=by
 have h1:=h.put (q+1) y (by simp)
 have hx:x∈(X++y::x::Z).set (q+1) y∨x∈X++y::x::Z:=Or.inr (by simp)
 subst hq
 have h2:SAt base g ob (put3 (put3 w g (X.length+1) (.int .i64 y.1.step) y.2 (.int .i64 y.1.first)) g X.length (.int .i64 x.1.step) x.2 (.int .i64 x.1.first)) cap (((X++y::x::Z).set (X.length+1) y).set X.length x):=by
  refine h.turn (grown_trans (put3_grown _ _ _ _ _ _) (put3_grown _ _ _ _ _ _)) (fun z hz=>?_) ?_
  ·rw[swap_mid] at hz
   simp at hz ⊢
   rcases hz with h | h | h | h
   ·exact Or.inl h
   ·exact Or.inr (Or.inr (Or.inl h))
   ·exact Or.inr (Or.inl h)
   ·exact Or.inr (Or.inr (Or.inr h))
  ·have r1:=own_write h1.row (X.length * 3) (.int .i64 x.1.step)
   have r2:=own_write r1 (X.length * 3+1) x.2
   have r3:=own_write r2 (X.length * 3+2) (.int .i64 x.1.first)
   rw[runCells_set] at r3
   rw[List.length_set]
   exact r3
 rw[swap_mid] at h2
 exact h2
theorem get_mid1 {α:Type}(X:List α)(y x:α)(Y:List α)(h:X.length+1 < (X++y::x::Y).length):(X++y::x::Y)[X.length+1]=x:=by
 have:(X++y::x::Y)[X.length+1]?=some x:=by rw[List.getElem?_append_right (by omega)];simp
 rw[List.getElem?_eq_getElem h] at this
 exact Option.some.inj this
theorem SAt.drewN {base g ob:Nat}{w:World}{cap:Nat}{l:List RV}(h:SAt base g ob w cap l)(q:Nat):SAt base g ob (w.drewN q) cap l:=⟨h.row,h.ord,h.offs⟩
theorem SAt.drew {base g ob:Nat}{w:World}{cap:Nat}{l:List RV}(h:SAt base g ob w cap l):SAt base g ob w.drew cap l:=⟨h.row,h.ord,h.offs⟩
theorem srt_in {S1 S2:List RV}{x:RV}(h:Sm.Srt ltR (S1++S2))(h1:∀y,S1.getLast?=some y→ltR x y=false)(h2:∀y∈S2,ltR x y=true):Sm.Srt ltR (S1++x::S2):=
 Sm.one_in ltR_wk h h1 (fun y hy=>ltR_wk.asym _ _ (h2 y (List.mem_of_mem_head? hy)))
theorem perm_in {α:Type}{S1 S2 R:List α}{x:α}{M:List α}(h:(S1++S2++x::R).Perm M):(S1++x::S2++R).Perm M:=by
 refine List.Perm.trans ?_ h
 rw[List.append_assoc,List.append_assoc]
 refine List.Perm.append_left S1 ?_
 exact (List.perm_middle (a:=x) (l₁:=S2) (l₂:=R)).symm
theorem get_mid {α:Type}(X:List α)(x:α)(Y:List α)(h:X.length < (X++x::Y).length):(X++x::Y)[X.length]=x:=by simp
def SortEnd (base g ob cap:Nat)(A M B:List RV)(w:World)(e:Ending)(w':World):Prop:=
 e=.returned (.tuple #[])∧∃M',M'.Perm M∧Sm.Srt ltR M'∧SAt base g ob w' cap (A++M'++B)∧w.grownBy w' (some g)
theorem insertR_any (base g ob cap:Nat)(A M B:List RV)(w:World)(h:SAt base g ob w cap (A++M++B))(hm:(A++M++B).length≤1000000) :
  Calls Tryz.prog 257 #[.slice (some ⟨g,0,none⟩) (A++M++B).length cap,.int .i64 A.length,.int .i64 (A.length+M.length:Nat),.func (.func 254) #[] #[.pointer (some ⟨ob,0,none⟩)]] w (SortEnd base g ob cap A M B w):=by
 obtain⟨n,hn⟩:∃n,(A++M++B).length=n:=⟨_,rfl⟩
 obtain⟨a,ha⟩:∃a,A.length=a:=⟨_,rfl⟩
 obtain⟨b,hb⟩:∃b,A.length+M.length=b:=⟨_,rfl⟩
 have hbn:b≤n:=by rw[← hn,← hb];simp
 have hab:a≤b:=by omega
 rw[hn,hb,ha]
 rw[hn] at hm
 have HL:=hid (And.intro hn (And.intro ha hb))
 have HS:=hid h
 clear h hn ha hb
 cases M with
 | nil=>
  have hlt:decide ((a:Int)+1 < (b:Int))=false:=decide_eq_false (by have:=HL.out.2.1;have:=HL.out.2.2;simp at this;omega)
  go_enter Tryz.func257,Tryz.ntmps257
  go_wp2
  refine wp_loop_rounds 1 ?_
  rw[rounds_succ]
  go_wp2
  go_end0
  exact⟨rfl,[],List.Perm.refl _,List.Pairwise.nil,HS.out,grown_refl _ _⟩
 | cons m0 M0=>
  go_enter Tryz.func257,Tryz.ntmps257
  go_wp2
  go_loopw [8] (fun i wr=>∃k:Nat,k≤b∧a < k∧i=.int .i64 k∧Hid (∃S R,a+S.length=k∧(S++R).Perm (m0::M0)∧Sm.Srt ltR S∧SAt base g ob wr cap (A++(S++R)++B)∧w.grownBy wr (some g))) (fun i _=>b - (intOf i).toNat)
  case atStart=>exact⟨a+1,by have:=HL.out.2.1;have:=HL.out.2.2;simp at this;omega,by omega,by go_num,[m0],M0,rfl,List.Perm.refl _,List.pairwise_singleton _ _,HS.out,grown_refl _ _⟩
  case round=>
   obtain⟨k,hk,hak,rfl,hr⟩:=hrel
   by_cases hlt:k < b
   ·have hlt':(k:Int) < b:=by omega
    obtain⟨S,R,h1,h2,h3,h4,h5⟩:=hr.out
    obtain⟨x,R',hR⟩:∃x R',R=x::R':=by
     cases R with
     | nil=>
      have e1:=h2.length_eq
      have e2:=HL.out.2.2
      have e3:=HL.out.2.1
      simp at e1 e2
      omega
     | cons x R'=>exact⟨x,R',rfl⟩
    subst hR
    have HO:=hid (And.intro h1 (And.intro h2 (And.intro h3 (And.intro h4 h5))))
    clear h1 h2 h3 h4 h5 hr
    obtain⟨wo,hwo⟩:∃W,W=wr:=⟨_,rfl⟩
    subst hwo
    go_wp2
    go_loopw [9] (fun j wr=>∃p:Nat,a≤p∧p≤k∧j=.int .i64 p∧Hid (∃S1 S2,S1++S2=S∧a+S1.length=p∧(∀y∈S2,ltR x y=true)∧SAt base g ob wr cap (A++(S1++x::S2++R')++B)∧w.grownBy wr (some g))) (fun j _=>(intOf j).toNat)
    case atStart=>exact⟨k,by omega,by omega,rfl,S,[],by simp,HO.out.1,(fun y hy=>by simp at hy),by simpa using HO.out.2.2.2.1,HO.out.2.2.2.2⟩
    case round=>
     obtain⟨p,hp,hpk,rfl,hr⟩:=hrel
     by_cases hpa:p=a
     ·subst hpa
      go_wp2
      go_quiet (fail)
      go_wp2
      obtain⟨S1,S2,e1,e2,e3,e4,e5⟩:=hr.out
      obtain rfl:S1=[]:=List.eq_nil_of_length_eq_zero (by omega)
      obtain rfl:S2=S:=e1
      refine⟨⟨k+1,by omega,by omega,by go_num,[]++x::S2,R',by have:=HO.out.1;simp;omega,perm_in (S1:=[]) HO.out.2.1,srt_in (S1:=[]) HO.out.2.2.1 (fun y hy=>by cases hy) e3,e4.drewN _,grown_drewN e5 _⟩,by simp[intOf];omega⟩
     ·obtain⟨q,rfl⟩:∃q,p=q+1:=⟨p - 1,by omega⟩
      have hd:(a:Int) < (q:Int)+1:=by omega
      obtain⟨S1,S2,e1,e2,e3,e4,e5⟩:=hr.out
      obtain⟨T,y,rfl⟩:∃T y,S1=T++[y]:=by
       rcases List.eq_nil_or_concat S1 with h | ⟨T,y,h⟩
       ·rw[h] at e2;simp at e2;omega
       ·exact⟨T,y,by simpa using h⟩
      have hq:a+T.length=q:=by simp at e2;omega
      have hAq:(A++T).length=q:=by have:=HL.out.2.1;simp;omega
      have eL:A++(T++[y]++x::S2++R')++B=(A++T)++y::x::(S2++R'++B):=by simp
      rw[eL] at e4
      have hn':((A++T)++y::x::(S2++R'++B)).length=n:=by
       have h1:=HO.out.2.1.length_eq
       have h2:=HL.out.1
       rw[← e1] at h1
       simp at h1 h2 ⊢
       omega
      have hqn:q+1 < n:=by rw[← hn',← hAq];simp;omega
      have hqn1:(q:Int)+1 < n:=by omega
      have hqn2:(q:Int) < n:=by omega
      have gq:((A++T)++y::x::(S2++R'++B))[q]'(by omega)=y:=by
       subst hAq
       exact get_mid _ _ _ _
      have gq1:((A++T)++y::x::(S2++R'++B))[q+1]'(by omega)=x:=by
       subst hAq
       exact get_mid1 _ _ _ _ _
      obtain⟨ay,ny,cy,vy,y0,y1,y2⟩:=e4.get (i:=q) (by omega)
      obtain⟨ax,nx,cx,vx,x0,x1,x2⟩:=e4.get (i:=q+1) (by omega)
      rw[gq] at vy y0 y2
      rw[gq1] at vx x0 x2
      have HC:Hid (∀W,Below wr.heap.size wr W→Calls Tryz.prog 254 #[.agg #[.int .i64 x.1.step,.slice ax nx cx,.int .i64 x.1.first],.agg #[.int .i64 y.1.step,.slice ay ny cy,.int .i64 y.1.first],.pointer (some ⟨ob,0,none⟩)] W fun e w'=>e=.returned (.int .i64 (En.cmpR x.1 y.1))∧Below W.heap.size W w'):=fun W hW=>by
       have:=(e4.below hW).cmp (i:=q+1) (j:=q) (by omega) (by omega)
       rw[gq,gq1] at this
       unfold rval at this
       rw[vx,vy] at this
       exact this
      have HI:=hid (And.intro e1 (And.intro e3 (And.intro e4 (And.intro e5 (And.intro hq (And.intro vx (And.intro vy hAq)))))))
      have hfz:=e4.frozen
      clear e1 e2 e3 e4 e5 hq eL hAq gq gq1 vx vy hr
      have hgl:g < wr.heap.size:=by obtain⟨-,cur,hg⟩:=HI.out.2.2.1.blk;exact lt_of_block hg
      have ej:((q+1:Nat):Int)=(q:Int)+1:=by omega
      have hq0:(0:Int)≤(q:Int)+1:=by omega
      have hq1:(0:Int)≤(q:Int):=by omega
      have hw2:IntKind.i64.wrap (q:Int)=q:=wrap_small (by omega) (by omega)
      have hw1:IntKind.i64.wrap ((q:Int)+1 - 1)=q:=by rw[show (q:Int)+1 - 1=q by omega];exact hw2
      rw[ej]
      by_cases hc:En.cmpR x.1 y.1 < 0
      ·have HCC:=hid hc
       go_wp2
       go_region_held3 (fun W=>W.cell? ⟨g,q * 3,none⟩=some (.int .i64 y.1.step)∧W.cell? ⟨g,q * 3+1,none⟩=some (.slice ay ny cy)∧W.cell? ⟨g,q * 3+2,none⟩=some (.int .i64 y.1.first)∧W.cell? ⟨g,(q+1) * 3,none⟩=some (.int .i64 x.1.step)∧W.cell? ⟨g,(q+1) * 3+1,none⟩=some (.slice ax nx cx)∧W.cell? ⟨g,(q+1) * 3+2,none⟩=some (.int .i64 x.1.first)) (go_keep) ((go_at_call 254;refine (HC.out _ (by first | exact bel_drewN (Below.refl _ _) _ | exact Below.drew (Below.refl _ _) | exact Below.refl _ _)).mono ?_;rintro e w1 ⟨rfl,hb1⟩;have z0:=(cell_bel hb1 ⟨g,q * 3,none⟩ hgl).trans y0;have z1:=(cell_bel hb1 ⟨g,q * 3+1,none⟩ hgl).trans y1;have z2:=(cell_bel hb1 ⟨g,q * 3+2,none⟩ hgl).trans y2;have z3:=(cell_bel hb1 ⟨g,(q+1) * 3,none⟩ hgl).trans x0;have z4:=(cell_bel hb1 ⟨g,(q+1) * 3+1,none⟩ hgl).trans x1;have z5:=(cell_bel hb1 ⟨g,(q+1) * 3+2,none⟩ hgl).trans x2;have H1:=hid hb1;clear hb1))
       have HB1:Hid (Below wr.heap.size wr w1):=hid (by first | exact H1.out | exact (bel_drewN (Below.refl _ _) _).trans H1.out | exact (Below.drew (Below.refl _ _)).trans H1.out)
       have HS1:=hid (HI.out.2.2.1.below HB1.out)
       have hfz1:=HS1.out.frozen
       have g0:=hfz1 (q * 3)
       have g1:=hfz1 (q * 3+1)
       have g2:=hfz1 (q * 3+2)
       have g3:=hfz1 ((q+1) * 3)
       have g4:=hfz1 ((q+1) * 3+1)
       have g5:=hfz1 ((q+1) * 3+2)
       have k0:=cell_put w1 g (q * 3) ((q+1) * 3) _ z0
       have k1:=cell_put _ g (q * 3+1) ((q+1) * 3+1) _ (cell_keep w1 g (q * 3+1) ((q+1) * 3) (.int .i64 y.1.step) _ (by omega) z1)
       have k2:=cell_put _ g (q * 3+2) ((q+1) * 3+2) _ (cell_keep _ g (q * 3+2) ((q+1) * 3+1) (.slice ay ny cy) _ (by omega) (cell_keep w1 g (q * 3+2) ((q+1) * 3) (.int .i64 y.1.step) _ (by omega) z2))
       clear hfz hfz1 y0 y1 y2 x0 x1 x2
       go_wp2
       go_region
       all_goals
        go_wp2
        have hsw:=(HS1.out.swap HI.out.2.2.2.2.2.2.2).drew
        rw[HI.out.2.2.2.2.2.1,HI.out.2.2.2.2.2.2.1] at hsw
        have hgw:=grown_drew (grown_trans (grown_trans HI.out.2.2.2.1 (grown_below HB1.out (some g))) (grown_trans (put3_grown w1 g (q+1) (.int .i64 y.1.step) (.slice ay ny cy) (.int .i64 y.1.first)) (put3_grown _ g q (.int .i64 x.1.step) (.slice ax nx cx) (.int .i64 x.1.first))))
        refine⟨⟨q,by have:=HI.out.2.2.2.2.1;omega,by omega,rfl,T,y::S2,by have:=HI.out.1;simpa using this,HI.out.2.2.2.2.1,?_,?_,hgw⟩,by simp[intOf]⟩
        ·intro z hz
         rcases List.mem_cons.1 hz with rfl | hz
         ·exact decide_eq_true HCC.out
         ·exact HI.out.2.1 z hz
        ·have eL:A++(T++x::(y::S2)++R')++B=(A++T)++x::y::(S2++R'++B):=by simp
         rw[eL]
         exact hsw
      ·have hc':decide (En.cmpR x.1 y.1 < 0)=false:=decide_eq_false hc
       have HCC:=hid hc
       clear hc
       go_wp2
       go_region_held3 (fun W=>W.cell? ⟨g,q * 3,none⟩=some (.int .i64 y.1.step)∧W.cell? ⟨g,q * 3+1,none⟩=some (.slice ay ny cy)∧W.cell? ⟨g,q * 3+2,none⟩=some (.int .i64 y.1.first)∧W.cell? ⟨g,(q+1) * 3,none⟩=some (.int .i64 x.1.step)∧W.cell? ⟨g,(q+1) * 3+1,none⟩=some (.slice ax nx cx)∧W.cell? ⟨g,(q+1) * 3+2,none⟩=some (.int .i64 x.1.first)) (go_keep) ((go_at_call 254;refine (HC.out _ (by first | exact bel_drewN (Below.refl _ _) _ | exact Below.drew (Below.refl _ _) | exact Below.refl _ _)).mono ?_;rintro e w1 ⟨rfl,hb1⟩;have z0:=(cell_bel hb1 ⟨g,q * 3,none⟩ hgl).trans y0;have z1:=(cell_bel hb1 ⟨g,q * 3+1,none⟩ hgl).trans y1;have z2:=(cell_bel hb1 ⟨g,q * 3+2,none⟩ hgl).trans y2;have z3:=(cell_bel hb1 ⟨g,(q+1) * 3,none⟩ hgl).trans x0;have z4:=(cell_bel hb1 ⟨g,(q+1) * 3+1,none⟩ hgl).trans x1;have z5:=(cell_bel hb1 ⟨g,(q+1) * 3+2,none⟩ hgl).trans x2;have H1:=hid hb1;clear hb1))
       have HB1:Hid (Below wr.heap.size wr w1):=hid (by first | exact H1.out | exact (bel_drewN (Below.refl _ _) _).trans H1.out | exact (Below.drew (Below.refl _ _)).trans H1.out)
       go_wp2
       have hS:=HI.out.2.2.1.below HB1.out
       have eL:(A++T)++y::x::(S2++R'++B)=A++((T++[y])++x::S2++R')++B:=by simp
       rw[eL] at hS
       have hp2:=HO.out.2.1
       have hs2:=HO.out.2.2.1
       have hl2:=HO.out.1
       rw[← HI.out.1] at hp2 hs2 hl2
       refine⟨⟨k+1,by omega,by omega,by go_num,(T++[y])++x::S2,R',by simp at hl2 ⊢;omega,perm_in hp2,srt_in hs2 (fun z hz=>?_) HI.out.2.1,hS,grown_trans HI.out.2.2.2.1 (grown_below HB1.out (some g))⟩,by simp[intOf];omega⟩
       simp at hz
       subst hz
       have:=HCC.out
       exact decide_eq_false (by omega)
   ·obtain rfl:k=b:=by omega
    go_wp2
    go_end0
    obtain⟨S,R,h1,h2,h3,h4,h5⟩:=hr.out
    have hR:R=[]:=by
     have e1:=h2.length_eq
     have e2:=HL.out.2.2
     have e3:=HL.out.2.1
     simp at e1 e2
     exact List.eq_nil_of_length_eq_zero (by omega)
    subst hR
    rw[List.append_nil] at h2 h4
    exact⟨rfl,S,h2,h3,h4,h5⟩
def TurnEnd (base g ob cap:Nat)(L:List RV)(w:World)(e:Ending)(w':World):Prop:=
 e=.returned (.tuple #[])∧SAt base g ob w' cap L∧w.grownBy w' (some g)
def SymEnd (base g ob cap:Nat)(X U V Z:List RV)(w:World)(e:Ending)(w':World):Prop:=
 e=.returned (.tuple #[])∧∃M,M.Perm (U++V)∧Sm.Srt ltR M∧SAt base g ob w' cap (X++M++Z)∧w.grownBy w' (some g)
end Go.Proofs.YtfldcmdhneegmaaGreatDoor

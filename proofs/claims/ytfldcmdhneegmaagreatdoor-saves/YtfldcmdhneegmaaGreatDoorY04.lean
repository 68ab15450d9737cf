import Derived.Test.YtfldcmdhneegmaaGreatDoorY03
import Derived.Deep.RegionHeld3
set_option maxHeartbeats 4000000
set_option maxRecDepth 1000000
namespace Go.Proofs.YtfldcmdhneegmaaGreatDoor
open Go.RowKit Go.Lib
def I64 (w:World)(i:Nat):Prop:=∃c fz,w.heap[i]?=some (.cells c 3 fz)
structure SAt (base g ob:Nat)(w:World)(cap:Nat)(l:List RV):Prop where
 row:w.ownsRow base 164 3 (.slice (some ⟨g,0,none⟩) l.length cap) l.length (runCells l)
 ord:OrdAt w ob
 offs:∀x∈l,IntsAt (I64 w) w x.2 x.1.offs
theorem IntsAt.onI {w w':World}{v:Value}{xs:List Int}(h:IntsAt (I64 w) w v xs)(hi:∀i,I64 w i→w'.heap[i]?=w.heap[i]?)(hs:w.heap.size≤w'.heap.size):IntsAt (I64 w') w' v xs:=
 RowAt.mono (RowAt.frame h hs (fun b _ hb=>hi b hb)) (fun b _ hb=>by obtain⟨c,fz,h⟩:=hb;exact⟨c,fz,(hi b ⟨c,fz,h⟩).trans h⟩)
theorem SAt.blk {base g ob:Nat}{w:World}{cap:Nat}{l:List RV}(h:SAt base g ob w cap l):base≤g∧∃cur,w.heap[g]?=some (.cells cur 164 (0,0)):=by
 rcases h.row.2 with ⟨he,-⟩ | ⟨g',cap',cur,he,hb,hg,-⟩
 ·cases he
 ·cases he
  exact⟨hb,cur,hg⟩
theorem SAt.ne {base g ob:Nat}{w:World}{cap:Nat}{l:List RV}(h:SAt base g ob w cap l){i:Nat}{c:Array Value}{t:TypeId}{fz:Nat × Nat}(hi:w.heap[i]?=some (.cells c t fz))(ht:t≠164):some i≠some g:=fun e=>by
 injection e with e
 subst e
 obtain⟨-,cur,hg⟩:=h.blk
 rw[hg] at hi
 cases hi
 exact ht rfl
theorem OrdAt.grown {w w':World}{ob g:Nat}(h:OrdAt w ob)(hg:w.grownBy w' (some g))(hn:∀(i:Nat) (c:Array Value) (t:TypeId) (fz:Nat × Nat),w.heap[i]?=some (.cells c t fz)→t≠164→some i≠some g):OrdAt w' ob:=by
 obtain⟨sb,h1,h2⟩:=h
 exact⟨sb,(hg.block _ (lt_of_block h1) (hn _ _ _ _ h1 (by decide))).trans h1,(hg.block _ (lt_of_block h2) (hn _ _ _ _ h2 (by decide))).trans h2⟩
theorem SAt.turn {base g ob:Nat}{w w':World}{cap:Nat}{l l':List RV}(h:SAt base g ob w cap l)(hg:w.grownBy w' (some g))(hl:∀x∈l',x∈l)(hr:w'.ownsRow base 164 3 (.slice (some ⟨g,0,none⟩) l'.length cap) l'.length (runCells l')):SAt base g ob w' cap l':=
 ⟨hr,h.ord.grown hg (fun _ _ _ _ hi ht=>h.ne hi ht),fun x hx=>(h.offs x (hl x hx)).onI (fun i ⟨_,_,hi⟩=>hg.block i (lt_of_block hi) (h.ne hi (by decide))) hg.size⟩
theorem SAt.below {base g ob:Nat}{w w':World}{cap:Nat}{l:List RV}(h:SAt base g ob w cap l)(hb:Below w.heap.size w w'):SAt base g ob w' cap l:=
 ⟨own_below h.row hb,h.ord.below hb,fun x hx=>(h.offs x hx).onI (fun i ⟨_,_,hi⟩=>hb.block i (lt_of_block hi)) hb.size⟩
theorem grown_below {w w':World}(hb:Below w.heap.size w w')(r:Option Nat):w.grownBy w' r:=⟨hb.os,hb.tape,hb.output,hb.size,fun k hk _=>hb.block k hk⟩
theorem SAt.get {base g ob:Nat}{w:World}{cap:Nat}{l:List RV}(h:SAt base g ob w cap l){i:Nat}(hi:i < l.length):∃a n c,l[i].2=.slice a n c∧w.cell? ⟨g,i * 3,none⟩=some (.int .i64 l[i].1.step)∧w.cell? ⟨g,i * 3+1,none⟩=some (.slice a n c)∧w.cell? ⟨g,i * 3+2,none⟩=some (.int .i64 l[i].1.first):=by
 have hR:RunsAt (fun _=>True) w (.slice (some ⟨g,0,none⟩) l.length cap) l:=⟨(RowAt.ofOwn h.row).mono (fun _ _ _=>trivial),fun x hx=>RowAt.mono (h.offs x hx) (fun _ _ _=>trivial)⟩
 obtain⟨b,o,he,-,c0,c1,c2⟩:=hR.get hi
 cases he
 obtain⟨a,c,hv,-⟩:=RowAt.slice (h.offs l[i] (List.getElem_mem hi))
 rw[hv] at c1
 simp only[Nat.zero_add] at c0 c1 c2
 exact⟨a,_,c,hv,c0,c1,c2⟩
theorem SAt.frozen {base g ob:Nat}{w:World}{cap:Nat}{l:List RV}(h:SAt base g ob w cap l)(k:Nat):w.frozen? ⟨g,k,none⟩=false:=by
 obtain⟨-,cur,hg⟩:=h.blk
 simp[World.frozen?,hg]
theorem runCells_set (l:List RV)(i:Nat)(x:RV):(((runCells l).set (i * 3) (.int .i64 x.1.step)).set (i * 3+1) x.2).set (i * 3+2) (.int .i64 x.1.first)=runCells (l.set i x):=by
 induction l generalizing i with
 | nil=>simp[runCells]
 | cons y t ih=>
  cases i with
  | zero=>simp[runCells]
  | succ i=>
   have e1:(i+1) * 3=i * 3+1+1+1:=by omega
   have:=ih i
   simp only[runCells,List.flatMap_cons,List.set_cons_succ] at this ⊢
   rw[e1]
   simp only[List.cons_append,List.nil_append,List.set_cons_succ]
   rw[this]
def put3 (w:World)(g i:Nat)(x y z:Value):World:=((w.setCell ⟨g,i * 3,none⟩ x).setCell ⟨g,i * 3+1,none⟩ y).setCell ⟨g,i * 3+2,none⟩ z
theorem put3_grown (w:World)(g i:Nat)(x y z:Value):w.grownBy (put3 w g i x y z) (some g):=grown_trans (grown_trans (grown_set w g _ _) (grown_set _ g _ _)) (grown_set _ g _ _)
theorem SAt.put {base g ob:Nat}{w:World}{cap:Nat}{l:List RV}(h:SAt base g ob w cap l)(i:Nat)(x:RV)(hx:x∈l):SAt base g ob (put3 w g i (.int .i64 x.1.step) x.2 (.int .i64 x.1.first)) cap (l.set i x):=by
 refine h.turn (put3_grown _ _ _ _ _ _) (fun y hy=>?_) ?_
 ·rcases List.mem_or_eq_of_mem_set hy with h | h
  ·exact h
  ·rw[h];exact hx
 ·have h1:=own_write h.row (i * 3) (.int .i64 x.1.step)
  have h2:=own_write h1 (i * 3+1) x.2
  have h3:=own_write h2 (i * 3+2) (.int .i64 x.1.first)
  rw[runCells_set] at h3
  rw[List.length_set]
  exact h3
theorem SAt.cmp {base g ob:Nat}{w:World}{cap:Nat}{l:List RV}(h:SAt base g ob w cap l){i j:Nat}(hi:i < l.length)(hj:j < l.length) :
  Calls Tryz.prog 254 #[rval l[i],rval l[j],.pointer (some ⟨ob,0,none⟩)] w fun e w'=>e=.returned (.int .i64 (En.cmpR l[i].1 l[j].1))∧Below w.heap.size w w':=
 inTurn1_any _ _ ob l[i] l[j] w h.ord (h.offs _ (List.getElem_mem hi)) (h.offs _ (List.getElem_mem hj))
theorem wrap_small {x:Int}(h1:-9223372036854775808≤x)(h2:x≤9223372036854775807):IntKind.i64.wrap x=x:=by
 simp[IntKind.wrap,IntKind.bits,IntKind.signed]
 omega
theorem swap_mid {α:Type}(X:List α)(y x:α)(Z:List α):((X++y::x::Z).set (X.length+1) y).set X.length x=X++x::y::Z:=by
 rw[List.set_append_right _ _ (by omega),List.set_append_right _ _ (by omega)]
 simp
theorem SAt.swap {base g ob:Nat}{w:World}{cap:Nat}{X Z:List RV}{x y:RV}{q:Nat}(h:SAt base g ob w cap (X++y::x::Z))(hq:X.length=q):SAt base g ob (put3 (put3 w g (q+1) (.int .i64 y.1.step) y.2 (.int .i64 y.1.first)) g q (.int .i64 x.1.step) x.2 (.int .i64 x.1.first)) cap (X++x::y::Z):=by
 have h1:=h.put (q+1) y (by simp)
 have hx:x∈(X++y::x::Z).set (q+1) y∨x∈X++y::x::Z:=Or.inr (by simp)
 subst hq
 have h2:SAt base g ob (put3 (put3 w g (X.length+1) (.int .i64 y.1.step) y.2 (.int .i64 y.1.first)) g X.length (.int .i64 x.1.step) x.2 (.int .i64 x.1.first)) cap (((X++y::x::Z).set (X.length+1) y).set X.length x):=by
  refine h.turn (grown_trans (put3_grown _ _ _ _ _ _) (put3_grown _ _ _ _ _ _)) (fun z hz=>?_) ?_
  ·rw[swap_mid] at hz
   simp at hz ⊢
   rcases hz with h | h | h | h
   ·exact Or.inl h
   ·exact Or.inr (Or.inr (Or.inl h))
   ·exact Or.inr (Or.inl h)
   ·exact Or.inr (Or.inr (Or.inr h))
  ·have r1:=own_write h1.row (X.length * 3) (.int .i64 x.1.step)
   have r2:=own_write r1 (X.length * 3+1) x.2
   have r3:=own_write r2 (X.length * 3+2) (.int .i64 x.1.first)
   rw[runCells_set] at r3
   rw[List.length_set]
   exact r3
 rw[swap_mid] at h2
 exact h2
theorem get_mid1 {α:Type}(X:List α)(y x:α)(Y:List α)(h:X.length+1 < (X++y::x::Y).length):(X++y::x::Y)[X.length+1]=x:=by
 have:(X++y::x::Y)[X.length+1]?=some x:=by rw[List.getElem?_append_right (by omega)];simp
 rw[List.getElem?_eq_getElem h] at this
 exact Option.some.inj this
theorem SAt.drewN {base g ob:Nat}{w:World}{cap:Nat}{l:List RV}(h:SAt base g ob w cap l)(q:Nat):SAt base g ob (w.drewN q) cap l:=⟨h.row,h.ord,h.offs⟩
theorem SAt.drew {base g ob:Nat}{w:World}{cap:Nat}{l:List RV}(h:SAt base g ob w cap l):SAt base g ob w.drew cap l:=⟨h.row,h.ord,h.offs⟩
theorem srt_in {S1 S2:List RV}{x:RV}(h:Sm.Srt ltR (S1++S2))(h1:∀y,S1.getLast?=some y→ltR x y=false)(h2:∀y∈S2,ltR x y=true):Sm.Srt ltR (S1++x::S2):=
 Sm.one_in ltR_wk h h1 (fun y hy=>ltR_wk.asym _ _ (h2 y (List.mem_of_mem_head? hy)))
theorem perm_in {α:Type}{S1 S2 R:List α}{x:α}{M:List α}(h:(S1++S2++x::R).Perm M):(S1++x::S2++R).Perm M:=by
 refine List.Perm.trans ?_ h
 rw[List.append_assoc,List.append_assoc]
 refine List.Perm.append_left S1 ?_
 exact (List.perm_middle (a:=x) (l₁:=S2) (l₂:=R)).symm
theorem get_mid {α:Type}(X:List α)(x:α)(Y:List α)(h:X.length < (X++x::Y).length):(X++x::Y)[X.length]=x:=by simp
def SortEnd (base g ob cap:Nat)(A M B:List RV)(w:World)(e:Ending)(w':World):Prop:=
 e=.returned (.tuple #[])∧∃M',M'.Perm M∧Sm.Srt ltR M'∧SAt base g ob w' cap (A++M'++B)∧w.grownBy w' (some g)
theorem insertR_any (base g ob cap:Nat)(A M B:List RV)(w:World)(h:SAt base g ob w cap (A++M++B))(hm:(A++M++B).length≤1000000) :
  Calls Tryz.prog 257 #[.slice (some ⟨g,0,none⟩) (A++M++B).length cap,.int .i64 A.length,.int .i64 (A.length+M.length:Nat),.func (.func 254) #[] #[.pointer (some ⟨ob,0,none⟩)]] w (SortEnd base g ob cap A M B w):=by
 obtain⟨n,hn⟩:∃n,(A++M++B).length=n:=⟨_,rfl⟩
 obtain⟨a,ha⟩:∃a,A.length=a:=⟨_,rfl⟩
 obtain⟨b,hb⟩:∃b,A.length+M.length=b:=⟨_,rfl⟩
 have hbn:b≤n:=by rw[← hn,← hb];simp
 have hab:a≤b:=by omega
 rw[hn,hb,ha]
 rw[hn] at hm
 have HL:=hid (And.intro hn (And.intro ha hb))
 have HS:=hid h
 clear h hn ha hb
 cases M with
 | nil=>
  have hlt:decide ((a:Int)+1 < (b:Int))=false:=decide_eq_false (by have:=HL.out.2.1;have:=HL.out.2.2;simp at this;omega)
  go_enter Tryz.func257,Tryz.ntmps257
  go_wp2
  refine wp_loop_rounds 1 ?_
  rw[rounds_succ]
  go_wp2
  go_end0
  exact⟨rfl,[],List.Perm.refl _,List.Pairwise.nil,HS.out,grown_refl _ _⟩
 | cons m0 M0=>
  go_enter Tryz.func257,Tryz.ntmps257
  go_wp2
  go_loopw [8] (fun i wr=>∃k:Nat,k≤b∧a < k∧i=.int .i64 k∧Hid (∃S R,a+S.length=k∧(S++R).Perm (m0::M0)∧Sm.Srt ltR S∧SAt base g ob wr cap (A++(S++R)++B)∧w.grownBy wr (some g))) (fun i _=>b - (intOf i).toNat)
  case atStart=>exact⟨a+1,by have:=HL.out.2.1;have:=HL.out.2.2;simp at this;omega,by omega,by go_num,[m0],M0,rfl,List.Perm.refl _,List.pairwise_singleton _ _,HS.out,grown_refl _ _⟩
  case round=>
   obtain⟨k,hk,hak,rfl,hr⟩:=hrel
   by_cases hlt:k < b
   ·have hlt':(k:Int) < b:=by omega
    obtain⟨S,R,h1,h2,h3,h4,h5⟩:=hr.out
    obtain⟨x,R',hR⟩:∃x R',R=x::R':=by
     cases R with
     | nil=>
      have e1:=h2.length_eq
      have e2:=HL.out.2.2
      have e3:=HL.out.2.1
      simp at e1 e2
      omega
     | cons x R'=>exact⟨x,R',rfl⟩
    subst hR
    have HO:=hid (And.intro h1 (And.intro h2 (And.intro h3 (And.intro h4 h5))))
    clear h1 h2 h3 h4 h5 hr
    obtain⟨wo,hwo⟩:∃W,W=wr:=⟨_,rfl⟩
    subst hwo
    go_wp2
    go_loopw [9] (fun j wr=>∃p:Nat,a≤p∧p≤k∧j=.int .i64 p∧Hid (∃S1 S2,S1++S2=S∧a+S1.length=p∧(∀y∈S2,ltR x y=true)∧SAt base g ob wr cap (A++(S1++x::S2++R')++B)∧w.grownBy wr (some g))) (fun j _=>(intOf j).toNat)
    case atStart=>exact⟨k,by omega,by omega,rfl,S,[],by simp,HO.out.1,(fun y hy=>by simp at hy),by simpa using HO.out.2.2.2.1,HO.out.2.2.2.2⟩
    case round=>
     obtain⟨p,hp,hpk,rfl,hr⟩:=hrel
     by_cases hpa:p=a
     ·subst hpa
      go_wp2
      go_quiet (fail)
      go_wp2
      obtain⟨S1,S2,e1,e2,e3,e4,e5⟩:=hr.out
      obtain rfl:S1=[]:=List.eq_nil_of_length_eq_zero (by omega)
      obtain rfl:S2=S:=e1
      refine⟨⟨k+1,by omega,by omega,by go_num,[]++x::S2,R',by have:=HO.out.1;simp;omega,perm_in (S1:=[]) HO.out.2.1,srt_in (S1:=[]) HO.out.2.2.1 (fun y hy=>by cases hy) e3,e4.drewN _,grown_drewN e5 _⟩,by simp[intOf];omega⟩
     ·obtain⟨q,rfl⟩:∃q,p=q+1:=⟨p - 1,by omega⟩
      have hd:(a:Int) < (q:Int)+1:=by omega
      obtain⟨S1,S2,e1,e2,e3,e4,e5⟩:=hr.out
      obtain⟨T,y,rfl⟩:∃T y,S1=T++[y]:=by
       rcases List.eq_nil_or_concat S1 with h | ⟨T,y,h⟩
       ·rw[h] at e2;simp at e2;omega
       ·exact⟨T,y,by simpa using h⟩
      have hq:a+T.length=q:=by simp at e2;omega
      have hAq:(A++T).length=q:=by have:=HL.out.2.1;simp;omega
      have eL:A++(T++[y]++x::S2++R')++B=(A++T)++y::x::(S2++R'++B):=by simp
      rw[eL] at e4
      have hn':((A++T)++y::x::(S2++R'++B)).length=n:=by
       have h1:=HO.out.2.1.length_eq
       have h2:=HL.out.1
       rw[← e1] at h1
       simp at h1 h2 ⊢
       omega
      have hqn:q+1 < n:=by rw[← hn',← hAq];simp;omega
      have hqn1:(q:Int)+1 < n:=by omega
      have hqn2:(q:Int) < n:=by omega
      have gq:((A++T)++y::x::(S2++R'++B))[q]'(by omega)=y:=by
       subst hAq
       exact get_mid _ _ _ _
      have gq1:((A++T)++y::x::(S2++R'++B))[q+1]'(by omega)=x:=by
       subst hAq
       exact get_mid1 _ _ _ _ _
      obtain⟨ay,ny,cy,vy,y0,y1,y2⟩:=e4.get (i:=q) (by omega)
      obtain⟨ax,nx,cx,vx,x0,x1,x2⟩:=e4.get (i:=q+1) (by omega)
      rw[gq] at vy y0 y2
      rw[gq1] at vx x0 x2
      have HC:Hid (∀W,Below wr.heap.size wr W→Calls Tryz.prog 254 #[.agg #[.int .i64 x.1.step,.slice ax nx cx,.int .i64 x.1.first],.agg #[.int .i64 y.1.step,.slice ay ny cy,.int .i64 y.1.first],.pointer (some ⟨ob,0,none⟩)] W fun e w'=>e=.returned (.int .i64 (En.cmpR x.1 y.1))∧Below W.heap.size W w'):=fun W hW=>by
       have:=(e4.below hW).cmp (i:=q+1) (j:=q) (by omega) (by omega)
       rw[gq,gq1] at this
       unfold rval at this
       rw[vx,vy] at this
       exact this
      have HI:=hid (And.intro e1 (And.intro e3 (And.intro e4 (And.intro e5 (And.intro hq (And.intro vx (And.intro vy hAq)))))))
      have hfz:=e4.frozen
      clear e1 e2 e3 e4 e5 hq eL hAq gq gq1 vx vy hr
      have hgl:g < wr.heap.size:=by obtain⟨-,cur,hg⟩:=HI.out.2.2.1.blk;exact lt_of_block hg
      have ej:((q+1:Nat):Int)=(q:Int)+1:=by omega
      have hq0:(0:Int)≤(q:Int)+1:=by omega
      have hq1:(0:Int)≤(q:Int):=by omega
      have hw2:IntKind.i64.wrap (q:Int)=q:=wrap_small (by omega) (by omega)
      have hw1:IntKind.i64.wrap ((q:Int)+1 - 1)=q:=by rw[show (q:Int)+1 - 1=q by omega];exact hw2
      rw[ej]
      by_cases hc:En.cmpR x.1 y.1 < 0
      ·have HCC:=hid hc
       go_wp2
       go_region_held3 (fun W=>W.cell? ⟨g,q * 3,none⟩=some (.int .i64 y.1.step)∧W.cell? ⟨g,q * 3+1,none⟩=some (.slice ay ny cy)∧W.cell? ⟨g,q * 3+2,none⟩=some (.int .i64 y.1.first)∧W.cell? ⟨g,(q+1) * 3,none⟩=some (.int .i64 x.1.step)∧W.cell? ⟨g,(q+1) * 3+1,none⟩=some (.slice ax nx cx)∧W.cell? ⟨g,(q+1) * 3+2,none⟩=some (.int .i64 x.1.first)) (go_keep) ((go_at_call 254;refine (HC.out _ (by first | exact bel_drewN (Below.refl _ _) _ | exact Below.drew (Below.refl _ _) | exact Below.refl _ _)).mono ?_;rintro e w1 ⟨rfl,hb1⟩;have z0:=(cell_bel hb1 ⟨g,q * 3,none⟩ hgl).trans y0;have z1:=(cell_bel hb1 ⟨g,q * 3+1,none⟩ hgl).trans y1;have z2:=(cell_bel hb1 ⟨g,q * 3+2,none⟩ hgl).trans y2;have z3:=(cell_bel hb1 ⟨g,(q+1) * 3,none⟩ hgl).trans x0;have z4:=(cell_bel hb1 ⟨g,(q+1) * 3+1,none⟩ hgl).trans x1;have z5:=(cell_bel hb1 ⟨g,(q+1) * 3+2,none⟩ hgl).trans x2;have H1:=hid hb1;clear hb1))
       have HB1:Hid (Below wr.heap.size wr w1):=hid (by first | exact H1.out | exact (bel_drewN (Below.refl _ _) _).trans H1.out | exact (Below.drew (Below.refl _ _)).trans H1.out)
       have HS1:=hid (HI.out.2.2.1.below HB1.out)
       have hfz1:=HS1.out.frozen
       have g0:=hfz1 (q * 3)
       have g1:=hfz1 (q * 3+1)
       have g2:=hfz1 (q * 3+2)
       have g3:=hfz1 ((q+1) * 3)
       have g4:=hfz1 ((q+1) * 3+1)
       have g5:=hfz1 ((q+1) * 3+2)
       have k0:=cell_put w1 g (q * 3) ((q+1) * 3) _ z0
       have k1:=cell_put _ g (q * 3+1) ((q+1) * 3+1) _ (cell_keep w1 g (q * 3+1) ((q+1) * 3) (.int .i64 y.1.step) _ (by omega) z1)
       have k2:=cell_put _ g (q * 3+2) ((q+1) * 3+2) _ (cell_keep _ g (q * 3+2) ((q+1) * 3+1) (.slice ay ny cy) _ (by omega) (cell_keep w1 g (q * 3+2) ((q+1) * 3) (.int .i64 y.1.step) _ (by omega) z2))
       clear hfz hfz1 y0 y1 y2 x0 x1 x2
       go_wp2
       go_region
       all_goals
        go_wp2
        have hsw:=(HS1.out.swap HI.out.2.2.2.2.2.2.2).drew
        rw[HI.out.2.2.2.2.2.1,HI.out.2.2.2.2.2.2.1] at hsw
        have hgw:=grown_drew (grown_trans (grown_trans HI.out.2.2.2.1 (grown_below HB1.out (some g))) (grown_trans (put3_grown w1 g (q+1) (.int .i64 y.1.step) (.slice ay ny cy) (.int .i64 y.1.first)) (put3_grown _ g q (.int .i64 x.1.step) (.slice ax nx cx) (.int .i64 x.1.first))))
        refine⟨⟨q,by have:=HI.out.2.2.2.2.1;omega,by omega,rfl,T,y::S2,by have:=HI.out.1;simpa using this,HI.out.2.2.2.2.1,?_,?_,hgw⟩,by simp[intOf]⟩
        ·intro z hz
         rcases List.mem_cons.1 hz with rfl | hz
         ·exact decide_eq_true HCC.out
         ·exact HI.out.2.1 z hz
        ·have eL:A++(T++x::(y::S2)++R')++B=(A++T)++x::y::(S2++R'++B):=by simp
         rw[eL]
         exact hsw
      ·have hc':decide (En.cmpR x.1 y.1 < 0)=false:=decide_eq_false hc
       have HCC:=hid hc
       clear hc
       go_wp2
       go_region_held3 (fun W=>W.cell? ⟨g,q * 3,none⟩=some (.int .i64 y.1.step)∧W.cell? ⟨g,q * 3+1,none⟩=some (.slice ay ny cy)∧W.cell? ⟨g,q * 3+2,none⟩=some (.int .i64 y.1.first)∧W.cell? ⟨g,(q+1) * 3,none⟩=some (.int .i64 x.1.step)∧W.cell? ⟨g,(q+1) * 3+1,none⟩=some (.slice ax nx cx)∧W.cell? ⟨g,(q+1) * 3+2,none⟩=some (.int .i64 x.1.first)) (go_keep) ((go_at_call 254;refine (HC.out _ (by first | exact bel_drewN (Below.refl _ _) _ | exact Below.drew (Below.refl _ _) | exact Below.refl _ _)).mono ?_;rintro e w1 ⟨rfl,hb1⟩;have z0:=(cell_bel hb1 ⟨g,q * 3,none⟩ hgl).trans y0;have z1:=(cell_bel hb1 ⟨g,q * 3+1,none⟩ hgl).trans y1;have z2:=(cell_bel hb1 ⟨g,q * 3+2,none⟩ hgl).trans y2;have z3:=(cell_bel hb1 ⟨g,(q+1) * 3,none⟩ hgl).trans x0;have z4:=(cell_bel hb1 ⟨g,(q+1) * 3+1,none⟩ hgl).trans x1;have z5:=(cell_bel hb1 ⟨g,(q+1) * 3+2,none⟩ hgl).trans x2;have H1:=hid hb1;clear hb1))
       have HB1:Hid (Below wr.heap.size wr w1):=hid (by first | exact H1.out | exact (bel_drewN (Below.refl _ _) _).trans H1.out | exact (Below.drew (Below.refl _ _)).trans H1.out)
       go_wp2
       have hS:=HI.out.2.2.1.below HB1.out
       have eL:(A++T)++y::x::(S2++R'++B)=A++((T++[y])++x::S2++R')++B:=by simp
       rw[eL] at hS
       have hp2:=HO.out.2.1
       have hs2:=HO.out.2.2.1
       have hl2:=HO.out.1
       rw[← HI.out.1] at hp2 hs2 hl2
       refine⟨⟨k+1,by omega,by omega,by go_num,(T++[y])++x::S2,R',by simp at hl2 ⊢;omega,perm_in hp2,srt_in hs2 (fun z hz=>?_) HI.out.2.1,hS,grown_trans HI.out.2.2.2.1 (grown_below HB1.out (some g))⟩,by simp[intOf];omega⟩
       simp at hz
       subst hz
       have:=HCC.out
       exact decide_eq_false (by omega)
   ·obtain rfl:k=b:=by omega
    go_wp2
    go_end0
    obtain⟨S,R,h1,h2,h3,h4,h5⟩:=hr.out
    have hR:R=[]:=by
     have e1:=h2.length_eq
     have e2:=HL.out.2.2
     have e3:=HL.out.2.1
     simp at e1 e2
     exact List.eq_nil_of_length_eq_zero (by omega)
    subst hR
    rw[List.append_nil] at h2 h4
    exact⟨rfl,S,h2,h3,h4,h5⟩
theorem swap_two {α:Type}(P:List α)(u:α)(Q:List α)(v:α)(R:List α):((P++u::(Q++v::R)).set P.length v).set (P.length+1+Q.length) u=P++v::(Q++u::R):=by
 rw[List.set_append_right _ _ (by omega),List.set_append_right _ _ (by omega)]
 have e:P.length+1+Q.length - P.length=Q.length+1:=by omega
 rw[e,Nat.sub_self]
 simp
theorem get_one {α:Type}(P:List α)(u:α)(R:List α){p:Nat}(hp:P.length=p)(h:p < (P++u::R).length):(P++u::R)[p]=u:=by subst hp;simp
theorem get_two {α:Type}(P:List α)(u:α)(Q:List α)(v:α)(R:List α){r:Nat}(hr:P.length+1+Q.length=r)(h:r < (P++u::(Q++v::R)).length):(P++u::(Q++v::R))[r]=v:=by
 subst hr
 have e:(P++u::(Q++v::R))[P.length+1+Q.length]?=some v:=by
  rw[List.getElem?_append_right (by omega)]
  have e2:P.length+1+Q.length - P.length=Q.length+1:=by omega
  rw[e2]
  simp
 rw[List.getElem?_eq_getElem h] at e
 exact Option.some.inj e
theorem SAt.swap2 {base g ob:Nat}{w:World}{cap:Nat}{P Q R:List RV}{u v:RV}{p r:Nat}(h:SAt base g ob w cap (P++u::(Q++v::R)))(hp:P.length=p)(hr:P.length+1+Q.length=r):SAt base g ob (put3 (put3 w g p (.int .i64 v.1.step) v.2 (.int .i64 v.1.first)) g r (.int .i64 u.1.step) u.2 (.int .i64 u.1.first)) cap (P++v::(Q++u::R)):=by
 have h1:=h.put p v (by simp)
 subst hp
 subst hr
 have h2:SAt base g ob (put3 (put3 w g P.length (.int .i64 v.1.step) v.2 (.int .i64 v.1.first)) g (P.length+1+Q.length) (.int .i64 u.1.step) u.2 (.int .i64 u.1.first)) cap (((P++u::(Q++v::R)).set P.length v).set (P.length+1+Q.length) u):=by
  refine h.turn (grown_trans (put3_grown _ _ _ _ _ _) (put3_grown _ _ _ _ _ _)) (fun z hz=>?_) ?_
  ·rw[swap_two] at hz
   simp at hz ⊢
   rcases hz with h | h | h | h | h
   ·exact Or.inl h
   ·exact Or.inr (Or.inr (Or.inr (Or.inl h)))
   ·exact Or.inr (Or.inr (Or.inl h))
   ·exact Or.inr (Or.inl h)
   ·exact Or.inr (Or.inr (Or.inr (Or.inr h)))
  ·have r1:=own_write h1.row ((P.length+1+Q.length) * 3) (.int .i64 u.1.step)
   have r2:=own_write r1 ((P.length+1+Q.length) * 3+1) u.2
   have r3:=own_write r2 ((P.length+1+Q.length) * 3+2) (.int .i64 u.1.first)
   rw[runCells_set] at r3
   rw[List.length_set]
   exact r3
 rw[swap_two] at h2
 exact h2
def TurnEnd (base g ob cap:Nat)(L:List RV)(w:World)(e:Ending)(w':World):Prop:=
 e=.returned (.tuple #[])∧SAt base g ob w' cap L∧w.grownBy w' (some g)
theorem swapR_any (base g ob cap:Nat)(X U Y V Z:List RV)(fv:Value)(w:World)(h:SAt base g ob w cap (X++U++Y++V++Z))(huv:U.length=V.length)(hm:(X++U++Y++V++Z).length≤1000000)(n a b m:Nat)(hn:(X++U++Y++V++Z).length=n)(ha:X.length=a)(hb:(X++U++Y).length=b)(hmU:U.length=m) :
  Calls Tryz.prog 277 #[.slice (some ⟨g,0,none⟩) n cap,.int .i64 a,.int .i64 b,.int .i64 m,fv] w (TurnEnd base g ob cap (X++V++Y++U++Z) w):=by
 rw[hn] at hm
 have HS:=hid (And.intro h (And.intro hn (And.intro ha (And.intro hb (And.intro hmU huv)))))
 have hbn:b+m≤n:=by rw[← hn,← hb,← hmU];simp;omega
 have ham:a+m≤b:=by rw[← ha,← hb,← hmU];simp
 clear h hn ha hb hmU huv
 go_enter Tryz.func277,Tryz.ntmps277
 go_wp2
 go_loopw [10] (fun i wr=>∃k:Nat,k≤m∧i=.int .i64 k∧Hid (∃U1 U2 V1 V2,U=U1++U2∧V=V1++V2∧U1.length=k∧V1.length=k∧SAt base g ob wr cap (X++(V1++U2)++Y++(U1++V2)++Z)∧w.grownBy wr (some g))) (fun i _=>m - (intOf i).toNat)
 case atStart=>exact⟨0,by omega,rfl,[],U,[],V,rfl,rfl,rfl,rfl,HS.out.1,grown_refl _ _⟩
 case round=>
  obtain⟨k,hk,rfl,hr⟩:=hrel
  by_cases hlt:k < m
  ·have hlt':(k:Int) < m:=by omega
   obtain⟨U1,U2,V1,V2,rfl,rfl,e1,e2,e3,e4⟩:=hr.out
   obtain⟨-,hn,ha,hb,hmU,huv⟩:=HS.out
   obtain⟨u,U2,rfl⟩:∃u T,U2=u::T:=by
    cases U2 with
    | nil=>simp at hmU;omega
    | cons u T=>exact⟨u,T,rfl⟩
   obtain⟨v,V2,rfl⟩:∃v T,V2=v::T:=by
    cases V2 with
    | nil=>simp at huv hmU;omega
    | cons v T=>exact⟨v,T,rfl⟩
   have eL:X++(V1++u::U2)++Y++(U1++v::V2)++Z=(X++V1)++u::((U2++Y++U1)++v::(V2++Z)):=by simp
   have eL2:(X++V1)++v::((U2++Y++U1)++u::(V2++Z))=X++((V1++[v])++U2)++Y++((U1++[u])++V2)++Z:=by simp
   rw[eL] at e3
   have hp:(X++V1).length=a+k:=by simp;omega
   have hr2:(X++V1).length+1+(U2++Y++U1).length=b+k:=by simp at hb huv hmU ⊢;omega
   have hn':((X++V1)++u::((U2++Y++U1)++v::(V2++Z))).length=n:=by simp at hn huv ⊢;omega
   have gu:=get_one (X++V1) u ((U2++Y++U1)++v::(V2++Z)) hp (by omega)
   have gv:=get_two (X++V1) u (U2++Y++U1) v (V2++Z) hr2 (by omega)
   obtain⟨au,nu,cu,vu,u0,u1,u2⟩:=e3.get (i:=a+k) (by omega)
   obtain⟨av,nv,cv,vv,v0,v1,v2⟩:=e3.get (i:=b+k) (by omega)
   rw[gu] at vu u0 u2
   rw[gv] at vv v0 v2
   have hfz:=e3.frozen
   have f0:=hfz ((a+k) * 3)
   have f1:=hfz ((a+k) * 3+1)
   have f2:=hfz ((a+k) * 3+2)
   have f3:=hfz ((b+k) * 3)
   have f4:=hfz ((b+k) * 3+1)
   have f5:=hfz ((b+k) * 3+2)
   have k0:=cell_put wr g ((b+k) * 3) ((a+k) * 3) _ v0
   have k1:=cell_put _ g ((b+k) * 3+1) ((a+k) * 3+1) _ (cell_keep wr g ((b+k) * 3+1) ((a+k) * 3) (.int .i64 v.1.step) _ (by omega) v1)
   have k2:=cell_put _ g ((b+k) * 3+2) ((a+k) * 3+2) _ (cell_keep _ g ((b+k) * 3+2) ((a+k) * 3+1) (.slice av nv cv) _ (by omega) (cell_keep wr g ((b+k) * 3+2) ((a+k) * 3) (.int .i64 v.1.step) _ (by omega) v2))
   have hsw:=(e3.swap2 hp hr2).drew
   rw[vu,vv,eL2] at hsw
   have hgw:=grown_drew (grown_trans e4 (grown_trans (put3_grown wr g (a+k) (.int .i64 v.1.step) (.slice av nv cv) (.int .i64 v.1.first)) (put3_grown _ g (b+k) (.int .i64 u.1.step) (.slice au nu cu) (.int .i64 u.1.first))))
   have HW:=hid (And.intro hsw (And.intro hgw (And.intro e1 e2)))
   have hw1:IntKind.i64.wrap ((a:Int)+(k:Int))=(a:Int)+(k:Int):=wrap_small (by omega) (by omega)
   have hw2:IntKind.i64.wrap ((b:Int)+(k:Int))=(b:Int)+(k:Int):=wrap_small (by omega) (by omega)
   have i1:(0:Int)≤(a:Int)+(k:Int):=by omega
   have i2:(0:Int)≤(b:Int)+(k:Int):=by omega
   have i3:(a:Int)+(k:Int) < n:=by omega
   have i4:(b:Int)+(k:Int) < n:=by omega
   clear hsw hgw e1 e2 e3 e4 eL eL2 hp hr2 hn' gu gv vu vv hfz hn ha hb hmU huv hr
   go_wp2
   go_region
   all_goals
    go_wp2
    exact⟨⟨k+1,by omega,by go_num,U1++[u],U2,V1++[v],V2,by simp,by simp,by rw[List.length_append,HW.out.2.2.1];rfl,by rw[List.length_append,HW.out.2.2.2];rfl,HW.out.1,HW.out.2.1⟩,by simp[intOf];omega⟩
  ·obtain rfl:k=m:=by omega
   go_wp2
   go_end0
   obtain⟨U1,U2,V1,V2,rfl,rfl,e1,e2,e3,e4⟩:=hr.out
   obtain⟨-,hn,ha,hb,hmU,huv⟩:=HS.out
   obtain rfl:U2=[]:=List.eq_nil_of_length_eq_zero (by simp at hmU;omega)
   obtain rfl:V2=[]:=List.eq_nil_of_length_eq_zero (by simp at hmU huv;omega)
   simp only[List.append_nil] at e3 ⊢
   exact⟨rfl,e3,e4⟩
theorem rotR_any (base g ob cap:Nat)(X U V Z:List RV)(c:Array Value)(w:World)(h:SAt base g ob w cap (X++U++V++Z))(hu:0 < U.length)(hv:0 < V.length)(n a m b:Nat)(hn:(X++U++V++Z).length=n)(hm:n≤1000000)(ha:X.length=a)(hma:a+U.length=m)(hb:m+V.length=b) :
  Calls Tryz.prog 271 #[.slice (some ⟨g,0,none⟩) n cap,.int .i64 a,.int .i64 m,.int .i64 b,.func (.func 254) #[] c] w (TurnEnd base g ob cap (X++V++U++Z) w):=by
 have HS:=hid (And.intro h (And.intro hn (And.intro ha (And.intro hma hb))))
 have hmn:b≤n:=by rw[← hn,← hb,← hma,← ha];simp;omega
 have ham:a < m:=by omega
 have hmb:m < b:=by omega
 clear h hn ha
 have wi:(m:Int) - (a:Int)=((U.length:Nat):Int):=by omega
 have wj:(b:Int) - (m:Int)=((V.length:Nat):Int):=by omega
 have HW:=hid (And.intro wi wj)
 clear wi wj hma hb
 go_enter Tryz.func271,Tryz.ntmps271
 go_wp2
 go_loopw [10,11] (fun vi vj wr=>∃i j:Nat,0 < i∧0 < j∧i≤m∧m+j≤n∧vi=.int .i64 i∧vj=.int .i64 j∧Hid (∃X1 U' V' Z1,X1++V'++U'++Z1=X++V++U++Z∧X1.length+i=m∧U'.length=i∧V'.length=j∧SAt base g ob wr cap (X1++U'++V'++Z1)∧w.grownBy wr (some g))) (fun vi vj _=>(intOf vi).toNat+(intOf vj).toNat)
 case atStart=>exact⟨U.length,V.length,hu,hv,by have:=HS.out.2.2.2.1;omega,by have:=HS.out.2.2.2.2;omega,by rw[HW.out.1],by rw[HW.out.2],X,U,V,Z,rfl,by rw[HS.out.2.2.1];exact HS.out.2.2.2.1,rfl,rfl,HS.out.1,grown_refl _ _⟩
 case round=>
  obtain⟨i,j,hi,hj,him,hjn,rfl,rfl,hr⟩:=hrel
  have hlen:∀X1 U' V' Z1:List RV,X1++V'++U'++Z1=X++V++U++Z→(X1++U'++V'++Z1).length=n:=fun X1 U' V' Z1 he=>by
   have h1:=congrArg List.length he
   have h2:=HS.out.2.1
   simp at h1 h2 ⊢
   omega
  by_cases hne:i=j
  ·subst hne
   have HLn:=hid hlen
   clear hlen
   go_wp2_with (go_at_call 277;obtain⟨X1,U',V',Z1,e1,e2,e3,e4,e5,e6⟩:=hr.out;have hx:(m:Int) - (i:Int)=(X1.length:Nat):=(by omega);rw[hx];refine (swapR_any base g ob cap X1 U' [] V' Z1 _ _ (by simpa using e5) (by omega) (by have:=HLn.out _ _ _ _ e1;simp at this ⊢;omega) n X1.length m i (by have:=HLn.out _ _ _ _ e1;simp at this ⊢;omega) rfl (by simp;omega) e3).mono ?_;rintro e w1 ⟨rfl,hs1,hg1⟩;rw[show X1++V'++[]++U'++Z1=X++V++U++Z by simpa using e1] at hs1;have H1:=hid (And.intro hs1 (grown_trans e6 hg1));clear e1 e2 e3 e4 e5 e6 hs1 hg1 hx)
   go_end0
   exact⟨rfl,H1.out.1,H1.out.2⟩
  ·have hneb:((i:Int) != (j:Int))=true:=by simp;omega
   by_cases hgt:j < i
   ·have hgt':(j:Int) < (i:Int):=by omega
    have HLn:=hid hlen
    clear hlen
    go_wp2_with (go_at_call 277;obtain⟨X1,U',V',Z1,e1,e2,e3,e4,e5,e6⟩:=hr.out;have hx:(m:Int) - (i:Int)=(X1.length:Nat):=(by omega);rw[hx];have hU:U'=U'.take j++U'.drop j:=(List.take_append_drop j U').symm;have hUa:(U'.take j).length=j:=(by rw[List.length_take];omega);have hUb:(U'.drop j).length=i - j:=(by rw[List.length_drop];omega);generalize U'.take j=Ua at hU hUa;generalize U'.drop j=Ub at hU hUb;subst hU;refine (swapR_any base g ob cap X1 Ua Ub V' Z1 _ _ (by simpa using e5) (by omega) (by have:=HLn.out _ _ _ _ e1;simp at this ⊢;omega) n X1.length m j (by have:=HLn.out _ _ _ _ e1;simp at this ⊢;omega) rfl (by simp;omega) hUa).mono ?_;rintro e w1 ⟨rfl,hs1,hg1⟩;have H1:Hid (∃X1 U' V' Z1,X1++V'++U'++Z1=X++V++U++Z∧X1.length+(i - j)=m∧U'.length=i - j∧V'.length=j∧SAt base g ob w1 cap (X1++U'++V'++Z1)∧w.grownBy w1 (some g)):=hid ⟨X1++V',Ub,Ua,Z1,(by rw[← e1];simp),(by simp;omega),hUb,hUa,hs1,grown_trans e6 hg1⟩;clear e1 e2 e3 e4 e5 e6 hs1 hg1 hx hUa hUb)
    refine⟨⟨i - j,j,by omega,hj,by omega,hjn,?_,rfl,H1.out⟩,?_⟩
    ·rw[show ((i - j:Nat):Int)=(i:Int) - (j:Int) by omega]
    ·simp[intOf];omega
   ·have hgt':decide ((j:Int) < (i:Int))=false:=decide_eq_false (by omega)
    have HLn:=hid hlen
    clear hlen
    go_wp2_with (go_at_call 277;obtain⟨X1,U',V',Z1,e1,e2,e3,e4,e5,e6⟩:=hr.out;have hx:(m:Int) - (i:Int)=(X1.length:Nat):=(by omega);have hy:(m:Int)+(j:Int) - (i:Int)=((m+j - i:Nat):Int):=(by omega);rw[hx,hy];have hV:V'=V'.take (j - i)++V'.drop (j - i):=(List.take_append_drop _ V').symm;have hVa:(V'.take (j - i)).length=j - i:=(by rw[List.length_take];omega);have hVb:(V'.drop (j - i)).length=i:=(by rw[List.length_drop];omega);generalize V'.take (j - i)=Va at hV hVa;generalize V'.drop (j - i)=Vb at hV hVb;subst hV;refine (swapR_any base g ob cap X1 U' Va Vb Z1 _ _ (by simpa using e5) (by omega) (by have:=HLn.out _ _ _ _ e1;simp at this ⊢;omega) n X1.length (m+j - i) i (by have:=HLn.out _ _ _ _ e1;simp at this ⊢;omega) rfl (by simp;omega) e3).mono ?_;rintro e w1 ⟨rfl,hs1,hg1⟩;have H1:Hid (∃X1 U' V' Z1,X1++V'++U'++Z1=X++V++U++Z∧X1.length+i=m∧U'.length=i∧V'.length=j - i∧SAt base g ob w1 cap (X1++U'++V'++Z1)∧w.grownBy w1 (some g)):=hid ⟨X1,Vb,Va,U'++Z1,(by rw[← e1];simp),e2,hVb,hVa,(by simpa using hs1),grown_trans e6 hg1⟩;clear e1 e2 e3 e4 e5 e6 hs1 hg1 hx hy hVa hVb)
    refine⟨⟨i,j - i,hi,by omega,him,by omega,rfl,?_,H1.out⟩,?_⟩
    ·rw[show ((j - i:Nat):Int)=(j:Int) - (i:Int) by omega]
    ·simp[intOf];omega
def SymEnd (base g ob cap:Nat)(X U V Z:List RV)(w:World)(e:Ending)(w':World):Prop:=
 e=.returned (.tuple #[])∧∃M,M.Perm (U++V)∧Sm.Srt ltR M∧SAt base g ob w' cap (X++M++Z)∧w.grownBy w' (some g)
theorem ltR_le {V:List RV}(h:Sm.Srt ltR V){k p:Nat}(hk:k < V.length)(hp:p < V.length)(hkp:k < p){u:RV}(hu:ltR V[p] u=true):ltR V[k] u=true:=by
 have h1:ltR V[p] V[k]=false:=(List.pairwise_iff_getElem.1 h) k p hk hp hkp
 cases hc:ltR V[k] u with
 | true=>rfl
 | false=>
  have:=ltR_wk.trans u V[k] V[p] hc h1
  rw[this] at hu
  cases hu
theorem ltR_ge {V:List RV}(h:Sm.Srt ltR V){k p:Nat}(hk:k < V.length)(hp:p < V.length)(hkp:p < k){u:RV}(hu:ltR V[p] u=false):ltR V[k] u=false:=
 ltR_wk.trans u V[p] V[k] hu ((List.pairwise_iff_getElem.1 h) p k hp hk hkp)
theorem symR_left (base g ob cap:Nat)(X:List RV)(u:RV)(V Z:List RV)(w:World)(h:SAt base g ob w cap (X++u::(V++Z)))(hv:0 < V.length)(sV:Sm.Srt ltR V)(n a b:Nat)(hn:(X++u::(V++Z)).length=n)(hm:n≤1000000)(ha:X.length=a)(hb:a+1+V.length=b) :
  Calls Tryz.prog 258 #[.slice (some ⟨g,0,none⟩) n cap,.int .i64 a,.int .i64 (a+1:Nat),.int .i64 b,.func (.func 254) #[] #[.pointer (some ⟨ob,0,none⟩)]] w (SymEnd base g ob cap X [u] V Z w):=by
 have HS:=hid (And.intro h (And.intro hn (And.intro ha (And.intro hb sV))))
 have hbn:b≤n:=by rw[← hn,← hb,← ha];simp;omega
 have hab:a+1 < b:=by omega
 have hlen:V.length≤n:=by rw[← hn];simp;omega
 clear h hn ha hb sV
 have ea:((a+1:Nat):Int)=(a:Int)+1:=by omega
 rw[ea]
 have hone:((a:Int)+1 - (a:Int) == 1)=true:=by simp;omega
 go_enter Tryz.func258,Tryz.ntmps258
 go_wp2
 go_loopw [10,11] (fun vi vj wr=>∃i j:Nat,a+1≤i∧i≤j∧j≤b∧vi=.int .i64 i∧vj=.int .i64 j∧Hid ((∀k (hk:k < V.length),a+1+k < i→ltR V[k] u=true)∧(∀k (hk:k < V.length),j≤a+1+k→ltR V[k] u=false)∧SAt base g ob wr cap (X++u::(V++Z))∧w.grownBy wr (some g))) (fun vi vj _=>(intOf vj).toNat - (intOf vi).toNat)
 case atStart=>exact⟨a+1,b,by omega,by omega,by omega,by go_num,rfl,fun k hk h=>by omega,fun k hk h=>by have:=HS.out.2.2.2.1;omega,HS.out.1,grown_refl _ _⟩
 case round=>
  obtain⟨i,j,hai,hij,hjb,rfl,rfl,hr⟩:=hrel
  by_cases hlt:i < j
  ·have hlt':(i:Int) < j:=by omega
   obtain⟨p,hp⟩:∃p,(i+j) / 2=p:=⟨_,rfl⟩
   have hs2:((i:Int)+(j:Int)) / 2=(p:Int):=by omega
   have hpi:i≤p:=by omega
   have hpj:p < j:=by omega
   have hpn:(p:Int) < n:=by omega
   have han:(a:Int) < n:=by omega
   have hVp:p - (a+1) < V.length:=by have:=HS.out.2.2.2.1;omega
   have hSr:=hr.out.2.2.1
   have gA:(X++u::(V++Z))[a]'(by have:=HS.out.2.1;omega)=u:=get_one X u (V++Z) HS.out.2.2.1 _
   have gP:(X++u::(V++Z))[p]'(by have:=HS.out.2.1;omega)=V[p - (a+1)]:=by
    have h1:=HS.out.2.2.1
    have e:(X++u::(V++Z))[p]?=some V[p - (a+1)]:=by
     rw[List.getElem?_append_right (by omega),show p - X.length=(p - (a+1))+1 by omega,List.getElem?_cons_succ,List.getElem?_append_left hVp,List.getElem?_eq_getElem hVp]
    rw[List.getElem?_eq_getElem (by have:=HS.out.2.1;omega)] at e
    exact Option.some.inj e
   obtain⟨au,nu,cu,vu,u0,u1,u2⟩:=hSr.get (i:=a) (by have:=HS.out.2.1;omega)
   obtain⟨av,nv,cv,vv,v0,v1,v2⟩:=hSr.get (i:=p) (by have:=HS.out.2.1;omega)
   rw[gA] at vu u0 u2
   rw[gP] at vv v0 v2
   have HC:Hid (∀W,Below wr.heap.size wr W→Calls Tryz.prog 254 #[.agg #[.int .i64 V[p - (a+1)].1.step,.slice av nv cv,.int .i64 V[p - (a+1)].1.first],.agg #[.int .i64 u.1.step,.slice au nu cu,.int .i64 u.1.first],.pointer (some ⟨ob,0,none⟩)] W fun e w'=>e=.returned (.int .i64 (En.cmpR V[p - (a+1)].1 u.1))∧Below W.heap.size W w'):=fun W hW=>by
    have:=(hSr.below hW).cmp (i:=p) (j:=a) (by have:=HS.out.2.1;omega) (by have:=HS.out.2.1;omega)
    rw[gA,gP] at this
    unfold rval at this
    rw[vu,vv] at this
    exact this
   have hgl:g < wr.heap.size:=by obtain⟨-,cur,hg⟩:=hSr.blk;exact lt_of_block hg
   obtain⟨v,hvv⟩:∃v,V[p - (a+1)]=v:=⟨_,rfl⟩
   rw[hvv] at HC v0 v2
   have HX:=hid (And.intro hr.out (And.intro hvv hp))
   clear hSr gA gP vu vv hr hvv hp
   by_cases hc:En.cmpR v.1 u.1 < 0
   ·have HCC:=hid hc
    go_wp2
    go_region_held3 (fun W=>W.cell? ⟨g,a * 3,none⟩=some (.int .i64 u.1.step)∧W.cell? ⟨g,a * 3+1,none⟩=some (.slice au nu cu)∧W.cell? ⟨g,a * 3+2,none⟩=some (.int .i64 u.1.first)∧W.cell? ⟨g,p * 3,none⟩=some (.int .i64 v.1.step)∧W.cell? ⟨g,p * 3+1,none⟩=some (.slice av nv cv)∧W.cell? ⟨g,p * 3+2,none⟩=some (.int .i64 v.1.first)) (go_keep) ((go_at_call 254;refine (HC.out _ (by first | exact bel_drewN (Below.refl _ _) _ | exact Below.drew (Below.refl _ _) | exact Below.refl _ _)).mono ?_;rintro e w1 ⟨rfl,hb1⟩;have z0:=(cell_bel hb1 ⟨g,a * 3,none⟩ hgl).trans u0;have z1:=(cell_bel hb1 ⟨g,a * 3+1,none⟩ hgl).trans u1;have z2:=(cell_bel hb1 ⟨g,a * 3+2,none⟩ hgl).trans u2;have z3:=(cell_bel hb1 ⟨g,p * 3,none⟩ hgl).trans v0;have z4:=(cell_bel hb1 ⟨g,p * 3+1,none⟩ hgl).trans v1;have z5:=(cell_bel hb1 ⟨g,p * 3+2,none⟩ hgl).trans v2;have H1:=hid hb1;clear hb1))
    have HB1:Hid (Below wr.heap.size wr w1):=hid (by first | exact H1.out | exact (bel_drewN (Below.refl _ _) _).trans H1.out | exact (Below.drew (Below.refl _ _)).trans H1.out)
    go_wp2
    refine⟨⟨p+1,j,by omega,by omega,hjb,by go_num,rfl,?_,HX.out.1.2.1,HX.out.1.2.2.1.below HB1.out,grown_trans HX.out.1.2.2.2 (grown_below HB1.out (some g))⟩,by simp[intOf];omega⟩
    intro k hk hkp
    by_cases hkp':a+1+k < p
    ·exact ltR_le (HS.out.2.2.2.2) hk hVp (by omega) (by rw[HX.out.2.1];exact decide_eq_true HCC.out)
    ·have e:V[k]=v:=by rw[← HX.out.2.1];congr 1;omega
     rw[e]
     exact decide_eq_true HCC.out
   ·have hc':decide (En.cmpR v.1 u.1 < 0)=false:=decide_eq_false hc
    have HCC:=hid hc'
    clear hc
    go_wp2
    go_region_held3 (fun W=>W.cell? ⟨g,a * 3,none⟩=some (.int .i64 u.1.step)∧W.cell? ⟨g,a * 3+1,none⟩=some (.slice au nu cu)∧W.cell? ⟨g,a * 3+2,none⟩=some (.int .i64 u.1.first)∧W.cell? ⟨g,p * 3,none⟩=some (.int .i64 v.1.step)∧W.cell? ⟨g,p * 3+1,none⟩=some (.slice av nv cv)∧W.cell? ⟨g,p * 3+2,none⟩=some (.int .i64 v.1.first)) (go_keep) ((go_at_call 254;refine (HC.out _ (by first | exact bel_drewN (Below.refl _ _) _ | exact Below.drew (Below.refl _ _) | exact Below.refl _ _)).mono ?_;rintro e w1 ⟨rfl,hb1⟩;have z0:=(cell_bel hb1 ⟨g,a * 3,none⟩ hgl).trans u0;have z1:=(cell_bel hb1 ⟨g,a * 3+1,none⟩ hgl).trans u1;have z2:=(cell_bel hb1 ⟨g,a * 3+2,none⟩ hgl).trans u2;have z3:=(cell_bel hb1 ⟨g,p * 3,none⟩ hgl).trans v0;have z4:=(cell_bel hb1 ⟨g,p * 3+1,none⟩ hgl).trans v1;have z5:=(cell_bel hb1 ⟨g,p * 3+2,none⟩ hgl).trans v2;have H1:=hid hb1;clear hb1))
    have HB1:Hid (Below wr.heap.size wr w1):=hid (by first | exact H1.out | exact (bel_drewN (Below.refl _ _) _).trans H1.out | exact (Below.drew (Below.refl _ _)).trans H1.out)
    go_wp2
    refine⟨⟨i,p,hai,hpi,by omega,rfl,rfl,HX.out.1.1,?_,HX.out.1.2.2.1.below HB1.out,grown_trans HX.out.1.2.2.2 (grown_below HB1.out (some g))⟩,by simp[intOf];omega⟩
    intro k hk hkp
    by_cases hkp':p < a+1+k
    ·exact ltR_ge (HS.out.2.2.2.2) hk hVp (by omega) (by rw[HX.out.2.1];exact HCC.out)
    ·have e:V[k]=v:=by rw[← HX.out.2.1];congr 1;omega
     rw[e]
     exact HCC.out
  ·obtain rfl:i=j:=by omega
   have HR:=hid hr.out
   clear hr
   go_wp2
   obtain⟨wa,hwa⟩:∃W,W=wr:=⟨_,rfl⟩
   subst hwa
   go_loopw [13] (fun vk wr=>∃k:Nat,a≤k∧k+1≤i∧vk=.int .i64 k∧Hid (∃A1 A2,A1++A2=V.take (i - (a+1))∧a+A1.length=k∧SAt base g ob wr cap (X++A1++u::(A2++V.drop (i - (a+1))++Z))∧w.grownBy wr (some g))) (fun vk _=>i - (intOf vk).toNat)
   case atStart=>exact⟨a,by omega,by omega,rfl,[],V.take (i - (a+1)),rfl,rfl,by rw[List.take_append_drop];simpa using HR.out.2.2.1,HR.out.2.2.2⟩
   case round=>
    obtain⟨k,hak,hki,rfl,hr⟩:=hrel
    by_cases hlt2:k+1 < i
    ·have hlt2':(k:Int) < (i:Int) - 1:=by omega
     obtain⟨A1,A2,e1,e2,e3,e4⟩:=hr.out
     have hl1:=congrArg List.length e1
     have hbV:=HS.out.2.2.2.1
     rw[List.length_append,List.length_take] at hl1
     obtain⟨v,A3,rfl⟩:∃v T,A2=v::T:=by
      cases A2 with
      | nil=>simp at hl1;omega
      | cons v T=>exact⟨v,T,rfl⟩
     have eL:X++A1++u::(v::A3++V.drop (i - (a+1))++Z)=(X++A1)++u::([]++v::(A3++V.drop (i - (a+1))++Z)):=by simp
     have eL2:(X++A1)++v::([]++u::(A3++V.drop (i - (a+1))++Z))=X++(A1++[v])++u::(A3++V.drop (i - (a+1))++Z):=by simp
     rw[eL] at e3
     have hp:(X++A1).length=k:=by have:=HS.out.2.2.1;simp;omega
     have hr2:(X++A1).length+1+([]:List RV).length=k+1:=by rw[hp];rfl
     have hkn:k+1 < ((X++A1)++u::([]++v::(A3++V.drop (i - (a+1))++Z))).length:=by rw[← hp];simp;omega
     have hnn:((X++A1)++u::([]++v::(A3++V.drop (i - (a+1))++Z))).length=n:=by
      have h1:=HS.out.2.1
      simp at h1 hl1 ⊢
      omega
     have gu:=get_one (X++A1) u ([]++v::(A3++V.drop (i - (a+1))++Z)) hp (by omega)
     have gv:=get_two (X++A1) u [] v (A3++V.drop (i - (a+1))++Z) hr2 hkn
     obtain⟨au,nu,cu,vu,u0,u1,u2⟩:=e3.get (i:=k) (by omega)
     obtain⟨av,nv,cv,vv,v0,v1,v2⟩:=e3.get (i:=k+1) hkn
     rw[gu] at vu u0 u2
     rw[gv] at vv v0 v2
     have hfz:=e3.frozen
     have f0:=hfz (k * 3)
     have f1:=hfz (k * 3+1)
     have f2:=hfz (k * 3+2)
     have f3:=hfz ((k+1) * 3)
     have f4:=hfz ((k+1) * 3+1)
     have f5:=hfz ((k+1) * 3+2)
     have k0:=cell_put wr g ((k+1) * 3) (k * 3) _ v0
     have k1:=cell_put _ g ((k+1) * 3+1) (k * 3+1) _ (cell_keep wr g ((k+1) * 3+1) (k * 3) (.int .i64 v.1.step) _ (by omega) v1)
     have k2:=cell_put _ g ((k+1) * 3+2) (k * 3+2) _ (cell_keep _ g ((k+1) * 3+2) (k * 3+1) (.slice av nv cv) _ (by omega) (cell_keep wr g ((k+1) * 3+2) (k * 3) (.int .i64 v.1.step) _ (by omega) v2))
     have hsw:=(e3.swap2 hp hr2).drew
     rw[vu,vv,eL2] at hsw
     have hgw:=grown_drew (grown_trans e4 (grown_trans (put3_grown wr g k (.int .i64 v.1.step) (.slice av nv cv) (.int .i64 v.1.first)) (put3_grown _ g (k+1) (.int .i64 u.1.step) (.slice au nu cu) (.int .i64 u.1.first))))
     have HW:=hid (And.intro hsw (And.intro hgw (And.intro e1 e2)))
     have hw1:IntKind.i64.wrap ((k:Int)+1)=(k:Int)+1:=wrap_small (by omega) (by omega)
     have i1:(0:Int)≤(k:Int)+1:=by omega
     have i2:(k:Int)+1 < n:=by omega
     have i3:(k:Int) < n:=by omega
     clear hsw hgw e1 e2 e3 e4 eL eL2 hp hr2 hnn hkn gu gv vu vv hfz hl1 hbV hr
     go_wp2
     go_region
     all_goals
      go_wp2
      refine⟨⟨k+1,by omega,by omega,by go_num,A1++[v],A3,by rw[← HW.out.2.2.1];simp,by rw[List.length_append];have:=HW.out.2.2.2;simp;omega,HW.out.1,HW.out.2.1⟩,by simp[intOf];omega⟩
    ·obtain rfl:i=k+1:=by omega
     go_wp2
     go_end0
     obtain⟨A1,A2,e1,e2,e3,e4⟩:=hr.out
     have hl1:=congrArg List.length e1
     have hbV:=HS.out.2.2.2.1
     rw[List.length_append,List.length_take] at hl1
     obtain rfl:A2=[]:=List.eq_nil_of_length_eq_zero (by omega)
     rw[List.append_nil] at e1
     subst e1
     refine⟨rfl,V.take (k+1 - (a+1))++u::V.drop (k+1 - (a+1)),?_,?_,by simpa using e3,e4⟩
     ·refine List.perm_middle.trans ?_
      rw[List.take_append_drop]
      exact List.Perm.refl _
     ·refine Sm.one_in ltR_wk (by rw[List.take_append_drop];exact HS.out.2.2.2.2) (fun y hy=>?_) (fun y hy=>?_)
      ·obtain⟨t,ht,rfl⟩:=List.getElem_of_mem (List.mem_of_getLast? hy)
       rw[List.getElem_take]
       rw[List.length_take] at ht
       exact ltR_wk.asym _ _ (HR.out.1 t (by omega) (by omega))
      ·rw[List.head?_drop] at hy
       obtain⟨ht,rfl⟩:=List.getElem?_eq_some_iff.1 hy
       exact HR.out.2.1 _ ht (by omega)
theorem ltR_lo {U:List RV}(h:Sm.Srt ltR U){k p:Nat}(hk:k < U.length)(hp:p < U.length)(hkp:k < p){v:RV}(hv:ltR v U[p]=false):ltR v U[k]=false:=
 ltR_wk.trans U[k] U[p] v ((List.pairwise_iff_getElem.1 h) k p hk hp hkp) hv
theorem ltR_hi {U:List RV}(h:Sm.Srt ltR U){k p:Nat}(hk:k < U.length)(hp:p < U.length)(hkp:p < k){v:RV}(hv:ltR v U[p]=true):ltR v U[k]=true:=by
 cases hc:ltR v U[k] with
 | true=>rfl
 | false=>
  have:=ltR_wk.trans U[p] U[k] v ((List.pairwise_iff_getElem.1 h) p k hp hk hkp) hc
  rw[this] at hv
  cases hv
theorem symR_right (base g ob cap:Nat)(X U:List RV)(v:RV)(Z:List RV)(w:World)(h:SAt base g ob w cap (X++U++v::Z))(hu:1 < U.length)(sU:Sm.Srt ltR U)(n a m:Nat)(hn:(X++U++v::Z).length=n)(hm:n≤1000000)(ha:X.length=a)(hma:a+U.length=m) :
  Calls Tryz.prog 258 #[.slice (some ⟨g,0,none⟩) n cap,.int .i64 a,.int .i64 m,.int .i64 (m+1:Nat),.func (.func 254) #[] #[.pointer (some ⟨ob,0,none⟩)]] w (SymEnd base g ob cap X U [v] Z w):=by
 have HS:=hid (And.intro h (And.intro hn (And.intro ha (And.intro hma sU))))
 have hmn:m < n:=by rw[← hn,← hma,← ha];simp
 have ham:a+1 < m:=by omega
 clear h hn ha hma sU
 have ea:((m+1:Nat):Int)=(m:Int)+1:=by omega
 rw[ea]
 have htwo:((m:Int) - (a:Int) == 1)=false:=by simp;omega
 have hone:((m:Int)+1 - (m:Int) == 1)=true:=by simp;omega
 go_enter Tryz.func258,Tryz.ntmps258
 go_wp2
 go_loopw [14,15] (fun vi vj wr=>∃i j:Nat,a≤i∧i≤j∧j≤m∧vi=.int .i64 i∧vj=.int .i64 j∧Hid ((∀k (hk:k < U.length),a+k < i→ltR v U[k]=false)∧(∀k (hk:k < U.length),j≤a+k→ltR v U[k]=true)∧SAt base g ob wr cap (X++U++v::Z)∧w.grownBy wr (some g))) (fun vi vj _=>(intOf vj).toNat - (intOf vi).toNat)
 case atStart=>exact⟨a,m,by omega,by omega,by omega,rfl,rfl,fun k hk h=>by omega,fun k hk h=>by have:=HS.out.2.2.2.1;omega,HS.out.1,grown_refl _ _⟩
 case round=>
  obtain⟨i,j,hai,hij,hjb,rfl,rfl,hr⟩:=hrel
  by_cases hlt:i < j
  ·have hlt':(i:Int) < j:=by omega
   obtain⟨p,hp⟩:∃p,(i+j) / 2=p:=⟨_,rfl⟩
   have hs2:((i:Int)+(j:Int)) / 2=(p:Int):=by omega
   have hpi:i≤p:=by omega
   have hpj:p < j:=by omega
   have hpn:(p:Int) < n:=by omega
   have hmn':(m:Int) < n:=by omega
   have hUp:p - a < U.length:=by have:=HS.out.2.2.2.1;omega
   have hSr:=hr.out.2.2.1
   have hXU:(X++U).length=m:=by have h1:=HS.out.2.2.1;have h2:=HS.out.2.2.2.1;simp;omega
   have gM:(X++U++v::Z)[m]'(by have:=HS.out.2.1;omega)=v:=get_one (X++U) v Z hXU _
   have gP:(X++U++v::Z)[p]'(by have:=HS.out.2.1;omega)=U[p - a]:=by
    have h1:=HS.out.2.2.1
    have e:(X++U++v::Z)[p]?=some U[p - a]:=by
     rw[List.getElem?_append_left (by omega),List.getElem?_append_right (by omega),h1,List.getElem?_eq_getElem hUp]
    rw[List.getElem?_eq_getElem (by have:=HS.out.2.1;omega)] at e
    exact Option.some.inj e
   obtain⟨av,nv,cv,vv,v0,v1,v2⟩:=hSr.get (i:=m) (by have:=HS.out.2.1;omega)
   obtain⟨au,nu,cu,vu,u0,u1,u2⟩:=hSr.get (i:=p) (by have:=HS.out.2.1;omega)
   rw[gM] at vv v0 v2
   rw[gP] at vu u0 u2
   have HC:Hid (∀W,Below wr.heap.size wr W→Calls Tryz.prog 254 #[.agg #[.int .i64 v.1.step,.slice av nv cv,.int .i64 v.1.first],.agg #[.int .i64 U[p - a].1.step,.slice au nu cu,.int .i64 U[p - a].1.first],.pointer (some ⟨ob,0,none⟩)] W fun e w'=>e=.returned (.int .i64 (En.cmpR v.1 U[p - a].1))∧Below W.heap.size W w'):=fun W hW=>by
    have:=(hSr.below hW).cmp (i:=m) (j:=p) (by have:=HS.out.2.1;omega) (by have:=HS.out.2.1;omega)
    rw[gM,gP] at this
    unfold rval at this
    rw[vu,vv] at this
    exact this
   have hgl:g < wr.heap.size:=by obtain⟨-,cur,hg⟩:=hSr.blk;exact lt_of_block hg
   obtain⟨u,huu⟩:∃u,U[p - a]=u:=⟨_,rfl⟩
   rw[huu] at HC u0 u2
   have HX:=hid (And.intro hr.out (And.intro huu hp))
   clear hSr gM gP vu vv hr huu hp hXU
   by_cases hc:En.cmpR v.1 u.1 < 0
   ·have HCC:=hid hc
    go_wp2
    go_region_held3 (fun W=>W.cell? ⟨g,m * 3,none⟩=some (.int .i64 v.1.step)∧W.cell? ⟨g,m * 3+1,none⟩=some (.slice av nv cv)∧W.cell? ⟨g,m * 3+2,none⟩=some (.int .i64 v.1.first)∧W.cell? ⟨g,p * 3,none⟩=some (.int .i64 u.1.step)∧W.cell? ⟨g,p * 3+1,none⟩=some (.slice au nu cu)∧W.cell? ⟨g,p * 3+2,none⟩=some (.int .i64 u.1.first)) (go_keep) ((go_at_call 254;refine (HC.out _ (by first | exact bel_drewN (Below.refl _ _) _ | exact Below.drew (Below.refl _ _) | exact Below.refl _ _)).mono ?_;rintro e w1 ⟨rfl,hb1⟩;have z0:=(cell_bel hb1 ⟨g,m * 3,none⟩ hgl).trans v0;have z1:=(cell_bel hb1 ⟨g,m * 3+1,none⟩ hgl).trans v1;have z2:=(cell_bel hb1 ⟨g,m * 3+2,none⟩ hgl).trans v2;have z3:=(cell_bel hb1 ⟨g,p * 3,none⟩ hgl).trans u0;have z4:=(cell_bel hb1 ⟨g,p * 3+1,none⟩ hgl).trans u1;have z5:=(cell_bel hb1 ⟨g,p * 3+2,none⟩ hgl).trans u2;have H1:=hid hb1;clear hb1))
    have HB1:Hid (Below wr.heap.size wr w1):=hid (by first | exact H1.out | exact (bel_drewN (Below.refl _ _) _).trans H1.out | exact (Below.drew (Below.refl _ _)).trans H1.out)
    go_wp2
    refine⟨⟨i,p,hai,hpi,by omega,rfl,rfl,HX.out.1.1,?_,HX.out.1.2.2.1.below HB1.out,grown_trans HX.out.1.2.2.2 (grown_below HB1.out (some g))⟩,by simp[intOf];omega⟩
    intro k hk hkp
    by_cases hkp':p < a+k
    ·exact ltR_hi (HS.out.2.2.2.2) hk hUp (by omega) (by rw[HX.out.2.1];exact decide_eq_true HCC.out)
    ·have e:U[k]=u:=by rw[← HX.out.2.1];congr 1;omega
     rw[e]
     exact decide_eq_true HCC.out
   ·have hc':decide (En.cmpR v.1 u.1 < 0)=false:=decide_eq_false hc
    have HCC:=hid hc'
    clear hc
    go_wp2
    go_region_held3 (fun W=>W.cell? ⟨g,m * 3,none⟩=some (.int .i64 v.1.step)∧W.cell? ⟨g,m * 3+1,none⟩=some (.slice av nv cv)∧W.cell? ⟨g,m * 3+2,none⟩=some (.int .i64 v.1.first)∧W.cell? ⟨g,p * 3,none⟩=some (.int .i64 u.1.step)∧W.cell? ⟨g,p * 3+1,none⟩=some (.slice au nu cu)∧W.cell? ⟨g,p * 3+2,none⟩=some (.int .i64 u.1.first)) (go_keep) ((go_at_call 254;refine (HC.out _ (by first | exact bel_drewN (Below.refl _ _) _ | exact Below.drew (Below.refl _ _) | exact Below.refl _ _)).mono ?_;rintro e w1 ⟨rfl,hb1⟩;have z0:=(cell_bel hb1 ⟨g,m * 3,none⟩ hgl).trans v0;have z1:=(cell_bel hb1 ⟨g,m * 3+1,none⟩ hgl).trans v1;have z2:=(cell_bel hb1 ⟨g,m * 3+2,none⟩ hgl).trans v2;have z3:=(cell_bel hb1 ⟨g,p * 3,none⟩ hgl).trans u0;have z4:=(cell_bel hb1 ⟨g,p * 3+1,none⟩ hgl).trans u1;have z5:=(cell_bel hb1 ⟨g,p * 3+2,none⟩ hgl).trans u2;have H1:=hid hb1;clear hb1))
    have HB1:Hid (Below wr.heap.size wr w1):=hid (by first | exact H1.out | exact (bel_drewN (Below.refl _ _) _).trans H1.out | exact (Below.drew (Below.refl _ _)).trans H1.out)
    go_wp2
    refine⟨⟨p+1,j,by omega,by omega,hjb,by go_num,rfl,?_,HX.out.1.2.1,HX.out.1.2.2.1.below HB1.out,grown_trans HX.out.1.2.2.2 (grown_below HB1.out (some g))⟩,by simp[intOf];omega⟩
    intro k hk hkp
    by_cases hkp':a+k < p
    ·exact ltR_lo (HS.out.2.2.2.2) hk hUp (by omega) (by rw[HX.out.2.1];exact HCC.out)
    ·have e:U[k]=u:=by rw[← HX.out.2.1];congr 1;omega
     rw[e]
     exact HCC.out
  ·obtain rfl:i=j:=by omega
   have HR:=hid hr.out
   clear hr
   go_wp2
   obtain⟨wa,hwa⟩:∃W,W=wr:=⟨_,rfl⟩
   subst hwa
   go_loopw [17] (fun vk wr=>∃k:Nat,i≤k∧k≤m∧vk=.int .i64 k∧Hid (∃R1 R2,R1++R2=U.drop (i - a)∧i+R1.length=k∧SAt base g ob wr cap ((X++U.take (i - a)++R1)++v::(R2++Z))∧w.grownBy wr (some g))) (fun vk _=>(intOf vk).toNat)
   case atStart=>exact⟨m,by omega,by omega,rfl,U.drop (i - a),[],by simp,by rw[List.length_drop];have:=HS.out.2.2.2.1;omega,by rw[List.append_assoc X,List.take_append_drop];simpa using HR.out.2.2.1,HR.out.2.2.2⟩
   case round=>
    obtain⟨k,hik,hkm,rfl,hr⟩:=hrel
    by_cases hlt2:i < k
    ·obtain⟨q,rfl⟩:∃q,k=q+1:=⟨k - 1,by omega⟩
     have ej:((q+1:Nat):Int)=(q:Int)+1:=by omega
     have hlt2':(i:Int) < (q:Int)+1:=by omega
     obtain⟨R1,R2,e1,e2,e3,e4⟩:=hr.out
     obtain⟨T,y,rfl⟩:∃T y,R1=T++[y]:=by
      rcases List.eq_nil_or_concat R1 with h | ⟨T,y,h⟩
      ·rw[h] at e2;simp at e2;omega
      ·exact⟨T,y,by simpa using h⟩
     have hl1:=congrArg List.length e1
     have hUm:=HS.out.2.2.2.1
     rw[List.length_append,List.length_drop] at hl1
     have eL:(X++U.take (i - a)++(T++[y]))++v::(R2++Z)=(X++U.take (i - a)++T)++y::v::(R2++Z):=by simp
     have eL2:(X++U.take (i - a)++T)++v::y::(R2++Z)=(X++U.take (i - a)++T)++v::((y::R2)++Z):=by simp
     rw[eL] at e3
     have hq:(X++U.take (i - a)++T).length=q:=by
      have h1:=HS.out.2.2.1
      simp at e2 ⊢
      omega
     have hqn:q+1 < ((X++U.take (i - a)++T)++y::v::(R2++Z)).length:=by rw[← hq];simp;omega
     have gy:=get_one (X++U.take (i - a)++T) y (v::(R2++Z)) hq (by omega)
     have gv:((X++U.take (i - a)++T)++y::v::(R2++Z))[q+1]'hqn=v:=by
      subst hq
      exact get_mid1 _ _ _ _ _
     obtain⟨ay,ny,cy,vy,y0,y1,y2⟩:=e3.get (i:=q) (by omega)
     obtain⟨av,nv,cv,vv,v0,v1,v2⟩:=e3.get (i:=q+1) hqn
     rw[gy] at vy y0 y2
     rw[gv] at vv v0 v2
     have hfz:=e3.frozen
     have f0:=hfz (q * 3)
     have f1:=hfz (q * 3+1)
     have f2:=hfz (q * 3+2)
     have f3:=hfz ((q+1) * 3)
     have f4:=hfz ((q+1) * 3+1)
     have f5:=hfz ((q+1) * 3+2)
     have k0:=cell_put wr g (q * 3) ((q+1) * 3) _ y0
     have k1:=cell_put _ g (q * 3+1) ((q+1) * 3+1) _ (cell_keep wr g (q * 3+1) ((q+1) * 3) (.int .i64 y.1.step) _ (by omega) y1)
     have k2:=cell_put _ g (q * 3+2) ((q+1) * 3+2) _ (cell_keep _ g (q * 3+2) ((q+1) * 3+1) (.slice ay ny cy) _ (by omega) (cell_keep wr g (q * 3+2) ((q+1) * 3) (.int .i64 y.1.step) _ (by omega) y2))
     have hsw:=(e3.swap hq).drew
     rw[vy,vv,eL2] at hsw
     have hgw:=grown_drew (grown_trans e4 (grown_trans (put3_grown wr g (q+1) (.int .i64 y.1.step) (.slice ay ny cy) (.int .i64 y.1.first)) (put3_grown _ g q (.int .i64 v.1.step) (.slice av nv cv) (.int .i64 v.1.first))))
     have HW:=hid (And.intro hsw (And.intro hgw (And.intro e1 e2)))
     have hw2:IntKind.i64.wrap (q:Int)=q:=wrap_small (by omega) (by omega)
     have hw1:IntKind.i64.wrap ((q:Int)+1 - 1)=q:=by rw[show (q:Int)+1 - 1=q by omega];exact hw2
     have i1:(0:Int)≤(q:Int)+1:=by omega
     have i2:(q:Int)+1 < n:=by omega
     have i3:(q:Int) < n:=by omega
     have i4:(0:Int)≤(q:Int):=by omega
     clear hsw hgw e1 e2 e3 e4 eL eL2 hq hqn gy gv vy vv hfz hl1 hUm hr
     rw[ej]
     go_wp2
     go_region
     all_goals
      go_wp2
      refine⟨⟨q,by omega,by omega,rfl,T,y::R2,by rw[← HW.out.2.2.1];simp,by have:=HW.out.2.2.2;simp at this;omega,HW.out.1,HW.out.2.1⟩,by simp[intOf]⟩
    ·obtain rfl:i=k:=by omega
     go_wp2
     go_end0
     obtain⟨R1,R2,e1,e2,e3,e4⟩:=hr.out
     obtain rfl:R1=[]:=List.eq_nil_of_length_eq_zero (by omega)
     obtain rfl:R2=U.drop (i - a):=e1
     refine⟨rfl,U.take (i - a)++v::U.drop (i - a),?_,?_,by simpa using e3,e4⟩
     ·refine List.perm_middle.trans ?_
      rw[List.take_append_drop]
      exact (List.perm_append_singleton v U).symm
     ·refine Sm.one_in ltR_wk (by rw[List.take_append_drop];exact HS.out.2.2.2.2) (fun y hy=>?_) (fun y hy=>?_)
      ·obtain⟨t,ht,rfl⟩:=List.getElem_of_mem (List.mem_of_getLast? hy)
       rw[List.getElem_take]
       rw[List.length_take] at ht
       exact HR.out.1 t (by omega) (by omega)
      ·rw[List.head?_drop] at hy
       obtain⟨ht,rfl⟩:=List.getElem?_eq_some_iff.1 hy
       exact ltR_wk.asym _ _ (HR.out.2.1 _ ht (by omega))
end Go.Proofs.YtfldcmdhneegmaaGreatDoor

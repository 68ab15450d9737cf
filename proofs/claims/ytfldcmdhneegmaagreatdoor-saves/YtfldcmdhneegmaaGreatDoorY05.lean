import Derived.Test.YtfldcmdhneegmaaGreatDoorY04
set_option maxHeartbeats 4000000
set_option maxRecDepth 1000000
namespace Go.Proofs.YtfldcmdhneegmaaGreatDoor
open Go.RowKit Go.Lib
def SymIH (base g ob cap L:Nat):Prop:=∀(X U V Z:List RV) (w:World),SAt base g ob w cap (X++U++V++Z)→U.length+V.length≤L→0 < U.length→0 < V.length→Sm.Srt ltR U→Sm.Srt ltR V→∀(n a m b:Nat),(X++U++V++Z).length=n→n≤1000000→X.length=a→a+U.length=m→m+V.length=b →
  Calls Tryz.prog 258 #[.slice (some ⟨g,0,none⟩) n cap,.int .i64 a,.int .i64 m,.int .i64 b,.func (.func 254) #[] #[.pointer (some ⟨ob,0,none⟩)]] w (SymEnd base g ob cap X U V Z w)
structure Cut (X U V Z X1 X2 Y1 Y2:List RV)(a m b mid s e n L:Nat):Prop where
 hU:U=X1++X2
 hV:V=Y1++Y2
 la:X.length=a
 l1:a+X1.length=s
 l2:s+Y1.length=mid
 l3:mid+X2.length=e
 l4:e+Y2.length=b
 l5:s+X2.length=m
 l6:m+Y1.length=e
 ln:(X++U++V++Z).length=n
 hn:n≤1000000
 lL1:X1.length+Y1.length≤L
 lL2:X2.length+Y2.length≤L
 s1:Sm.Srt ltR X1
 s2:Sm.Srt ltR X2
 s3:Sm.Srt ltR Y1
 s4:Sm.Srt ltR Y2
 all:∀u∈X1++Y1,∀v∈X2++Y2,ltR v u=false
theorem Cut.rot {base g ob cap:Nat}{X U V Z X1 X2 Y1 Y2:List RV}{a m b mid s e n L:Nat}(c:Cut X U V Z X1 X2 Y1 Y2 a m b mid s e n L)(h1:s < m)(h2:s < mid)(w:World)(h:SAt base g ob w cap (X++U++V++Z))(k:Array Value) :
  Calls Tryz.prog 271 #[.slice (some ⟨g,0,none⟩) n cap,.int .i64 s,.int .i64 m,.int .i64 e,.func (.func 254) #[] k] w (TurnEnd base g ob cap (X++X1++Y1++X2++Y2++Z) w):=by
 have e1:X++U++V++Z=X++X1++X2++Y1++(Y2++Z):=by rw[c.hU,c.hV];simp
 have e2:X++X1++Y1++X2++Y2++Z=X++X1++Y1++X2++(Y2++Z):=by simp
 have hl:=c.ln
 rw[e1] at h hl
 rw[e2]
 have:=c.l2;have:=c.l5
 exact rotR_any base g ob cap (X++X1) X2 Y1 (Y2++Z) k w h (by omega) (by omega) n s m e hl c.hn (by rw[List.length_append,c.la];exact c.l1) c.l5 c.l6
theorem Cut.plain {X U V Z X1 X2 Y1 Y2:List RV}{a m b mid s e n L:Nat}(c:Cut X U V Z X1 X2 Y1 Y2 a m b mid s e n L)(h:¬ (s < m)∨¬ (s < mid)):X++U++V++Z=X++X1++Y1++X2++Y2++Z:=by
 have:=c.l2;have:=c.l5
 rw[c.hU,c.hV]
 rcases h with h | h
 ·obtain rfl:X2=[]:=List.eq_nil_of_length_eq_zero (by omega)
  simp
 ·obtain rfl:Y1=[]:=List.eq_nil_of_length_eq_zero (by omega)
  simp
theorem Cut.len {X U V Z X1 X2 Y1 Y2:List RV}{a m b mid s e n L:Nat}(c:Cut X U V Z X1 X2 Y1 Y2 a m b mid s e n L):(X++X1++Y1++X2++Y2++Z).length=n:=by
 rw[← c.ln,c.hU,c.hV]
 simp
 omega
theorem Cut.fst {base g ob cap:Nat}{X U V Z X1 X2 Y1 Y2:List RV}{a m b mid s e n L:Nat}(c:Cut X U V Z X1 X2 Y1 Y2 a m b mid s e n L)(ih:SymIH base g ob cap L)(h1:a < s)(h2:s < mid)(w:World)(h:SAt base g ob w cap (X++X1++Y1++X2++Y2++Z)) :
  Calls Tryz.prog 258 #[.slice (some ⟨g,0,none⟩) n cap,.int .i64 a,.int .i64 s,.int .i64 mid,.func (.func 254) #[] #[.pointer (some ⟨ob,0,none⟩)]] w fun en w'=>en=.returned (.tuple #[])∧∃M,M.Perm (X1++Y1)∧Sm.Srt ltR M∧SAt base g ob w' cap (X++M++X2++Y2++Z)∧w.grownBy w' (some g):=by
 have e1:X++X1++Y1++X2++Y2++Z=X++X1++Y1++(X2++Y2++Z):=by simp
 have hl:=c.len
 rw[e1] at h hl
 have:=c.l1;have:=c.l2
 refine (ih X X1 Y1 (X2++Y2++Z) w h c.lL1 (by omega) (by omega) c.s1 c.s3 n a s mid hl c.hn c.la c.l1 c.l2).mono ?_
 rintro en w' ⟨he,M,h3,h4,h5,h6⟩
 exact⟨he,M,h3,h4,by simpa using h5,h6⟩
theorem Cut.snd {base g ob cap:Nat}{X U V Z X1 X2 Y1 Y2:List RV}{a m b mid s e n L:Nat}(c:Cut X U V Z X1 X2 Y1 Y2 a m b mid s e n L)(ih:SymIH base g ob cap L)(h1:s < m)(h2:e < b)(w:World){M:List RV}(hM:M.Perm (X1++Y1))(h:SAt base g ob w cap (X++M++X2++Y2++Z)) :
  Calls Tryz.prog 258 #[.slice (some ⟨g,0,none⟩) n cap,.int .i64 mid,.int .i64 e,.int .i64 b,.func (.func 254) #[] #[.pointer (some ⟨ob,0,none⟩)]] w fun en w'=>en=.returned (.tuple #[])∧∃N,N.Perm (X2++Y2)∧Sm.Srt ltR N∧SAt base g ob w' cap (X++M++N++Z)∧w.grownBy w' (some g):=by
 have hl:=c.len
 have hml:=hM.length_eq
 have:=c.l1;have:=c.l2;have:=c.l4;have:=c.l5;have:=c.la
 rw[List.length_append] at hml
 have hl2:(X++M++X2++Y2++Z).length=n:=by simp at hl ⊢;omega
 exact ih (X++M) X2 Y2 Z w h c.lL2 (by omega) (by omega) c.s2 c.s4 n mid e b hl2 c.hn (by rw[List.length_append];omega) c.l3 c.l4
theorem Cut.fin {base g ob cap:Nat}{X U V Z X1 X2 Y1 Y2:List RV}{a m b mid s e n L:Nat}(c:Cut X U V Z X1 X2 Y1 Y2 a m b mid s e n L){w w':World}{M N:List RV}(p1:M.Perm (X1++Y1))(q1:Sm.Srt ltR M)(p2:N.Perm (X2++Y2))(q2:Sm.Srt ltR N)(h:SAt base g ob w' cap (X++M++N++Z))(hg:w.grownBy w' (some g)):SymEnd base g ob cap X U V Z w (.returned (.tuple #[])) w':=by
 refine⟨rfl,M++N,?_,Sm.joined c.all p1 p2 q1 q2,by simpa using h,hg⟩
 rw[c.hU,c.hV]
 exact Sm.perm4 p1 p2
theorem Cut.no1 {X U V Z X1 X2 Y1 Y2:List RV}{a m b mid s e n L:Nat}(c:Cut X U V Z X1 X2 Y1 Y2 a m b mid s e n L)(h:¬ (a < s)∨¬ (s < mid)):Sm.Srt ltR (X1++Y1):=by
 have:=c.l1;have:=c.l2
 refine Sm.two_srt c.s1 c.s3 ?_
 rcases h with h | h
 ·exact Or.inl (List.eq_nil_of_length_eq_zero (by omega))
 ·exact Or.inr (List.eq_nil_of_length_eq_zero (by omega))
theorem Cut.no2 {X U V Z X1 X2 Y1 Y2:List RV}{a m b mid s e n L:Nat}(c:Cut X U V Z X1 X2 Y1 Y2 a m b mid s e n L)(h:¬ (s < m)∨¬ (e < b)):Sm.Srt ltR (X2++Y2):=by
 have:=c.l4;have:=c.l5
 refine Sm.two_srt c.s2 c.s4 ?_
 rcases h with h | h
 ·exact Or.inl (List.eq_nil_of_length_eq_zero (by omega))
 ·exact Or.inr (List.eq_nil_of_length_eq_zero (by omega))
theorem cut_of {X U V Z:List RV}{a m b mid s e n L lo hi:Nat}(la:X.length=a)(hU:a+U.length=m)(hV:m+V.length=b)(hmid:(a+b) / 2=mid)(hb1:a+2≤m)(hb2:m+2≤b)(ln:(X++U++V++Z).length=n)(hn:n≤1000000)(hL:U.length+V.length≤L+1)(sU:Sm.Srt ltR U)(sV:Sm.Srt ltR V)
  (hlo:(mid < m∧lo+b=mid+m∧hi=mid)∨(m≤mid∧lo=a∧hi=m)) (h1:lo≤s) (h2:s≤hi) (he:e+s=mid+m)
  (k1:s=lo∨∃x y,U[s - 1 - a]?=some x∧V[mid - s]?=some y∧ltR y x=false)
  (k2:s=hi∨∃x y,U[s - a]?=some x∧V[mid - 1 - s]?=some y∧ltR y x=true) :
  Cut X U V Z (U.take (s - a)) (U.drop (s - a)) (V.take (mid - s)) (V.drop (mid - s)) a m b mid s e n L:=
 ⟨(List.take_append_drop _ _).symm,(List.take_append_drop _ _).symm,la,by rw[List.length_take];omega,by rw[List.length_take];omega,by rw[List.length_drop];omega,by rw[List.length_drop];omega,by rw[List.length_drop];omega,by rw[List.length_take];omega,ln,hn,by rw[List.length_take,List.length_take];omega,by rw[List.length_drop,List.length_drop];omega,Sm.take_srt sU _,Sm.drop_srt sU _,Sm.take_srt sV _,Sm.drop_srt sV _,Sm.found ltR_wk hU hV hlo h1 h2 sU sV k1 k2⟩
theorem symR_any (base g ob cap:Nat):∀(L:Nat) (X U V Z:List RV) (w:World),SAt base g ob w cap (X++U++V++Z)→U.length+V.length≤L→0 < U.length→0 < V.length→Sm.Srt ltR U→Sm.Srt ltR V→∀(n a m b:Nat),(X++U++V++Z).length=n→n≤1000000→X.length=a→a+U.length=m→m+V.length=b →
  Calls Tryz.prog 258 #[.slice (some ⟨g,0,none⟩) n cap,.int .i64 a,.int .i64 m,.int .i64 b,.func (.func 254) #[] #[.pointer (some ⟨ob,0,none⟩)]] w (SymEnd base g ob cap X U V Z w):=by
 intro L
 induction L with
 | zero=>intro X U V Z w _ hL hu;omega
 | succ L ih=>
  intro X U V Z w h hL hu hv sU sV n a m b hn hm ha hma hb
  by_cases h1:U.length=1
  ·obtain⟨u,rfl⟩:∃u,U=[u]:=List.length_eq_one_iff.1 h1
   obtain rfl:m=a+1:=by simp at hma;omega
   have e:X++[u]++V++Z=X++u::(V++Z):=by simp
   rw[e] at h hn
   exact symR_left base g ob cap X u V Z w h hv sV n a b hn hm ha hb
  ·by_cases h2:V.length=1
   ·obtain⟨v,rfl⟩:∃v,V=[v]:=List.length_eq_one_iff.1 h2
    obtain rfl:b=m+1:=by simp at hb;omega
    have e:X++U++[v]++Z=X++U++v::Z:=by simp
    rw[e] at h hn
    exact symR_right base g ob cap X U v Z w h (by omega) sU n a m hn hm ha hma
   ·obtain⟨mid,hmid⟩:∃mid,(a+b) / 2=mid:=⟨_,rfl⟩
    obtain⟨lo,hi,hlo⟩:∃lo hi:Nat,(mid < m∧lo+b=mid+m∧hi=mid)∨(m≤mid∧lo=a∧hi=m):=by
     by_cases hc:mid < m
     ·exact⟨mid+m - b,mid,Or.inl ⟨hc,by omega,rfl⟩⟩
     ·exact⟨a,m,Or.inr ⟨by omega,rfl,rfl⟩⟩
    have hs2:((a:Int)+(b:Int)) / 2=(mid:Int):=by omega
    have ht1:((m:Int) - (a:Int) == 1)=false:=by simp;omega
    have ht2:((b:Int) - (m:Int) == 1)=false:=by simp;omega
    have hbn:b≤n:=by rw[← hn,← hb,← hma,← ha];simp;omega
    have HS:=hid (And.intro h (And.intro hn (And.intro ha (And.intro hma (And.intro hb (And.intro sU (And.intro sV hL)))))))
    have HI:Hid (SymIH base g ob cap L):=hid ih
    have hb1:a+2≤m:=by omega
    have hb2:m+2≤b:=by omega
    clear ih h hn ha hma hb sU sV hL h1 h2 hu hv
    have HG:Hid (lo≤hi∧∀c,lo≤c→c < hi→a≤c∧c < m∧c+1≤mid∧mid+m < b+c+1):=hid (by
     rcases hlo with ⟨c1,c2,c3⟩ | ⟨c1,c2,c3⟩
     ·exact⟨by omega,fun c h1 h2=>by omega⟩
     ·exact⟨by omega,fun c h1 h2=>by omega⟩)
    have HM:=hid (And.intro hmid hlo)
    clear hmid
    rcases hlo with ⟨c1,c2,c3⟩ | ⟨c1,c2,c3⟩
    ·have d1:(mid:Int) < m:=by omega
     have d2:(mid:Int)+(m:Int) - (b:Int)=(lo:Int):=by omega
     go_enter Tryz.func258,Tryz.ntmps258
     go_wp2
     go_loopw [20,21] (fun vs vr wr=>∃s r:Nat,lo≤s∧s≤r∧r≤hi∧vs=.int .i64 s∧vr=.int .i64 r∧Hid ((s=lo∨∃x y,U[s - 1 - a]?=some x∧V[mid - s]?=some y∧ltR y x=false)∧(r=hi∨∃x y,U[r - a]?=some x∧V[mid - 1 - r]?=some y∧ltR y x=true)∧SAt base g ob wr cap (X++U++V++Z)∧w.grownBy wr (some g))) (fun vs vr _=>(intOf vr).toNat - (intOf vs).toNat)
     case atStart=>exact⟨lo,hi,by omega,HG.out.1,by omega,by first | rfl | (rw[c2]),by rw[c3],Or.inl rfl,Or.inl rfl,HS.out.1,grown_refl _ _⟩
     case round=>
      obtain⟨s,r,hls,hsr,hrh,rfl,rfl,hr⟩:=hrel
      by_cases hlt:s < r
      ·have hlt':(s:Int) < r:=by omega
       obtain⟨c,hcc⟩:∃c,(s+r) / 2=c:=⟨_,rfl⟩
       have hs3:((s:Int)+(r:Int)) / 2=(c:Int):=by omega
       have hcs:s≤c:=by omega
       have hcr:c < r:=by omega
       obtain⟨g1,g2,g3,g4⟩:=HG.out.2 c (by omega) (by omega)
       obtain⟨q,hq⟩:∃q,q+c+1=mid+m:=⟨mid+m - 1 - c,by omega⟩
       have hq1:(mid:Int)+(m:Int) - 1 - (c:Int)=(q:Int):=by omega
       have hw2:IntKind.i64.wrap (q:Int)=q:=wrap_small (by omega) (by omega)
       have hw1:IntKind.i64.wrap ((mid:Int)+(m:Int) - 1 - (c:Int))=q:=by rw[hq1];exact hw2
       have hq0:(0:Int)≤(q:Int):=by omega
       have hcn:(c:Int) < n:=by omega
       have hqn:(q:Int) < n:=by omega
       have hUc:c - a < U.length:=by have:=HS.out.2.2.2.1;omega
       have hVq:mid - 1 - c < V.length:=by have:=HS.out.2.2.2.2.1;omega
       have hSr:=hr.out.2.2.1
       have gC:(X++U++V++Z)[c]'(by have:=HS.out.2.1;omega)=U[c - a]:=by
        have h1:=HS.out.2.2.1
        have h2:=HS.out.2.2.2.1
        have e:(X++U++V++Z)[c]?=some U[c - a]:=by
         rw[List.append_assoc,List.getElem?_append_left (by simp;omega),List.getElem?_append_right (by omega),h1,List.getElem?_eq_getElem hUc]
        rw[List.getElem?_eq_getElem (by have:=HS.out.2.1;omega)] at e
        exact Option.some.inj e
       have gQ:(X++U++V++Z)[q]'(by have:=HS.out.2.1;omega)=V[mid - 1 - c]:=by
        have h1:=HS.out.2.2.1
        have h2:=HS.out.2.2.2.1
        have e:(X++U++V++Z)[q]?=some V[mid - 1 - c]:=by
         rw[List.append_assoc,List.getElem?_append_right (by simp;omega),show q - (X++U).length=mid - 1 - c by simp;omega,List.getElem?_append_left hVq,List.getElem?_eq_getElem hVq]
        rw[List.getElem?_eq_getElem (by have:=HS.out.2.1;omega)] at e
        exact Option.some.inj e
       obtain⟨av,nv,cv,vv,v0,v1,v2⟩:=hSr.get (i:=q) (by have:=HS.out.2.1;omega)
       obtain⟨au,nu,cu,vu,u0,u1,u2⟩:=hSr.get (i:=c) (by have:=HS.out.2.1;omega)
       rw[gQ] at vv v0 v2
       rw[gC] at vu u0 u2
       obtain⟨u,huu⟩:∃u,U[c - a]=u:=⟨_,rfl⟩
       obtain⟨v,hvv⟩:∃v,V[mid - 1 - c]=v:=⟨_,rfl⟩
       have HC:Hid (∀W,Below wr.heap.size wr W→Calls Tryz.prog 254 #[.agg #[.int .i64 v.1.step,.slice av nv cv,.int .i64 v.1.first],.agg #[.int .i64 u.1.step,.slice au nu cu,.int .i64 u.1.first],.pointer (some ⟨ob,0,none⟩)] W fun e w'=>e=.returned (.int .i64 (En.cmpR v.1 u.1))∧Below W.heap.size W w'):=fun W hW=>by
        have:=(hSr.below hW).cmp (i:=q) (j:=c) (by have:=HS.out.2.1;omega) (by have:=HS.out.2.1;omega)
        rw[gQ,gC] at this
        unfold rval at this
        rw[vu,vv,huu,hvv] at this
        exact this
       have hgl:g < wr.heap.size:=by obtain⟨-,cur,hg⟩:=hSr.blk;exact lt_of_block hg
       rw[huu] at u0 u2
       rw[hvv] at v0 v2
       have ku:U[c - a]?=some u:=by rw[List.getElem?_eq_getElem hUc,huu]
       have kv:V[mid - 1 - c]?=some v:=by rw[List.getElem?_eq_getElem hVq,hvv]
       have HX:=hid (And.intro hr.out (And.intro ku (And.intro kv hcc)))
       clear hSr gC gQ vu vv hr huu hvv hcc ku kv hq
       by_cases hc:En.cmpR v.1 u.1 < 0
       ·have HCC:=hid hc
        go_wp2
        go_region_held3 (fun W=>W.cell? ⟨g,q * 3,none⟩=some (.int .i64 v.1.step)∧W.cell? ⟨g,q * 3+1,none⟩=some (.slice av nv cv)∧W.cell? ⟨g,q * 3+2,none⟩=some (.int .i64 v.1.first)∧W.cell? ⟨g,c * 3,none⟩=some (.int .i64 u.1.step)∧W.cell? ⟨g,c * 3+1,none⟩=some (.slice au nu cu)∧W.cell? ⟨g,c * 3+2,none⟩=some (.int .i64 u.1.first)) (go_keep) ((go_at_call 254;refine (HC.out _ (by first | exact bel_drewN (Below.refl _ _) _ | exact Below.drew (Below.refl _ _) | exact Below.refl _ _)).mono ?_;rintro e w1 ⟨rfl,hb1⟩;have z0:=(cell_bel hb1 ⟨g,q * 3,none⟩ hgl).trans v0;have z1:=(cell_bel hb1 ⟨g,q * 3+1,none⟩ hgl).trans v1;have z2:=(cell_bel hb1 ⟨g,q * 3+2,none⟩ hgl).trans v2;have z3:=(cell_bel hb1 ⟨g,c * 3,none⟩ hgl).trans u0;have z4:=(cell_bel hb1 ⟨g,c * 3+1,none⟩ hgl).trans u1;have z5:=(cell_bel hb1 ⟨g,c * 3+2,none⟩ hgl).trans u2;have H1:=hid hb1;clear hb1))
        have HB1:Hid (Below wr.heap.size wr w1):=hid (by first | exact H1.out | exact (bel_drewN (Below.refl _ _) _).trans H1.out | exact (Below.drew (Below.refl _ _)).trans H1.out)
        go_wp2
        exact⟨⟨s,c,hls,hcs,by omega,rfl,rfl,HX.out.1.1,Or.inr ⟨u,v,HX.out.2.1,HX.out.2.2.1,decide_eq_true HCC.out⟩,HX.out.1.2.2.1.below HB1.out,grown_trans HX.out.1.2.2.2 (grown_below HB1.out (some g))⟩,by simp[intOf];omega⟩
       ·have hc':decide (En.cmpR v.1 u.1 < 0)=false:=decide_eq_false hc
        have HCC:=hid hc'
        clear hc
        go_wp2
        go_region_held3 (fun W=>W.cell? ⟨g,q * 3,none⟩=some (.int .i64 v.1.step)∧W.cell? ⟨g,q * 3+1,none⟩=some (.slice av nv cv)∧W.cell? ⟨g,q * 3+2,none⟩=some (.int .i64 v.1.first)∧W.cell? ⟨g,c * 3,none⟩=some (.int .i64 u.1.step)∧W.cell? ⟨g,c * 3+1,none⟩=some (.slice au nu cu)∧W.cell? ⟨g,c * 3+2,none⟩=some (.int .i64 u.1.first)) (go_keep) ((go_at_call 254;refine (HC.out _ (by first | exact bel_drewN (Below.refl _ _) _ | exact Below.drew (Below.refl _ _) | exact Below.refl _ _)).mono ?_;rintro e w1 ⟨rfl,hb1⟩;have z0:=(cell_bel hb1 ⟨g,q * 3,none⟩ hgl).trans v0;have z1:=(cell_bel hb1 ⟨g,q * 3+1,none⟩ hgl).trans v1;have z2:=(cell_bel hb1 ⟨g,q * 3+2,none⟩ hgl).trans v2;have z3:=(cell_bel hb1 ⟨g,c * 3,none⟩ hgl).trans u0;have z4:=(cell_bel hb1 ⟨g,c * 3+1,none⟩ hgl).trans u1;have z5:=(cell_bel hb1 ⟨g,c * 3+2,none⟩ hgl).trans u2;have H1:=hid hb1;clear hb1))
        have HB1:Hid (Below wr.heap.size wr w1):=hid (by first | exact H1.out | exact (bel_drewN (Below.refl _ _) _).trans H1.out | exact (Below.drew (Below.refl _ _)).trans H1.out)
        go_wp2
        exact⟨⟨c+1,r,by omega,by omega,hrh,by go_num,rfl,Or.inr ⟨u,v,by rw[show c+1 - 1 - a=c - a by omega];exact HX.out.2.1,by rw[show mid - (c+1)=mid - 1 - c by omega];exact HX.out.2.2.1,HCC.out⟩,HX.out.1.2.1,HX.out.1.2.2.1.below HB1.out,grown_trans HX.out.1.2.2.2 (grown_below HB1.out (some g))⟩,by simp[intOf];omega⟩
      ·obtain rfl:s=r:=by omega
       have hsb:s≤m∧s≤mid∧a≤s:=by omega
       obtain⟨e,he⟩:∃e,e+s=mid+m:=⟨mid+m - s,by omega⟩
       have he':(mid:Int)+(m:Int) - (s:Int)=(e:Int):=by omega
       have heb:e≤b∧m≤e∧mid≤e:=by omega
       have HCt:=hid (cut_of HS.out.2.2.1 HS.out.2.2.2.1 HS.out.2.2.2.2.1 HM.out.1 hb1 hb2 HS.out.2.1 hm HS.out.2.2.2.2.2.2.2 HS.out.2.2.2.2.2.1 HS.out.2.2.2.2.2.2.1 HM.out.2 hls hrh he hr.out.1 hr.out.2.1)
       have HR:=hid hr.out
       clear hr
       by_cases k1:s < mid
       ·by_cases k2:a < s
        ·by_cases k3:e < b
         ·have t1:(s:Int) < (m:Int):=by omega
          have t2:(m:Int) < (e:Int):=by omega
          have t3:(a:Int) < (s:Int):=by omega
          have t4:(s:Int) < (mid:Int):=by omega
          have t5:(mid:Int) < (e:Int):=by omega
          have t6:(e:Int) < (b:Int):=by omega
          go_wp2_with (first | (go_at_call 271;refine (HCt.out.rot (by omega) (by omega) _ HR.out.2.2.1 _).mono ?_;rintro en w1 ⟨rfl,hs1,hg1⟩;have H1:=hid (And.intro hs1 (grown_trans HR.out.2.2.2 hg1));clear hs1 hg1) | (go_at_call_of 258 (Value.int .i64 (a:Int));refine (HCt.out.fst HI.out (by omega) (by omega) _ H1.out.1).mono ?_;rintro en w2 ⟨rfl,M1,p1,q1,hs2,hg2⟩;have H2:=hid (And.intro p1 (And.intro q1 (And.intro hs2 (grown_trans H1.out.2 hg2))));clear p1 q1 hs2 hg2) | (go_at_call_of 258 (Value.int .i64 (b:Int));refine (HCt.out.snd HI.out (by omega) (by omega) _ H2.out.1 H2.out.2.2.1).mono ?_;rintro en w3 ⟨rfl,N1,p2,q2,hs3,hg3⟩;have H3:=hid (And.intro p2 (And.intro q2 (And.intro hs3 (grown_trans H2.out.2.2.2 hg3))));clear p2 q2 hs3 hg3))
          go_end0
          exact HCt.out.fin H2.out.1 H2.out.2.1 H3.out.1 H3.out.2.1 H3.out.2.2.1 H3.out.2.2.2
         ·have t1:(s:Int) < (m:Int):=by omega
          have t2:(m:Int) < (e:Int):=by omega
          have t3:(a:Int) < (s:Int):=by omega
          have t4:(s:Int) < (mid:Int):=by omega
          have t5:(mid:Int) < (e:Int):=by omega
          have t6:decide ((e:Int) < (b:Int))=false:=decide_eq_false (by omega)
          go_wp2_with (first | (go_at_call 271;refine (HCt.out.rot (by omega) (by omega) _ HR.out.2.2.1 _).mono ?_;rintro en w1 ⟨rfl,hs1,hg1⟩;have H1:=hid (And.intro hs1 (grown_trans HR.out.2.2.2 hg1));clear hs1 hg1) | (go_at_call_of 258 (Value.int .i64 (a:Int));refine (HCt.out.fst HI.out (by omega) (by omega) _ H1.out.1).mono ?_;rintro en w2 ⟨rfl,M1,p1,q1,hs2,hg2⟩;have H2:=hid (And.intro p1 (And.intro q1 (And.intro hs2 (grown_trans H1.out.2 hg2))));clear p1 q1 hs2 hg2))
          go_end0
          exact HCt.out.fin H2.out.1 H2.out.2.1 (List.Perm.refl _) (HCt.out.no2 (by omega)) (by simpa using H2.out.2.2.1) H2.out.2.2.2
        ·by_cases k3:e < b
         ·have t1:(s:Int) < (m:Int):=by omega
          have t2:(m:Int) < (e:Int):=by omega
          have t3:decide ((a:Int) < (s:Int))=false:=decide_eq_false (by omega)
          have t4:(s:Int) < (mid:Int):=by omega
          have t5:(mid:Int) < (e:Int):=by omega
          have t6:(e:Int) < (b:Int):=by omega
          go_wp2_with (first | (go_at_call 271;refine (HCt.out.rot (by omega) (by omega) _ HR.out.2.2.1 _).mono ?_;rintro en w1 ⟨rfl,hs1,hg1⟩;have H1:=hid (And.intro hs1 (grown_trans HR.out.2.2.2 hg1));clear hs1 hg1) | (go_at_call_of 258 (Value.int .i64 (b:Int));refine (HCt.out.snd HI.out (by omega) (by omega) _ (List.Perm.refl _) (by simpa using H1.out.1)).mono ?_;rintro en w3 ⟨rfl,N1,p2,q2,hs3,hg3⟩;have H3:=hid (And.intro p2 (And.intro q2 (And.intro hs3 (grown_trans H1.out.2 hg3))));clear p2 q2 hs3 hg3))
          go_end0
          exact HCt.out.fin (List.Perm.refl _) (HCt.out.no1 (by omega)) H3.out.1 H3.out.2.1 H3.out.2.2.1 H3.out.2.2.2
         ·have t1:(s:Int) < (m:Int):=by omega
          have t2:(m:Int) < (e:Int):=by omega
          have t3:decide ((a:Int) < (s:Int))=false:=decide_eq_false (by omega)
          have t4:(s:Int) < (mid:Int):=by omega
          have t5:(mid:Int) < (e:Int):=by omega
          have t6:decide ((e:Int) < (b:Int))=false:=decide_eq_false (by omega)
          go_wp2_with (first | (go_at_call 271;refine (HCt.out.rot (by omega) (by omega) _ HR.out.2.2.1 _).mono ?_;rintro en w1 ⟨rfl,hs1,hg1⟩;have H1:=hid (And.intro hs1 (grown_trans HR.out.2.2.2 hg1));clear hs1 hg1))
          go_end0
          exact HCt.out.fin (List.Perm.refl _) (HCt.out.no1 (by omega)) (List.Perm.refl _) (HCt.out.no2 (by omega)) (by simpa using H1.out.1) H1.out.2
       ·have t1:(s:Int) < (m:Int):=by omega
        have t2:decide ((m:Int) < (e:Int))=false:=decide_eq_false (by omega)
        have t3:(a:Int) < (s:Int):=by omega
        have t4:decide ((s:Int) < (mid:Int))=false:=decide_eq_false (by omega)
        have t5:(mid:Int) < (e:Int):=by omega
        have t6:(e:Int) < (b:Int):=by omega
        go_wp2_with (first | (go_at_call_of 258 (Value.int .i64 (b:Int));refine (HCt.out.snd HI.out (by omega) (by omega) _ (List.Perm.refl _) (by have h0:=HR.out.2.2.1;rw[HCt.out.plain (by omega)] at h0;simpa using h0)).mono ?_;rintro en w3 ⟨rfl,N1,p2,q2,hs3,hg3⟩;have H3:=hid (And.intro p2 (And.intro q2 (And.intro hs3 (grown_trans HR.out.2.2.2 hg3))));clear p2 q2 hs3 hg3))
        go_end0
        exact HCt.out.fin (List.Perm.refl _) (HCt.out.no1 (by omega)) H3.out.1 H3.out.2.1 H3.out.2.2.1 H3.out.2.2.2
    ·have d1:decide (mid < m)=false:=decide_eq_false (by omega)
     have d2:decide ((mid:Int) < (m:Int))=false:=decide_eq_false (by omega)
     go_enter Tryz.func258,Tryz.ntmps258
     go_wp2
     go_loopw [20,21] (fun vs vr wr=>∃s r:Nat,lo≤s∧s≤r∧r≤hi∧vs=.int .i64 s∧vr=.int .i64 r∧Hid ((s=lo∨∃x y,U[s - 1 - a]?=some x∧V[mid - s]?=some y∧ltR y x=false)∧(r=hi∨∃x y,U[r - a]?=some x∧V[mid - 1 - r]?=some y∧ltR y x=true)∧SAt base g ob wr cap (X++U++V++Z)∧w.grownBy wr (some g))) (fun vs vr _=>(intOf vr).toNat - (intOf vs).toNat)
     case atStart=>exact⟨lo,hi,by omega,HG.out.1,by omega,by rw[c2],by rw[c3],Or.inl rfl,Or.inl rfl,HS.out.1,grown_refl _ _⟩
     case round=>
      obtain⟨s,r,hls,hsr,hrh,rfl,rfl,hr⟩:=hrel
      by_cases hlt:s < r
      ·have hlt':(s:Int) < r:=by omega
       obtain⟨c,hcc⟩:∃c,(s+r) / 2=c:=⟨_,rfl⟩
       have hs3:((s:Int)+(r:Int)) / 2=(c:Int):=by omega
       have hcs:s≤c:=by omega
       have hcr:c < r:=by omega
       obtain⟨g1,g2,g3,g4⟩:=HG.out.2 c (by omega) (by omega)
       obtain⟨q,hq⟩:∃q,q+c+1=mid+m:=⟨mid+m - 1 - c,by omega⟩
       have hq1:(mid:Int)+(m:Int) - 1 - (c:Int)=(q:Int):=by omega
       have hw2:IntKind.i64.wrap (q:Int)=q:=wrap_small (by omega) (by omega)
       have hw1:IntKind.i64.wrap ((mid:Int)+(m:Int) - 1 - (c:Int))=q:=by rw[hq1];exact hw2
       have hq0:(0:Int)≤(q:Int):=by omega
       have hcn:(c:Int) < n:=by omega
       have hqn:(q:Int) < n:=by omega
       have hUc:c - a < U.length:=by have:=HS.out.2.2.2.1;omega
       have hVq:mid - 1 - c < V.length:=by have:=HS.out.2.2.2.2.1;omega
       have hSr:=hr.out.2.2.1
       have gC:(X++U++V++Z)[c]'(by have:=HS.out.2.1;omega)=U[c - a]:=by
        have h1:=HS.out.2.2.1
        have h2:=HS.out.2.2.2.1
        have e:(X++U++V++Z)[c]?=some U[c - a]:=by
         rw[List.append_assoc,List.getElem?_append_left (by simp;omega),List.getElem?_append_right (by omega),h1,List.getElem?_eq_getElem hUc]
        rw[List.getElem?_eq_getElem (by have:=HS.out.2.1;omega)] at e
        exact Option.some.inj e
       have gQ:(X++U++V++Z)[q]'(by have:=HS.out.2.1;omega)=V[mid - 1 - c]:=by
        have h1:=HS.out.2.2.1
        have h2:=HS.out.2.2.2.1
        have e:(X++U++V++Z)[q]?=some V[mid - 1 - c]:=by
         rw[List.append_assoc,List.getElem?_append_right (by simp;omega),show q - (X++U).length=mid - 1 - c by simp;omega,List.getElem?_append_left hVq,List.getElem?_eq_getElem hVq]
        rw[List.getElem?_eq_getElem (by have:=HS.out.2.1;omega)] at e
        exact Option.some.inj e
       obtain⟨av,nv,cv,vv,v0,v1,v2⟩:=hSr.get (i:=q) (by have:=HS.out.2.1;omega)
       obtain⟨au,nu,cu,vu,u0,u1,u2⟩:=hSr.get (i:=c) (by have:=HS.out.2.1;omega)
       rw[gQ] at vv v0 v2
       rw[gC] at vu u0 u2
       obtain⟨u,huu⟩:∃u,U[c - a]=u:=⟨_,rfl⟩
       obtain⟨v,hvv⟩:∃v,V[mid - 1 - c]=v:=⟨_,rfl⟩
       have HC:Hid (∀W,Below wr.heap.size wr W→Calls Tryz.prog 254 #[.agg #[.int .i64 v.1.step,.slice av nv cv,.int .i64 v.1.first],.agg #[.int .i64 u.1.step,.slice au nu cu,.int .i64 u.1.first],.pointer (some ⟨ob,0,none⟩)] W fun e w'=>e=.returned (.int .i64 (En.cmpR v.1 u.1))∧Below W.heap.size W w'):=fun W hW=>by
        have:=(hSr.below hW).cmp (i:=q) (j:=c) (by have:=HS.out.2.1;omega) (by have:=HS.out.2.1;omega)
        rw[gQ,gC] at this
        unfold rval at this
        rw[vu,vv,huu,hvv] at this
        exact this
       have hgl:g < wr.heap.size:=by obtain⟨-,cur,hg⟩:=hSr.blk;exact lt_of_block hg
       rw[huu] at u0 u2
       rw[hvv] at v0 v2
       have ku:U[c - a]?=some u:=by rw[List.getElem?_eq_getElem hUc,huu]
       have kv:V[mid - 1 - c]?=some v:=by rw[List.getElem?_eq_getElem hVq,hvv]
       have HX:=hid (And.intro hr.out (And.intro ku (And.intro kv hcc)))
       clear hSr gC gQ vu vv hr huu hvv hcc ku kv hq
       by_cases hc:En.cmpR v.1 u.1 < 0
       ·have HCC:=hid hc
        go_wp2
        go_region_held3 (fun W=>W.cell? ⟨g,q * 3,none⟩=some (.int .i64 v.1.step)∧W.cell? ⟨g,q * 3+1,none⟩=some (.slice av nv cv)∧W.cell? ⟨g,q * 3+2,none⟩=some (.int .i64 v.1.first)∧W.cell? ⟨g,c * 3,none⟩=some (.int .i64 u.1.step)∧W.cell? ⟨g,c * 3+1,none⟩=some (.slice au nu cu)∧W.cell? ⟨g,c * 3+2,none⟩=some (.int .i64 u.1.first)) (go_keep) ((go_at_call 254;refine (HC.out _ (by first | exact bel_drewN (Below.refl _ _) _ | exact Below.drew (Below.refl _ _) | exact Below.refl _ _)).mono ?_;rintro e w1 ⟨rfl,hb1⟩;have z0:=(cell_bel hb1 ⟨g,q * 3,none⟩ hgl).trans v0;have z1:=(cell_bel hb1 ⟨g,q * 3+1,none⟩ hgl).trans v1;have z2:=(cell_bel hb1 ⟨g,q * 3+2,none⟩ hgl).trans v2;have z3:=(cell_bel hb1 ⟨g,c * 3,none⟩ hgl).trans u0;have z4:=(cell_bel hb1 ⟨g,c * 3+1,none⟩ hgl).trans u1;have z5:=(cell_bel hb1 ⟨g,c * 3+2,none⟩ hgl).trans u2;have H1:=hid hb1;clear hb1))
        have HB1:Hid (Below wr.heap.size wr w1):=hid (by first | exact H1.out | exact (bel_drewN (Below.refl _ _) _).trans H1.out | exact (Below.drew (Below.refl _ _)).trans H1.out)
        go_wp2
        exact⟨⟨s,c,hls,hcs,by omega,rfl,rfl,HX.out.1.1,Or.inr ⟨u,v,HX.out.2.1,HX.out.2.2.1,decide_eq_true HCC.out⟩,HX.out.1.2.2.1.below HB1.out,grown_trans HX.out.1.2.2.2 (grown_below HB1.out (some g))⟩,by simp[intOf];omega⟩
       ·have hc':decide (En.cmpR v.1 u.1 < 0)=false:=decide_eq_false hc
        have HCC:=hid hc'
        clear hc
        go_wp2
        go_region_held3 (fun W=>W.cell? ⟨g,q * 3,none⟩=some (.int .i64 v.1.step)∧W.cell? ⟨g,q * 3+1,none⟩=some (.slice av nv cv)∧W.cell? ⟨g,q * 3+2,none⟩=some (.int .i64 v.1.first)∧W.cell? ⟨g,c * 3,none⟩=some (.int .i64 u.1.step)∧W.cell? ⟨g,c * 3+1,none⟩=some (.slice au nu cu)∧W.cell? ⟨g,c * 3+2,none⟩=some (.int .i64 u.1.first)) (go_keep) ((go_at_call 254;refine (HC.out _ (by first | exact bel_drewN (Below.refl _ _) _ | exact Below.drew (Below.refl _ _) | exact Below.refl _ _)).mono ?_;rintro e w1 ⟨rfl,hb1⟩;have z0:=(cell_bel hb1 ⟨g,q * 3,none⟩ hgl).trans v0;have z1:=(cell_bel hb1 ⟨g,q * 3+1,none⟩ hgl).trans v1;have z2:=(cell_bel hb1 ⟨g,q * 3+2,none⟩ hgl).trans v2;have z3:=(cell_bel hb1 ⟨g,c * 3,none⟩ hgl).trans u0;have z4:=(cell_bel hb1 ⟨g,c * 3+1,none⟩ hgl).trans u1;have z5:=(cell_bel hb1 ⟨g,c * 3+2,none⟩ hgl).trans u2;have H1:=hid hb1;clear hb1))
        have HB1:Hid (Below wr.heap.size wr w1):=hid (by first | exact H1.out | exact (bel_drewN (Below.refl _ _) _).trans H1.out | exact (Below.drew (Below.refl _ _)).trans H1.out)
        go_wp2
        exact⟨⟨c+1,r,by omega,by omega,hrh,by go_num,rfl,Or.inr ⟨u,v,by rw[show c+1 - 1 - a=c - a by omega];exact HX.out.2.1,by rw[show mid - (c+1)=mid - 1 - c by omega];exact HX.out.2.2.1,HCC.out⟩,HX.out.1.2.1,HX.out.1.2.2.1.below HB1.out,grown_trans HX.out.1.2.2.2 (grown_below HB1.out (some g))⟩,by simp[intOf];omega⟩
      ·obtain rfl:s=r:=by omega
       have hsb:s≤m∧s≤mid∧a≤s:=by omega
       obtain⟨e,he⟩:∃e,e+s=mid+m:=⟨mid+m - s,by omega⟩
       have he':(mid:Int)+(m:Int) - (s:Int)=(e:Int):=by omega
       have heb:e≤b∧m≤e∧mid≤e:=by omega
       have HCt:=hid (cut_of HS.out.2.2.1 HS.out.2.2.2.1 HS.out.2.2.2.2.1 HM.out.1 hb1 hb2 HS.out.2.1 hm HS.out.2.2.2.2.2.2.2 HS.out.2.2.2.2.2.1 HS.out.2.2.2.2.2.2.1 HM.out.2 hls hrh he hr.out.1 hr.out.2.1)
       have HR:=hid hr.out
       clear hr
       by_cases k0:s < m
       ·by_cases k2:a < s
        ·by_cases k3:e < b
         ·have t1:(s:Int) < (m:Int):=by omega
          have t2:(m:Int) < (e:Int):=by omega
          have t3:(a:Int) < (s:Int):=by omega
          have t4:(s:Int) < (mid:Int):=by omega
          have t5:(mid:Int) < (e:Int):=by omega
          have t6:(e:Int) < (b:Int):=by omega
          go_wp2_with (first | (go_at_call 271;refine (HCt.out.rot (by omega) (by omega) _ HR.out.2.2.1 _).mono ?_;rintro en w1 ⟨rfl,hs1,hg1⟩;have H1:=hid (And.intro hs1 (grown_trans HR.out.2.2.2 hg1));clear hs1 hg1) | (go_at_call_of 258 (Value.int .i64 (a:Int));refine (HCt.out.fst HI.out (by omega) (by omega) _ H1.out.1).mono ?_;rintro en w2 ⟨rfl,M1,p1,q1,hs2,hg2⟩;have H2:=hid (And.intro p1 (And.intro q1 (And.intro hs2 (grown_trans H1.out.2 hg2))));clear p1 q1 hs2 hg2) | (go_at_call_of 258 (Value.int .i64 (b:Int));refine (HCt.out.snd HI.out (by omega) (by omega) _ H2.out.1 H2.out.2.2.1).mono ?_;rintro en w3 ⟨rfl,N1,p2,q2,hs3,hg3⟩;have H3:=hid (And.intro p2 (And.intro q2 (And.intro hs3 (grown_trans H2.out.2.2.2 hg3))));clear p2 q2 hs3 hg3))
          go_end0
          exact HCt.out.fin H2.out.1 H2.out.2.1 H3.out.1 H3.out.2.1 H3.out.2.2.1 H3.out.2.2.2
         ·have t1:(s:Int) < (m:Int):=by omega
          have t2:(m:Int) < (e:Int):=by omega
          have t3:(a:Int) < (s:Int):=by omega
          have t4:(s:Int) < (mid:Int):=by omega
          have t5:(mid:Int) < (e:Int):=by omega
          have t6:decide ((e:Int) < (b:Int))=false:=decide_eq_false (by omega)
          go_wp2_with (first | (go_at_call 271;refine (HCt.out.rot (by omega) (by omega) _ HR.out.2.2.1 _).mono ?_;rintro en w1 ⟨rfl,hs1,hg1⟩;have H1:=hid (And.intro hs1 (grown_trans HR.out.2.2.2 hg1));clear hs1 hg1) | (go_at_call_of 258 (Value.int .i64 (a:Int));refine (HCt.out.fst HI.out (by omega) (by omega) _ H1.out.1).mono ?_;rintro en w2 ⟨rfl,M1,p1,q1,hs2,hg2⟩;have H2:=hid (And.intro p1 (And.intro q1 (And.intro hs2 (grown_trans H1.out.2 hg2))));clear p1 q1 hs2 hg2))
          go_end0
          exact HCt.out.fin H2.out.1 H2.out.2.1 (List.Perm.refl _) (HCt.out.no2 (by omega)) (by simpa using H2.out.2.2.1) H2.out.2.2.2
        ·by_cases k3:e < b
         ·have t1:(s:Int) < (m:Int):=by omega
          have t2:(m:Int) < (e:Int):=by omega
          have t3:decide ((a:Int) < (s:Int))=false:=decide_eq_false (by omega)
          have t4:(s:Int) < (mid:Int):=by omega
          have t5:(mid:Int) < (e:Int):=by omega
          have t6:(e:Int) < (b:Int):=by omega
          go_wp2_with (first | (go_at_call 271;refine (HCt.out.rot (by omega) (by omega) _ HR.out.2.2.1 _).mono ?_;rintro en w1 ⟨rfl,hs1,hg1⟩;have H1:=hid (And.intro hs1 (grown_trans HR.out.2.2.2 hg1));clear hs1 hg1) | (go_at_call_of 258 (Value.int .i64 (b:Int));refine (HCt.out.snd HI.out (by omega) (by omega) _ (List.Perm.refl _) (by simpa using H1.out.1)).mono ?_;rintro en w3 ⟨rfl,N1,p2,q2,hs3,hg3⟩;have H3:=hid (And.intro p2 (And.intro q2 (And.intro hs3 (grown_trans H1.out.2 hg3))));clear p2 q2 hs3 hg3))
          go_end0
          exact HCt.out.fin (List.Perm.refl _) (HCt.out.no1 (by omega)) H3.out.1 H3.out.2.1 H3.out.2.2.1 H3.out.2.2.2
         ·have t1:(s:Int) < (m:Int):=by omega
          have t2:(m:Int) < (e:Int):=by omega
          have t3:decide ((a:Int) < (s:Int))=false:=decide_eq_false (by omega)
          have t4:(s:Int) < (mid:Int):=by omega
          have t5:(mid:Int) < (e:Int):=by omega
          have t6:decide ((e:Int) < (b:Int))=false:=decide_eq_false (by omega)
          go_wp2_with (first | (go_at_call 271;refine (HCt.out.rot (by omega) (by omega) _ HR.out.2.2.1 _).mono ?_;rintro en w1 ⟨rfl,hs1,hg1⟩;have H1:=hid (And.intro hs1 (grown_trans HR.out.2.2.2 hg1));clear hs1 hg1))
          go_end0
          exact HCt.out.fin (List.Perm.refl _) (HCt.out.no1 (by omega)) (List.Perm.refl _) (HCt.out.no2 (by omega)) (by simpa using H1.out.1) H1.out.2
       ·by_cases k1:s < mid
        ·have t1:decide ((s:Int) < (m:Int))=false:=decide_eq_false (by omega)
         have t2:(m:Int) < (e:Int):=by omega
         have t3:(a:Int) < (s:Int):=by omega
         have t4:(s:Int) < (mid:Int):=by omega
         have t5:decide ((mid:Int) < (e:Int))=false:=decide_eq_false (by omega)
         go_wp2_with (first | (go_at_call_of 258 (Value.int .i64 (a:Int));refine (HCt.out.fst HI.out (by omega) (by omega) _ (by rw[← HCt.out.plain (by omega)];exact HR.out.2.2.1)).mono ?_;rintro en w2 ⟨rfl,M1,p1,q1,hs2,hg2⟩;have H2:=hid (And.intro p1 (And.intro q1 (And.intro hs2 (grown_trans HR.out.2.2.2 hg2))));clear p1 q1 hs2 hg2))
         go_end0
         exact HCt.out.fin H2.out.1 H2.out.2.1 (List.Perm.refl _) (HCt.out.no2 (by omega)) (by simpa using H2.out.2.2.1) H2.out.2.2.2
        ·have t1:decide ((s:Int) < (m:Int))=false:=decide_eq_false (by omega)
         have t2:decide ((m:Int) < (e:Int))=false:=decide_eq_false (by omega)
         have t3:(a:Int) < (s:Int):=by omega
         have t4:decide ((s:Int) < (mid:Int))=false:=decide_eq_false (by omega)
         have t5:decide ((mid:Int) < (e:Int))=false:=decide_eq_false (by omega)
         go_wp2
         go_end0
         exact HCt.out.fin (List.Perm.refl _) (HCt.out.no1 (by omega)) (List.Perm.refl _) (HCt.out.no2 (by omega)) (by have h0:=HR.out.2.2.1;rw[HCt.out.plain (by omega)] at h0;simpa using h0) HR.out.2.2.2
end Go.Proofs.YtfldcmdhneegmaaGreatDoor

import Derived.Test.YtfldcmdhneegmaaGreatDoorX04
set_option maxHeartbeats 4000000
set_option maxRecDepth 1000000
namespace Go.Proofs.YtfldcmdhneegmaaGreatDoor
open Go.RowKit Go.Lib
def SymIH (base g ob cap L:Nat):Prop:=∀(X U V Z:List RV) (w:World),SAt base g ob w cap (X++U++V++Z)→U.length+V.length≤L→0 < U.length→0 < V.length→Sm.Srt ltR U→Sm.Srt ltR V→∀(n a m b:Nat),(X++U++V++Z).length=n→n≤1000000→X.length=a→a+U.length=m→m+V.length=b →
  Calls Tryz.prog 258 #[.slice (some ⟨g,0,none⟩) n cap,.int .i64 a,.int .i64 m,.int .i64 b,.func (.func 254) #[] #[.pointer (some ⟨ob,0,none⟩)]] w (SymEnd base g ob cap X U V Z w)
structure Cut (X U V Z X1 X2 Y1 Y2:List RV)(a m b mid s e n L:Nat):Prop where
 hU:U=X1++X2
 hV:V=Y1++Y2
 la:X.length=a
 l1:a+X1.length=s
 l2:s+Y1.length=mid
 l3:mid+X2.length=e
 l4:e+Y2.length=b
 l5:s+X2.length=m
 l6:m+Y1.length=e
 ln:(X++U++V++Z).length=n
 hn:n≤1000000
 lL1:X1.length+Y1.length≤L
 lL2:X2.length+Y2.length≤L
 s1:Sm.Srt ltR X1
 s2:Sm.Srt ltR X2
 s3:Sm.Srt ltR Y1
 s4:Sm.Srt ltR Y2
 all:∀u∈X1++Y1,∀v∈X2++Y2,ltR v u=false
theorem Cut.plain {X U V Z X1 X2 Y1 Y2:List RV}{a m b mid s e n L:Nat}(c:Cut X U V Z X1 X2 Y1 Y2 a m b mid s e n L)(h:¬ (s < m)∨¬ (s < mid)):X++U++V++Z=X++X1++Y1++X2++Y2++Z:=by
 have:=c.l2;have:=c.l5
 rw[c.hU,c.hV]
 rcases h with h | h
 ·obtain rfl:X2=[]:=List.eq_nil_of_length_eq_zero (by omega)
  simp
 ·obtain rfl:Y1=[]:=List.eq_nil_of_length_eq_zero (by omega)
  simp
theorem Cut.len {X U V Z X1 X2 Y1 Y2:List RV}{a m b mid s e n L:Nat}(c:Cut X U V Z X1 X2 Y1 Y2 a m b mid s e n L):(X++X1++Y1++X2++Y2++Z).length=n:=by
 rw[← c.ln,c.hU,c.hV]
 simp
 omega
theorem Cut.fst {base g ob cap:Nat}{X U V Z X1 X2 Y1 Y2:List RV}{a m b mid s e n L:Nat}(c:Cut X U V Z X1 X2 Y1 Y2 a m b mid s e n L)(ih:SymIH base g ob cap L)(h1:a < s)(h2:s < mid)(w:World)(h:SAt base g ob w cap (X++X1++Y1++X2++Y2++Z)) :
  Calls Tryz.prog 258 #[.slice (some ⟨g,0,none⟩) n cap,.int .i64 a,.int .i64 s,.int .i64 mid,.func (.func 254) #[] #[.pointer (some ⟨ob,0,none⟩)]] w fun en w'=>en=.returned (.tuple #[])∧∃M,M.Perm (X1++Y1)∧Sm.Srt ltR M∧SAt base g ob w' cap (X++M++X2++Y2++Z)∧w.grownBy w' (some g):=by
 have e1:X++X1++Y1++X2++Y2++Z=X++X1++Y1++(X2++Y2++Z):=by simp
 have hl:=c.len
 rw[e1] at h hl
 have:=c.l1;have:=c.l2
 refine (ih X X1 Y1 (X2++Y2++Z) w h c.lL1 (by omega) (by omega) c.s1 c.s3 n a s mid hl c.hn c.la c.l1 c.l2).mono ?_
 rintro en w' ⟨he,M,h3,h4,h5,h6⟩
 exact⟨he,M,h3,h4,by simpa using h5,h6⟩
theorem Cut.fin {base g ob cap:Nat}{X U V Z X1 X2 Y1 Y2:List RV}{a m b mid s e n L:Nat}(c:Cut X U V Z X1 X2 Y1 Y2 a m b mid s e n L){w w':World}{M N:List RV}(p1:M.Perm (X1++Y1))(q1:Sm.Srt ltR M)(p2:N.Perm (X2++Y2))(q2:Sm.Srt ltR N)(h:SAt base g ob w' cap (X++M++N++Z))(hg:w.grownBy w' (some g)):SymEnd base g ob cap X U V Z w (.returned (.tuple #[])) w':=by
 refine⟨rfl,M++N,?_,Sm.joined c.all p1 p2 q1 q2,by simpa using h,hg⟩
 rw[c.hU,c.hV]
 exact Sm.perm4 p1 p2
end Go.Proofs.YtfldcmdhneegmaaGreatDoor

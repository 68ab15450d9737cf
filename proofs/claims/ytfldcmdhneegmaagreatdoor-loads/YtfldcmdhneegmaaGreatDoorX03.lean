import Derived.Test.YtfldcmdhneegmaaGreatDoorX01
import Derived.Deep.RegionHeld2
import Derived.Deep.RegionWith
set_option maxHeartbeats 4000000
set_option maxRecDepth 1000000
namespace Go.Proofs.YtfldcmdhneegmaaGreatDoor
open Go.RowKit Go.Lib
namespace En
def cmpI (x y:Int):Int:=if x < y then -1 else if y < x then 1 else 0
def cmpL:List Int→List Int→Int
 | [],[]=>0
 | [],_::_=>-1
 | _::_,[]=>1
 | x::a,y::b=>if cmpI x y=0 then cmpL a b else cmpI x y
def cmpR (r s:Rn):Int:=if cmpL r.offs s.offs=0 then cmpI r.step s.step else cmpL r.offs s.offs
end En
theorem cmpNaN_any (x:Int)(w:World):Calls Tryz.prog 270 #[.int .i64 x] w fun e w'=>e=.returned (.bool false)∧w'=w:=by
 go_enter Tryz.func270,Tryz.ntmps270
 go_wp2
 go_ret
 exact⟨by simp,rfl⟩
theorem cmpInt_any (x y:Int)(w:World):Calls Tryz.prog 256 #[.int .i64 x,.int .i64 y] w fun e w'=>e=.returned (.int .i64 (En.cmpI x y))∧w'=w:=by
 by_cases h1:x < y
 ·have e1:En.cmpI x y=-1:=by unfold En.cmpI;rw[if_pos h1]
  rw[e1]
  go_enter Tryz.func256,Tryz.ntmps256
  go_wp2_with (go_at_call 270;refine (cmpNaN_any _ _).mono ?_;rintro e w1 ⟨rfl,hw⟩;subst hw)
  go_ret
  exact⟨rfl,rfl⟩
 ·have d1:decide (x < y)=false:=decide_eq_false h1
  by_cases h2:y < x
  ·have e1:En.cmpI x y=1:=by unfold En.cmpI;rw[if_neg h1,if_pos h2]
   rw[e1]
   clear h1
   go_enter Tryz.func256,Tryz.ntmps256
   go_wp2_with (go_at_call 270;refine (cmpNaN_any _ _).mono ?_;rintro e w1 ⟨rfl,hw⟩;subst hw)
   go_ret
   exact⟨rfl,rfl⟩
  ·have e1:En.cmpI x y=0:=by unfold En.cmpI;rw[if_neg h1,if_neg h2]
   have d2:decide (y < x)=false:=decide_eq_false h2
   rw[e1]
   clear h1 h2
   go_enter Tryz.func256,Tryz.ntmps256
   go_wp2_with (go_at_call 270;refine (cmpNaN_any _ _).mono ?_;rintro e w1 ⟨rfl,hw⟩;subst hw)
   go_ret
   exact⟨rfl,rfl⟩
theorem sCompare_any (F G:Nat→Prop)(v u:Value)(xs ys:List Int)(w:World)(hv:IntsAt F w v xs)(hu:IntsAt G w u ys) :
  Calls Tryz.prog 255 #[v,u] w fun e w'=>e=.returned (.int .i64 (En.cmpL xs ys))∧w'=w:=by
 obtain⟨ao,cap,rfl,-,-⟩:=RowAt.slice hv
 obtain⟨bo,cap',rfl,-,-⟩:=RowAt.slice hu
 have hm:=hv.maxLen
 have hm':=hu.maxLen
 have H:=hid (And.intro hv hu)
 clear hv hu
 go_enter Tryz.func255,Tryz.ntmps255
 go_wp2
 go_loopw [11] (fun i wr=>∃k:Nat,k≤xs.length∧k≤ys.length∧i=.int .i64 k∧wr=w∧Hid (En.cmpL (xs.drop k) (ys.drop k)=En.cmpL xs ys)) (fun i _=>xs.length - (intOf i).toNat)
 case atStart=>exact⟨0,by omega,by omega,rfl,rfl,rfl⟩
 case round=>
  obtain⟨k,hk,hk',rfl,rfl,hr⟩:=hrel
  by_cases hx:k < xs.length
  ·have hx':(k:Int) < xs.length:=by omega
   obtain⟨b1,o1,rfl,c1⟩:=H.out.1.get hx
   have ex:xs.drop k=xs[k]::xs.drop (k+1):=List.drop_eq_getElem_cons hx
   by_cases hy:k < ys.length
   ·have hy':(k:Int) < ys.length:=by omega
    have hd:decide ((ys.length:Int)≤(k:Int))=false:=decide_eq_false (by omega)
    obtain⟨b2,o2,rfl,c2⟩:=H.out.2.get hy
    have ey:ys.drop k=ys[k]::ys.drop (k+1):=List.drop_eq_getElem_cons hy
    have e2:En.cmpL (xs.drop k) (ys.drop k)=if En.cmpI xs[k] ys[k]=0 then En.cmpL (xs.drop (k+1)) (ys.drop (k+1)) else En.cmpI xs[k] ys[k]:=by rw[ex,ey];rfl
    have HE:=hid e2
    clear ex ey e2
    generalize xs[k]=x at *
    generalize ys[k]=y at *
    by_cases hc:En.cmpI x y=0
    ·have hcb:(En.cmpI x y != 0)=false:=by simpa using hc
     have HC:=hid hc
     clear hc
     go_wp2_with (go_at_call 256;refine (cmpInt_any _ _ _).mono ?_;rintro e w1 ⟨rfl,hw⟩;have hw':=hw.symm;subst hw')
     refine⟨⟨k+1,by omega,by omega,by go_num,by first | rfl | trivial,?_⟩,by simp[intOf];omega⟩
     have h1:=HE.out
     rw[if_pos HC.out] at h1
     exact h1.symm.trans hr.out
    ·have hcb:(En.cmpI x y != 0)=true:=by simpa using hc
     have HC:=hid hc
     clear hc
     go_wp2_with (go_at_call 256;refine (cmpInt_any _ _ _).mono ?_;rintro e w1 ⟨rfl,hw⟩;have hw':=hw.symm;subst hw')
     go_ret
     refine⟨?_,rfl⟩
     have h1:=HE.out
     rw[if_neg HC.out] at h1
     rw[← hr.out,h1]
     rfl
   ·have hd:decide ((ys.length:Int)≤(k:Int))=true:=decide_eq_true (by omega)
    have ey:ys.drop k=[]:=List.drop_eq_nil_of_le (by omega)
    have e1:En.cmpL xs ys=1:=by rw[← hr.out,ex,ey];rfl
    have HE1:=hid e1
    clear e1
    clear ex ey
    go_wp2
    go_ret
    exact⟨by rw[HE1.out];rfl,rfl⟩
  ·obtain rfl:k=xs.length:=by omega
   have ex:xs.drop xs.length=[]:=List.drop_length
   by_cases hy:xs.length < ys.length
   ·have ey:ys.drop xs.length=ys[xs.length]::ys.drop (xs.length+1):=List.drop_eq_getElem_cons hy
    have e1:En.cmpL xs ys=-1:=by rw[← hr.out,ex,ey];rfl
    have HE1:=hid e1
    clear e1
    have hd:decide ((xs.length:Int) < (ys.length:Int))=true:=decide_eq_true (by omega)
    clear ex ey
    go_wp2
    go_ret
    exact⟨by rw[HE1.out];rfl,rfl⟩
   ·have ey:ys.drop xs.length=[]:=List.drop_eq_nil_of_le (by omega)
    have e1:En.cmpL xs ys=0:=by rw[← hr.out,ex,ey];rfl
    have HE1:=hid e1
    clear e1
    have hd:decide ((xs.length:Int) < (ys.length:Int))=false:=decide_eq_false (by omega)
    clear ex ey
    go_wp2
    go_ret
    exact⟨by rw[HE1.out];rfl,rfl⟩
def rval (x:RV):Value:=.agg #[.int .i64 x.1.step,x.2,.int .i64 x.1.first]
theorem byOffsets_any (F G:Nat→Prop)(x y:RV)(w:World)(hx:IntsAt F w x.2 x.1.offs)(hy:IntsAt G w y.2 y.1.offs) :
  Calls Tryz.prog 223 #[rval x,rval y] w fun e w'=>e=.returned (.int .i64 (En.cmpL x.1.offs y.1.offs))∧Below w.heap.size w w':=by
 obtain⟨⟨s,xs,fst⟩,v⟩:=x
 obtain⟨⟨s',ys,fst'⟩,u⟩:=y
 dsimp only at hx hy ⊢
 unfold rval
 dsimp only
 obtain⟨ao,cap,rfl,-,-⟩:=RowAt.slice hx
 obtain⟨bo,cap',rfl,-,-⟩:=RowAt.slice hy
 have HC:=hid (fun W (hb:Below w.heap.size w W)=>sCompare_any F G _ _ xs ys W (hx.below hb) (hy.below hb))
 clear hx hy
 go_enter Tryz.func223,Tryz.ntmps223
 go_wp2_with (go_at_call 255;refine (HC.out _ (((Below.refl _ _).alloc (Nat.le_refl _) _).alloc (by simp) _)).mono ?_;rintro e w1 ⟨rfl,hw⟩;have hw':=hw.symm;subst hw')
 go_ret
 exact⟨rfl,((Below.refl _ _).alloc (Nat.le_refl _) _).alloc (by simp) _⟩
theorem byStep_any (x y:RV)(w:World)(hx:∃a n c,x.2=.slice a n c)(hy:∃a n c,y.2=.slice a n c) :
  Calls Tryz.prog 224 #[rval x,rval y] w fun e w'=>e=.returned (.int .i64 (En.cmpI x.1.step y.1.step))∧Below w.heap.size w w':=by
 obtain⟨⟨s,xs,fst⟩,v⟩:=x
 obtain⟨⟨s',ys,fst'⟩,u⟩:=y
 obtain⟨a,n,c,rfl⟩:=hx
 obtain⟨a',n',c',rfl⟩:=hy
 unfold rval
 dsimp only
 go_enter Tryz.func224,Tryz.ntmps224
 go_wp2_with (go_at_call 256;refine (cmpInt_any _ _ _).mono ?_;rintro e w1 ⟨rfl,hw⟩;have hw':=hw.symm;subst hw')
 go_ret
 exact⟨rfl,((Below.refl _ _).alloc (Nat.le_refl _) _).alloc (by simp) _⟩
def OrdAt (w:World)(ob:Nat):Prop:=∃sb,w.heap[ob]?=some (.cells #[.slice (some ⟨sb,0,none⟩) 2 2] 388 (0,0))∧w.heap[sb]?=some (.cells #[.func (.func 223) #[] #[],.func (.func 224) #[] #[]] 292 (0,0))
theorem OrdAt.below {w w':World}{ob:Nat}(h:OrdAt w ob)(hb:Below w.heap.size w w'):OrdAt w' ob:=by
 obtain⟨sb,h1,h2⟩:=h
 exact⟨sb,(hb.block _ (lt_of_block h1)).trans h1,(hb.block _ (lt_of_block h2)).trans h2⟩
theorem inTurn1_any (F G:Nat→Prop)(ob:Nat)(x y:RV)(w:World)(hO:OrdAt w ob)(hx:IntsAt F w x.2 x.1.offs)(hy:IntsAt G w y.2 y.1.offs) :
  Calls Tryz.prog 254 #[rval x,rval y,.pointer (some ⟨ob,0,none⟩)] w fun e w'=>e=.returned (.int .i64 (En.cmpR x.1 y.1))∧Below w.heap.size w w':=by
 obtain⟨sb,h1,h2⟩:=hO
 obtain⟨⟨s,xs,fst⟩,v⟩:=x
 obtain⟨⟨s',ys,fst'⟩,u⟩:=y
 dsimp only at hx hy ⊢
 obtain⟨ao,cap,rfl,-,-⟩:=RowAt.slice hx
 obtain⟨bo,cap',rfl,-,-⟩:=RowAt.slice hy
 obtain⟨W2,hW2⟩:∃W,(w.alloc (.cells #[.int .i64 s,.slice ao xs.length cap,.int .i64 fst] 164)).alloc (.cells #[.int .i64 s',.slice bo ys.length cap',.int .i64 fst'] 164)=W:=⟨_,rfl⟩
 have hb2:Below w.heap.size w W2:=by rw[← hW2];exact ((Below.refl _ _).alloc (Nat.le_refl _) _).alloc (by simp) _
 have kA:W2.heap[w.heap.size]?=some (.cells #[.int .i64 s,.slice ao xs.length cap,.int .i64 fst] 164 (0,0)):=by rw[← hW2];exact (Below.heap_alloc _ _ _ (by simp)).trans (heap_alloc_new w _)
 have kB:W2.heap[w.heap.size+1]?=some (.cells #[.int .i64 s',.slice bo ys.length cap',.int .i64 fst'] 164 (0,0)):=by rw[← hW2];exact new_at (by simp)
 have k1:=(hb2.block _ (lt_of_block h1)).trans h1
 have k2:=(hb2.block _ (lt_of_block h2)).trans h2
 have HK:Hid (∀W,Below W2.heap.size W2 W→W.cell? ⟨ob,0,none⟩=some (.slice (some ⟨sb,0,none⟩) 2 2)∧W.cell? ⟨sb,0,none⟩=some (.func (.func 223) #[] #[])∧W.cell? ⟨sb,1,none⟩=some (.func (.func 224) #[] #[])∧W.cell? ⟨w.heap.size,0,none⟩=some (.int .i64 s)∧W.cell? ⟨w.heap.size,1,none⟩=some (.slice ao xs.length cap)∧W.cell? ⟨w.heap.size,2,none⟩=some (.int .i64 fst)∧W.cell? ⟨w.heap.size+1,0,none⟩=some (.int .i64 s')∧W.cell? ⟨w.heap.size+1,1,none⟩=some (.slice bo ys.length cap')∧W.cell? ⟨w.heap.size+1,2,none⟩=some (.int .i64 fst')):=fun W hW=>by
  have e1:=(hW.block _ (lt_of_block k1)).trans k1
  have e2:=(hW.block _ (lt_of_block k2)).trans k2
  have e3:=(hW.block _ (lt_of_block kA)).trans kA
  have e4:=(hW.block _ (lt_of_block kB)).trans kB
  simp[World.cell?,e1,e2,e3,e4]
 have HB:=hid (And.intro hb2 (And.intro hx hy))
 obtain⟨c1,c2,c3,d0,d1,d2,d3,d4,d5⟩:=HK.out W2 (Below.refl _ _)
 have HO:Hid (∀W,Below W2.heap.size W2 W→Calls Tryz.prog 223 #[.agg #[.int .i64 s,.slice ao xs.length cap,.int .i64 fst],.agg #[.int .i64 s',.slice bo ys.length cap',.int .i64 fst']] W fun e w'=>e=.returned (.int .i64 (En.cmpL xs ys))∧Below W.heap.size W w'):=fun W hW=>byOffsets_any F G (⟨s,xs,fst⟩,.slice ao xs.length cap) (⟨s',ys,fst'⟩,.slice bo ys.length cap') W (hx.below (hb2.trans (hW.mono hb2.size))) (hy.below (hb2.trans (hW.mono hb2.size)))
 have HT:Hid (∀W,Calls Tryz.prog 224 #[.agg #[.int .i64 s,.slice ao xs.length cap,.int .i64 fst],.agg #[.int .i64 s',.slice bo ys.length cap',.int .i64 fst']] W fun e w'=>e=.returned (.int .i64 (En.cmpI s s'))∧Below W.heap.size W w'):=fun W=>byStep_any (⟨s,xs,fst⟩,.slice ao xs.length cap) (⟨s',ys,fst'⟩,.slice bo ys.length cap') W ⟨_,_,_,rfl⟩ ⟨_,_,_,rfl⟩
 have e0:En.cmpR ⟨s,xs,fst⟩ ⟨s',ys,fst'⟩=if En.cmpL xs ys=0 then En.cmpI s s' else En.cmpL xs ys:=rfl
 unfold rval
 dsimp only
 by_cases hc:En.cmpL xs ys=0
 ·rw[if_pos hc] at e0
  have HE:=hid e0
  have hcb:(En.cmpL xs ys != 0)=false:=by simpa using hc
  by_cases hd:En.cmpI s s'=0
  ·have hdb:(En.cmpI s s' != 0)=false:=by simpa using hd
   have HD:=hid hd
   clear hx hy h1 h2 kA kB k1 k2 hb2 hc e0 hd
   go_enter Tryz.func254,Tryz.ntmps254
   go_wp2
   refine wp_loop_rounds 3 ?_
   rw[rounds_succ]
   go_wp2_with (go_at_call 223;refine (HO.out _ (Below.refl _ _)).mono ?_;rintro e w1 ⟨rfl,hb1⟩;obtain⟨c1',c2',c3',d0',d1',d2',d3',d4',d5'⟩:=HK.out w1 hb1;have H1:=hid hb1;clear hb1)
   rw[rounds_succ]
   go_wp2_with (go_at_call 224;refine (HT.out _).mono ?_;rintro e w2 ⟨rfl,hb2⟩;have H2:=hid (H1.out.trans (hb2.mono H1.out.size));clear hb2)
   rw[rounds_succ]
   go_wp2
   go_ret
   exact⟨by rw[HE.out,HD.out];rfl,HB.out.1.trans (H2.out.mono HB.out.1.size)⟩
  ·have hdb:(En.cmpI s s' != 0)=true:=by simpa using hd
   clear hx hy h1 h2 kA kB k1 k2 hb2 hc e0 hd
   go_enter Tryz.func254,Tryz.ntmps254
   go_wp2
   refine wp_loop_rounds 3 ?_
   rw[rounds_succ]
   go_wp2_with (go_at_call 223;refine (HO.out _ (Below.refl _ _)).mono ?_;rintro e w1 ⟨rfl,hb1⟩;obtain⟨c1',c2',c3',d0',d1',d2',d3',d4',d5'⟩:=HK.out w1 hb1;have H1:=hid hb1;clear hb1)
   rw[rounds_succ]
   go_wp2_with (go_at_call 224;refine (HT.out _).mono ?_;rintro e w2 ⟨rfl,hb2⟩;have H2:=hid (H1.out.trans (hb2.mono H1.out.size));clear hb2)
   go_ret
   exact⟨by rw[HE.out];rfl,HB.out.1.trans (H2.out.mono HB.out.1.size)⟩
 ·rw[if_neg hc] at e0
  have HE:=hid e0
  have hcb:(En.cmpL xs ys != 0)=true:=by simpa using hc
  clear hx hy h1 h2 kA kB k1 k2 hb2 hc e0
  go_enter Tryz.func254,Tryz.ntmps254
  go_wp2
  refine wp_loop_rounds 2 ?_
  rw[rounds_succ]
  go_wp2_with (go_at_call 223;refine (HO.out _ (Below.refl _ _)).mono ?_;rintro e w1 ⟨rfl,hb1⟩;have H1:=hid hb1;clear hb1)
  go_ret
  exact⟨by rw[HE.out];rfl,HB.out.1.trans (H1.out.mono HB.out.1.size)⟩
def QRow (base:Nat)(w:World)(v:Value)(l:List En.Ev):Prop:=w.ownsRow base 194 3 v l.length (evCells l)
theorem QRow.evs {base:Nat}{w:World}{v:Value}{l:List En.Ev}(h:QRow base w v l):EvsAt (fun b=>base≤b) w v l:=RowAt.ofOwn h
theorem qLen_any (ao:Option Addr)(n cap:Nat)(w:World) :
  Calls Tryz.prog 321 #[.slice ao n cap] w fun e w'=>e=.returned (.int .i64 n)∧w'=w:=by
 go_enter Tryz.func321,Tryz.ntmps321
 go_wp2
 go_ret
 exact⟨rfl,rfl⟩
theorem qLess_any (F:Nat→Prop)(v:Value)(l:List En.Ev)(i j:Nat)(w:World)(h:EvsAt F w v l)(hi:i < l.length)(hj:j < l.length) :
  Calls Tryz.prog 188 #[v,.int .i64 i,.int .i64 j] w fun e w'=>e=.returned (.bool (En.evLt (En.nth l i) (En.nth l j)))∧∃q,w'=w.drewN q:=by
 obtain⟨ao,cap,rfl,-,-⟩:=RowAt.slice h
 obtain⟨b1,o1,hb,-,d0,d1,d2⟩:=EvsAt.get h hi
 obtain⟨b2,o2,hb2,-,e0,e1,e2⟩:=EvsAt.get h hj
 rw[En.nth_eq hi,En.nth_eq hj]
 subst hb
 cases hb2
 generalize l[i]=x at *
 generalize l[j]=y at *
 have hi':(i:Int) < l.length:=by omega
 have hj':(j:Int) < l.length:=by omega
 clear h
 by_cases ht:x.time=y.time
 ·have ht':(x.time != y.time)=false:=by simpa using ht
  have HT:=hid ht
  clear ht
  go_enter Tryz.func188,Tryz.ntmps188
  go_wp2
  go_quiet (fail)
  go_wp2
  go_quiet (fail)
  go_wp2
  go_ret
  refine⟨?_,by first | exact⟨_,rfl⟩ | exact⟨_,World.drewN_drewN _ _ _⟩⟩
  have:=HT.out
  simp[En.evLt,this]
 ·have ht':(x.time != y.time)=true:=by simpa using ht
  have HT:=hid ht
  clear ht
  go_enter Tryz.func188,Tryz.ntmps188
  go_wp2
  go_quiet (fail)
  go_wp2
  go_quiet (fail)
  go_wp2
  go_ret
  refine⟨?_,by first | exact⟨_,rfl⟩ | exact⟨_,World.drewN_drewN _ _ _⟩⟩
  have:=HT.out
  simp[En.evLt,this]
theorem own_write {w:World}{base:Nat}{e:TypeId}{size g cap n:Nat}{xs:List Value}(h:w.ownsRow base e size (.slice (some ⟨g,0,none⟩) n cap) n xs)(k:Nat)(u:Value) :
  (w.setCell ⟨g,k,none⟩ u).ownsRow base e size (.slice (some ⟨g,0,none⟩) n cap) n (xs.set k u):=by
 obtain⟨h1,h2⟩:=h
 refine⟨by rw[List.length_set];exact h1,?_⟩
 rcases h2 with ⟨he,-⟩ | ⟨g',cap',cur,he,hb,hg,hn,hc,hs,ht⟩
 ·cases he
 ·cases he
  have hlt:=lt_of_block hg
  have hg':w.heap[g]=.cells cur e (0,0):=by simpa [Array.getElem?_eq_getElem hlt] using hg
  refine Or.inr ⟨g,cap,cur.setIfInBounds k u,rfl,hb,?_,hn,hc,by simpa using hs,?_⟩
  ·show (w.heap.modify g _)[g]?=_
   rw[Array.getElem?_eq_getElem (by simpa using hlt),Array.getElem_modify_self,hg']
   rfl
  ·rw[Array.toList_setIfInBounds,List.take_set,ht]
theorem evCells_set (l:List En.Ev)(i:Nat)(x:En.Ev):(((evCells l).set (i * 3) (.int .i64 x.off)).set (i * 3+1) (.int .i32 x.kind)).set (i * 3+2) (.int .i64 x.time)=evCells (l.set i x):=by
 induction l generalizing i with
 | nil=>simp[evCells]
 | cons y t ih=>
  cases i with
  | zero=>simp[evCells]
  | succ i=>
   have e1:(i+1) * 3=i * 3+1+1+1:=by omega
   have:=ih i
   simp only[evCells,List.flatMap_cons,List.set_cons_succ] at this ⊢
   rw[e1]
   simp only[List.cons_append,List.nil_append,List.set_cons_succ]
   rw[this]
theorem QRow.len {base:Nat}{w:World}{ao:Option Addr}{n cap:Nat}{l:List En.Ev}(h:QRow base w (.slice ao n cap) l):n=l.length:=by
 rcases h.2 with ⟨he,h0⟩ | ⟨g,cap',cur,he,-⟩
 ·cases he;exact h0.symm
 ·cases he;rfl
theorem QRow.set {base:Nat}{w:World}{g n cap:Nat}{l:List En.Ev}(h:QRow base w (.slice (some ⟨g,0,none⟩) n cap) l)(i:Nat)(x:En.Ev) :
  QRow base (((w.setCell ⟨g,i * 3,none⟩ (.int .i64 x.off)).setCell ⟨g,i * 3+1,none⟩ (.int .i32 x.kind)).setCell ⟨g,i * 3+2,none⟩ (.int .i64 x.time)) (.slice (some ⟨g,0,none⟩) n cap) (l.set i x):=by
 have hn:=h.len
 subst hn
 unfold QRow at h ⊢
 have h1:=own_write h (i * 3) (.int .i64 x.off)
 have h2:=own_write h1 (i * 3+1) (.int .i32 x.kind)
 have h3:=own_write h2 (i * 3+2) (.int .i64 x.time)
 rw[evCells_set] at h3
 rw[List.length_set]
 exact h3
theorem QRow.drew {base:Nat}{w:World}{v:Value}{l:List En.Ev}(h:QRow base w v l):QRow base w.drew v l:=h
theorem QRow.drewN {base:Nat}{w:World}{v:Value}{l:List En.Ev}(h:QRow base w v l)(q:Nat):QRow base (w.drewN q) v l:=h
theorem grown_set (w:World)(g m:Nat)(u:Value):w.grownBy (w.setCell ⟨g,m,none⟩ u) (some g):=by
 refine⟨rfl,rfl,rfl,by simp[World.setCell],fun k hk hne=>?_⟩
 have hne':g≠k:=fun e=>hne (by rw[e])
 show (w.heap.modify g _)[k]?=_
 rw[Array.getElem?_modify,if_neg hne']
theorem grown_trans {w w1 w2:World}{r:Option Nat}(h:w.grownBy w1 r)(h':w1.grownBy w2 r):w.grownBy w2 r:=
 ⟨h'.os.trans h.os,h'.tape.trans h.tape,h'.output.trans h.output,Nat.le_trans h.size h'.size,fun k hk hne=>(h'.block k (Nat.lt_of_lt_of_le hk h.size) hne).trans (h.block k hk hne)⟩
theorem grown_drew {w w1:World}{r:Option Nat}(h:w.grownBy w1 r):w.grownBy w1.drew r:=⟨h.os,h.tape,h.output,h.size,h.block⟩
theorem grown_drewN {w w1:World}{r:Option Nat}(h:w.grownBy w1 r)(q:Nat):w.grownBy (w1.drewN q) r:=⟨h.os,h.tape,h.output,h.size,h.block⟩
theorem grown_refl (w:World)(r:Option Nat):w.grownBy w r:=⟨rfl,rfl,rfl,Nat.le_refl _,fun _ _ _=>rfl⟩
theorem cell_put (w:World)(g k m:Nat)(v:Value)(h:w.cell? ⟨g,k,none⟩=some v):(w.setCell ⟨g,m,none⟩ v).cell? ⟨g,k,none⟩=some v:=by
 by_cases e:k=m
 ·subst e
  exact World.cell?_setCell_same _ _ _ h
 ·exact (World.cell?_setCell_other w ⟨g,m,none⟩ ⟨g,k,none⟩ v (fun h=>e (by cases h;rfl))).trans h
theorem cell_keep (w:World)(g k m:Nat)(u v:Value)(hne:k≠m)(h:w.cell? ⟨g,k,none⟩=some v):(w.setCell ⟨g,m,none⟩ u).cell? ⟨g,k,none⟩=some v:=
 (World.cell?_setCell_other w ⟨g,m,none⟩ ⟨g,k,none⟩ u (fun h=>hne (by cases h;rfl))).trans h
theorem qSwap_any (base g cap:Nat)(l:List En.Ev)(i j:Nat)(w:World)(h:QRow base w (.slice (some ⟨g,0,none⟩) l.length cap) l)(hi:i < l.length)(hj:j < l.length) :
  Calls Tryz.prog 322 #[.slice (some ⟨g,0,none⟩) l.length cap,.int .i64 i,.int .i64 j] w fun e w'=>e=.returned (.tuple #[])∧QRow base w' (.slice (some ⟨g,0,none⟩) l.length cap) (En.swap l i j)∧w.grownBy w' (some g):=by
 obtain⟨b1,o1,hb,-,d0,d1,d2⟩:=EvsAt.get h.evs hi
 obtain⟨b2,o2,hb2,-,e0,e1,e2⟩:=EvsAt.get h.evs hj
 cases hb
 cases hb2
 have hfz:∀k,w.frozen? ⟨g,k,none⟩=false:=by
  intro k
  rcases h.2 with ⟨he,-⟩ | ⟨g',cap',cur,he,hb,hg,-⟩
  ·cases he
  ·cases he
   simp[World.frozen?,hg]
 simp only[Nat.zero_add] at d0 d1 d2 e0 e1 e2
 have hsw:En.swap l i j=(l.set i l[j]).set j l[i]:=by unfold En.swap;rw[En.nth_eq hi,En.nth_eq hj]
 have H:=hid (And.intro hsw h)
 clear hsw h
 generalize hx:l[i]=x at *
 generalize hy:l[j]=y at *
 have hi':(i:Int) < l.length:=by omega
 have hj':(j:Int) < l.length:=by omega
 have g0:=hfz (i * 3)
 have g1:=hfz (i * 3+1)
 have g2:=hfz (i * 3+2)
 have g3:=hfz (j * 3)
 have g4:=hfz (j * 3+1)
 have g5:=hfz (j * 3+2)
 have k0:=cell_put w g (j * 3) (i * 3) _ e0
 have k1:=cell_put _ g (j * 3+1) (i * 3+1) _ (cell_keep w g (j * 3+1) (i * 3) (.int .i64 y.off) _ (by omega) e1)
 have k2:=cell_put _ g (j * 3+2) (i * 3+2) _ (cell_keep _ g (j * 3+2) (i * 3+1) (.int .i32 y.kind) _ (by omega) (cell_keep w g (j * 3+2) (i * 3) (.int .i64 y.off) _ (by omega) e2))
 go_enter Tryz.func322,Tryz.ntmps322
 go_wp2
 go_region
 all_goals
  go_wp2
  go_end0
  refine⟨rfl,?_,?_⟩
  ·rw[H.out.1]
   exact QRow.drew (QRow.set (QRow.set H.out.2 i y) j x)
  ·exact grown_drew (grown_trans (grown_trans (grown_trans (grown_trans (grown_trans (grown_set w g _ _) (grown_set _ g _ _)) (grown_set _ g _ _)) (grown_set _ g _ _)) (grown_set _ g _ _)) (grown_set _ g _ _))
end Go.Proofs.YtfldcmdhneegmaaGreatDoor
namespace Go.Proofs.YtfldcmdhneegmaaGreatDoor
namespace En
theorem cmpI_rev (x y:Int):cmpI y x=-cmpI x y:=by
 unfold cmpI
 split<;>split<;>first | omega | (split<;>omega)
theorem cmpI_cases (x y:Int):(cmpI x y=-1∧x < y)∨(cmpI x y=0∧x=y)∨(cmpI x y=1∧y < x):=by
 unfold cmpI
 by_cases h1:x < y
 ·left;rw[if_pos h1];exact⟨rfl,h1⟩
 ·by_cases h2:y < x
  ·right;right;rw[if_neg h1,if_pos h2];exact⟨rfl,h2⟩
  ·right;left;rw[if_neg h1,if_neg h2];exact⟨rfl,by omega⟩
theorem cmpL_rev:∀a b:List Int,cmpL b a=-cmpL a b
 | [],[]=>rfl
 | [],_::_=>rfl
 | _::_,[]=>rfl
 | x::a,y::b=>by
  unfold cmpL
  rw[cmpI_rev x y]
  by_cases h:cmpI x y=0
  ·rw[if_pos h,if_pos (by omega),cmpL_rev a b]
  ·rw[if_neg h,if_neg (by omega)]
theorem cmpL_eq:∀{a b:List Int},cmpL a b=0↔a=b
 | [],[]=>by simp[cmpL]
 | [],_::_=>by simp[cmpL]
 | _::_,[]=>by simp[cmpL]
 | x::a,y::b=>by
  unfold cmpL
  rcases cmpI_cases x y with ⟨h,h'⟩ | ⟨h,h'⟩ | ⟨h,h'⟩
  ·rw[h];simp;omega
  ·rw[h,if_pos rfl,cmpL_eq,h'];simp
  ·rw[h];simp;omega
theorem cmpL_trans:∀(a b c:List Int),0≤cmpL b a→0≤cmpL c b→0≤cmpL c a∧(cmpL c a=0→cmpL b a=0∧cmpL c b=0)
 | [],[],[],_,_=>by simp[cmpL]
 | [],[],_::_,_,_=>by simp[cmpL]
 | [],_::_,[],_,h=>by simp[cmpL] at h
 | [],_::_,_::_,_,_=>by simp[cmpL]
 | _::_,[],_,h,_=>by simp[cmpL] at h
 | _::_,_::_,[],_,h=>by simp[cmpL] at h
 | x::a,y::b,z::c,h1,h2=>by
  unfold cmpL at h1 h2 ⊢
  have ih:=cmpL_trans a b c
  rcases cmpI_cases y x with ⟨e1,k1⟩ | ⟨e1,k1⟩ | ⟨e1,k1⟩
  ·rw[e1] at h1;simp at h1
  ·rw[e1,if_pos rfl] at h1 ⊢
   subst k1
   rcases cmpI_cases z y with ⟨e2,k2⟩ | ⟨e2,k2⟩ | ⟨e2,k2⟩
   ·rw[e2] at h2;simp at h2
   ·rw[e2,if_pos rfl] at h2 ⊢
    rw[if_pos rfl]
    exact ih h1 h2
   ·rw[e2];simp
  ·rw[e1] at h1 ⊢
   rcases cmpI_cases z y with ⟨e2,k2⟩ | ⟨e2,k2⟩ | ⟨e2,k2⟩
   ·rw[e2] at h2;simp at h2
   ·subst k2
    rw[e1];simp
   ·have:cmpI z x=1:=by
     rcases cmpI_cases z x with ⟨e3,k3⟩ | ⟨e3,k3⟩ | ⟨e3,k3⟩
     ·omega
     ·omega
     ·exact e3
    rw[this];simp
theorem cmpR_rev (r s:Rn):cmpR s r=-cmpR r s:=by
 unfold cmpR
 rw[cmpL_rev r.offs s.offs,cmpI_rev (r.step:Int) s.step]
 by_cases h:cmpL r.offs s.offs=0
 ·rw[if_pos h,if_pos (by omega)]
 ·rw[if_neg h,if_neg (by omega)]
theorem cmpR_eq {r s:Rn}:cmpR r s=0↔r.offs=s.offs∧r.step=s.step:=by
 unfold cmpR
 by_cases h:cmpL r.offs s.offs=0
 ·rw[if_pos h]
  have:=cmpL_eq.1 h
  rcases cmpI_cases (r.step:Int) s.step with ⟨e,k⟩ | ⟨e,k⟩ | ⟨e,k⟩
  ·rw[e];simp;omega
  ·rw[e];simp[this];omega
  ·rw[e];simp;omega
 ·rw[if_neg h]
  constructor
  ·intro h';exact absurd h' h
  ·rintro⟨h1,-⟩;exact absurd (cmpL_eq.2 h1) h
theorem cmpR_trans {r s t:Rn}(h1:0≤cmpR s r)(h2:0≤cmpR t s):0≤cmpR t r:=by
 unfold cmpR at h1 h2 ⊢
 have key:0≤cmpL s.offs r.offs:=by
  by_cases h:cmpL s.offs r.offs=0
  ·omega
  ·rw[if_neg h] at h1;exact h1
 have key2:0≤cmpL t.offs s.offs:=by
  by_cases h:cmpL t.offs s.offs=0
  ·omega
  ·rw[if_neg h] at h2;exact h2
 obtain⟨k1,k2⟩:=cmpL_trans _ _ _ key key2
 by_cases h:cmpL t.offs r.offs=0
 ·obtain⟨e1,e2⟩:=k2 h
  rw[if_pos e1] at h1
  rw[if_pos e2] at h2
  rw[if_pos h]
  rcases cmpI_cases (s.step:Int) r.step with ⟨a1,b1⟩ | ⟨a1,b1⟩ | ⟨a1,b1⟩<;>
  rcases cmpI_cases (t.step:Int) s.step with ⟨a2,b2⟩ | ⟨a2,b2⟩ | ⟨a2,b2⟩<;>
  rcases cmpI_cases (t.step:Int) r.step with ⟨a3,b3⟩ | ⟨a3,b3⟩ | ⟨a3,b3⟩<;>omega
 ·rw[if_neg h]
  exact k1
end En
def ltR (x y:RV):Bool:=decide (En.cmpR x.1 y.1 < 0)
theorem ltR_wk:Sm.Wk ltR:=⟨fun a=>by
  unfold ltR
  rw[En.cmpR_eq.2 ⟨rfl,rfl⟩]
  rfl,fun a b c h1 h2=>by
  unfold ltR at h1 h2 ⊢
  simp at h1 h2 ⊢
  exact En.cmpR_trans h1 h2,fun a b h=>by
  unfold ltR at h ⊢
  simp at h ⊢
  rw[En.cmpR_rev a.1 b.1]
  omega⟩
end Go.Proofs.YtfldcmdhneegmaaGreatDoor
namespace Go.Proofs.YtfldcmdhneegmaaGreatDoor
open Go.RowKit Go.Lib
theorem Tryz.infoInt:(Tryz.prog.info? 3).map (fun i=>(i.zero,i.size,i.bytes))=some (some (.int .i64 0),1,8):=by kernel_rfl
theorem longer_take {P:En.Pat}{l:List En.Rn}{ev:En.Ev}{step k:Nat}{x:En.Rn}(h:l[k]?=some x) :
    En.longer P (l.take (k+1)) ev step=En.longer P (l.take k) ev step++if En.far ev.time x.first≤P.win then [En.ext x ev step] else []:=by
  rw[take_of_get h]
  unfold En.longer
  rw[List.filter_append,List.map_append]
  congr 1
  by_cases hc:En.far ev.time x.first≤P.win<;>simp[hc]
def Makes (F:Nat→Prop)(q:List En.Rn)(w:World)(e:Ending)(w':World):Prop:=
  ∃v' l',e=.returned v'∧RunsAt F w' v' l'∧l'.map Prod.fst=q∧Below w.heap.size w w'
structure LgRel (P:En.Pat)(l:List RV)(ev:En.Ev)(step k:Nat)(w1 wr:World)(v:Value)(l':List RV):Prop where
  own:wr.ownsRow w1.heap.size 92 3 v l'.length (runCells l')
  offs:∀x∈l',wr.ownsRow w1.heap.size 3 1 x.2 x.1.offs.length (intCells x.1.offs)
  eq:l'.map Prod.fst=En.longer P ((l.map Prod.fst).take k) ev step
  bel:Below w1.heap.size w1 wr
theorem LgRel.len {P:En.Pat}{l:List RV}{ev:En.Ev}{step k:Nat}{w1 wr:World}{v:Value}{l':List RV}(h:LgRel P l ev step k w1 wr v l'):l'.length≤l.length:=by
  have:=congrArg List.length h.eq
  rw[List.length_map] at this
  rw[this]
  unfold En.longer
  rw[List.length_map]
  refine Nat.le_trans (List.length_filter_le _ _) ?_
  rw[List.length_take,List.length_map]
  omega
theorem LgRel.below {P:En.Pat}{l:List RV}{ev:En.Ev}{step k:Nat}{w1 wr w2:World}{v:Value}{l':List RV}(h:LgRel P l ev step k w1 wr v l')(hb:Below wr.heap.size wr w2):LgRel P l ev step k w1 w2 v l':=
  ⟨own_below h.own hb,fun x hx=>own_below (h.offs x hx) hb,h.eq,h.bel.trans (hb.mono h.bel.size)⟩
theorem LgRel.skip {P:En.Pat}{l:List RV}{ev:En.Ev}{step k:Nat}{w1 wr:World}{v:Value}{l':List RV}{x:En.Rn}(h:LgRel P l ev step k w1 wr v l')(hg:(l.map Prod.fst)[k]?=some x)(hf:¬ En.far ev.time x.first≤P.win):LgRel P l ev step (k+1) w1 wr v l':=
  ⟨h.own,h.offs,by rw[h.eq,longer_take hg,if_neg hf,List.append_nil],h.bel⟩
theorem LgRel.more {P:En.Pat}{l:List RV}{ev:En.Ev}{step k:Nat}{w1 wr w5:World}{v v2 v5:Value}{l':List RV}{x:En.Rn}{o:Obj}(h:LgRel P l ev step k w1 wr v l')(hg:(l.map Prod.fst)[k]?=some x)(hf:En.far ev.time x.first≤P.win)
    (h2:wr.ownsRow w1.heap.size 3 1 v2 (x.offs.length+1) (intCells x.offs++[.int .i64 ev.off]))
    (own5:w5.ownsRow w1.heap.size 92 3 v5 (l'.length+1) (runCells l'++[.int .i64 step,v2,.int .i64 x.first])) (gr5:(wr.alloc o).grownBy w5 v.ownBlock):LgRel P l ev step (k+1) w1 w5 v5 (l'++[(En.ext x ev step,v2)]):=by
  have hB:Below w1.heap.size w1 w5:=(h.bel.alloc h.bel.size o).grown gr5 (Nat.le_trans h.bel.size (by simp)) (fun k hk=>(own_block h.own k hk).1)
  have keep:∀(v':Value) (n':Nat) (xs':List Value),wr.ownsRow w1.heap.size 3 1 v' n' xs'→w5.ownsRow w1.heap.size 3 1 v' n' xs':=fun v' n' xs' h'=>
    (h'.alloc o).kept gr5 (own_other h' h.own (by decide))
  refine⟨by simpa [runCells,En.ext] using own5,fun y hy=>?_,?_,hB⟩
  · rcases List.mem_append.1 hy with hy | hy
    · exact keep _ _ _ (h.offs y hy)
    · obtain rfl:=List.mem_singleton.1 hy
      have:=keep _ _ _ h2
      simpa [En.ext,intCells] using this
  · rw[List.map_append,h.eq,longer_take hg,if_pos hf]
    rfl
theorem LgRel.done {F:Nat→Prop}{P:En.Pat}{l:List RV}{ev:En.Ev}{step k:Nat}{w w1 wr:World}{v:Value}{l':List RV}(h:LgRel P l ev step k w1 wr v l')(hk:l.length≤k)(hF:∀b,w.heap.size≤b→F b)(hw:Below w.heap.size w w1):Makes F (En.longer P (l.map Prod.fst) ev step) w (.returned v) wr:=by
  refine⟨v,l',rfl,⟨(RowAt.ofOwn h.own).mono (fun b _ hb=>hF b (Nat.le_trans hw.size hb)),fun x hx=>RowAt.mono (RowAt.ofOwn (h.offs x hx)) (fun b _ hb=>hF b (Nat.le_trans hw.size hb))⟩,?_,hw.trans (h.bel.mono hw.size)⟩
  rw[h.eq,List.take_of_length_le (by simpa using hk)]
theorem rLonger_any (F:Nat→Prop)(eb pb:Nat)(P:En.Pat)(vl:Value)(l:List RV)(ev:En.Ev)(step:Nat)(w:World)(hF:∀b,w.heap.size≤b→F b)(hl:RunsAt F w vl l)(hn:l.length≤1000000000)(ho:∀x∈l,x.1.offs.length≤1000000000)
    (e0:w.cell? ⟨eb,0,none⟩=some (.pointer (some ⟨pb,0,none⟩))) (p1:w.cell? ⟨pb,1,none⟩=some (.int .i64 P.win)) (hw0:0≤P.win) (hw1:P.win≤9999) :
    Calls Tryz.prog 93 #[.pointer (some ⟨eb,0,none⟩),vl,.agg #[.int .i64 ev.off,.int .i32 ev.kind,.int .i64 ev.time],.int .i64 step] w fun e w'=>Makes F (En.longer P (l.map Prod.fst) ev step) w e w':=by
  obtain⟨ao,cap,rfl,hc1,hc2⟩:=hl.slice
  unfold maxLen at hc2
  obtain⟨off,kind,time⟩:=ev
  simp only
  have hal:=(Below.refl w.heap.size w).alloc (Nat.le_refl _) (.cells #[.int .i64 off,.int .i32 kind,.int .i64 time] 89)
  have HL:=hid (hl.below hal)
  have e0':=(cell_bel hal ⟨eb,0,none⟩ (World.block_lt_of_cell? w ⟨eb,0,none⟩ e0)).trans e0
  have p1':=(cell_bel hal ⟨pb,1,none⟩ (World.block_lt_of_cell? w ⟨pb,1,none⟩ p1)).trans p1
  have HF:=hid hF
  have HO:=hid ho
  have HAL:=hid hal
  clear hl hF ho hal e0 p1
  go_enter Tryz.func93,Tryz.ntmps93
  go_wp2
  generalize hw1':w.alloc (.cells #[.int .i64 off,.int .i32 kind,.int .i64 time] 89)=w1 at HL HAL e0' p1' ⊢
  have r0:w1.cell? ⟨w.heap.size,0,none⟩=some (.int .i64 off):=by rw[← hw1'];simp
  have r1:w1.cell? ⟨w.heap.size,1,none⟩=some (.int .i32 kind):=by rw[← hw1'];simp
  have r2:w1.cell? ⟨w.heap.size,2,none⟩=some (.int .i64 time):=by rw[← hw1'];simp
  clear hw1'
  have HC:=hid (And.intro r0 (And.intro r1 (And.intro r2 (And.intro e0' p1'))))
  clear r0 r1 r2 e0' p1'
  go_loopw [9,10] (fun o i wr=>∃(k:Nat) (v:Value) (l':List RV),k≤l.length∧i=.int .i64 k∧o=v∧Hid (LgRel P l ⟨off,kind,time⟩ step k w1 wr v l')) (fun _ i _=>l.length - (intOf i).toNat)
  case atStart=>exact⟨0,_,[],by omega,rfl,rfl,World.ownsRow_nil _ _ _ _,by simp,by simp[En.longer],Below.refl _ _⟩
  case round=>
    obtain⟨k,v,l',hk,rfl,rfl,hr⟩:=hrel
    obtain⟨av,cv,rfl⟩:=own_slice hr.out.own
    by_cases hlt:k < l.length
    · obtain⟨b1,o1,rfl,hb1,c0,c1,c2⟩:=(HL.out.below hr.out.bel).get hlt
      have hcell:∀x:Addr,x.block < w1.heap.size→wr.cell? x=w1.cell? x:=fun x hx=>cell_bel hr.out.bel x hx
      have r0:=(hcell ⟨w.heap.size,0,none⟩ (World.block_lt_of_cell? w1 ⟨w.heap.size,0,none⟩ HC.out.1)).trans HC.out.1
      have r1:=(hcell ⟨w.heap.size,1,none⟩ (World.block_lt_of_cell? w1 ⟨w.heap.size,1,none⟩ HC.out.2.1)).trans HC.out.2.1
      have r2:=(hcell ⟨w.heap.size,2,none⟩ (World.block_lt_of_cell? w1 ⟨w.heap.size,2,none⟩ HC.out.2.2.1)).trans HC.out.2.2.1
      have e0:=(hcell ⟨eb,0,none⟩ (World.block_lt_of_cell? w1 ⟨eb,0,none⟩ HC.out.2.2.2.1)).trans HC.out.2.2.2.1
      have p1:=(hcell ⟨pb,1,none⟩ (World.block_lt_of_cell? w1 ⟨pb,1,none⟩ HC.out.2.2.2.2)).trans HC.out.2.2.2.2
      have hmem:l[k]∈l:=List.getElem_mem hlt
      have HK:=hid ((HL.out.below hr.out.bel).offs _ hmem)
      have hol:=HO.out _ hmem
      obtain⟨ak,ck,hvk,-,-⟩:=RowAt.slice HK.out
      rw[hvk] at c1 HK
      have hget:(l.map Prod.fst)[k]?=some l[k].1:=by simp[hlt]
      generalize l[k]=x at *
      obtain⟨⟨xs,xo,xf⟩,xv⟩:=x
      simp only at c0 c1 c2 HK hget hol
      have HG:=hid hget
      have hFar:=fun n=>rFar_any time xf (wr.drewN n)
      have HFar:=hid hFar
      clear hget hmem hvk hcell hFar
      by_cases hin:En.far time xf≤P.win
      · go_wp2
        go_quiet ((go_at_call 71;exact Calls.quiet_of_same (HFar.out _)))
        revert nq;intro n1
        go_wp2
        have HD1:=hid ((Dr.refl wr).step n1)
        have c1':(wr.drewN n1).cell? ⟨b1,o1+k * 3+1,none⟩=some (.slice ak xo.length ck):=c1
        have c2':(wr.drewN n1).cell? ⟨b1,o1+k * 3+2,none⟩=some (.int .i64 xf):=c2
        have r0':(wr.drewN n1).cell? ⟨w.heap.size,0,none⟩=some (.int .i64 off):=r0
        have hsz1:w.heap.size < (wr.drewN n1).heap.size:=World.block_lt_of_cell? (wr.drewN n1) ⟨w.heap.size,0,none⟩ r0'
        have hsz2:b1 < (wr.drewN n1).heap.size:=hb1
        generalize wr.drewN n1=W0 at HD1 c1' c2' r0' hsz1 hsz2 ⊢
        obtain⟨i1,hi,hy0,hy1,hy2⟩:=info_parts Tryz.infoInt
        clear c0 c1 c2 r0 r1 r2 e0 p1 hb1
        have HX:=hid (HK.out.below (HD1.out.below _))
        go_region_held2 (fun W=>W.cell? ⟨b1,o1+k * 3+1,none⟩=some (.slice ak xo.length ck)∧W.cell? ⟨w.heap.size,0,none⟩=some (.int .i64 off)) (go_keep) (first | (refine step_append_row rfl (.tmp 37) (.tmp 42) 90 rfl W0.heap.size 3 i1 (.int .i64 0) 1 8 Tryz.underlying90 hi hy0 hy1 hy2 rfl (by decide) _ 0 [] rfl (own_empty (by first | exact new_at (by simp;done) | exact (Below.heap_alloc _ _ _ (by simp;try omega)).trans (new_at (by simp;done))) (by simp;try omega)) F (.slice ak xo.length ck) xo.length (intCells xo) rfl (HX.out.below (by repeat (first | exact Below.refl _ _ | refine Below.drew ?_ | refine Below.alloc ?_ (by simp;try omega) _))) (oneCell_ints _) (by unfold maxLen;omega) (by omega) (by simp;try omega) ?_;intro v1 w2 ow1 gr0;have gr1:World.grownBy _ w2 (some _):=gr0;clear gr0;simp only at gr1;have b2:Below W0.heap.size W0 w2:=Below.grown (by repeat (first | exact Below.refl _ _ | refine Below.drew ?_ | refine Below.alloc ?_ (by simp;try omega) _)) gr1 (by simp;try omega) (fun k hk=>by cases hk;simp;try omega);have k1:w2.cell? ⟨b1,o1+k * 3+1,none⟩=some (.slice ak xo.length ck):=(cell_bel b2 _ hsz2).trans c1';have k2:w2.cell? ⟨w.heap.size,0,none⟩=some (.int .i64 off):=(cell_bel b2 _ hsz1).trans r0';have O1:=hid (And.intro ow1 (And.intro gr1 b2));clear ow1 gr1 b2) | (refine step_append_row rfl (.tmp 43) (.tmp 46) 90 rfl W0.heap.size 3 i1 (.int .i64 0) 1 8 Tryz.underlying90 hi hy0 hy1 hy2 rfl (by decide) v1 (0+xo.length) ([]++intCells xo) rfl (by first | exact O1.out.1 | exact O1.out.1.alloc _) (fun _=>True) _ 1 [.int .i64 off] rfl (by first | exact one_row (new_at (by simp;done)) | exact one_row ((O1.out.2.1.block _ (by simp;try omega) (by simp;try omega)).trans (by first | exact new_at (by simp;done) | exact (Below.heap_alloc _ _ _ (by simp;try omega)).trans (new_at (by simp;done))))) (by intro u hu;simp at hu;subst hu;rfl) (by unfold maxLen;omega) (by omega) (by have:=O1.out.2.2.size;simp;try omega) ?_;intro v2 w3 ow2 gr2;have b3:Below W0.heap.size W0 w3:=(by first | exact Below.grown O1.out.2.2 gr2 O1.out.2.2.size (fun k hk=>(own_block O1.out.1 k hk).1) | exact Below.grown (O1.out.2.2.alloc O1.out.2.2.size _) gr2 (Nat.le_trans O1.out.2.2.size (by simp;try omega)) (fun k hk=>(own_block O1.out.1 k hk).1));have k1':w3.cell? ⟨b1,o1+k * 3+1,none⟩=some (.slice ak xo.length ck):=(cell_bel b3 _ hsz2).trans c1';have k2':w3.cell? ⟨w.heap.size,0,none⟩=some (.int .i64 off):=(cell_bel b3 _ hsz1).trans r0';have O2:=hid (And.intro ow2 b3);clear ow2 gr2 b3 O1))
        all_goals
          (have k3:w3.cell? ⟨b1,o1+k * 3+2,none⟩=some (.int .i64 xf):=(cell_bel O2.out.2 _ hsz2).trans c2'
           have BR:Hid (Below wr.heap.size wr w3):=(HD1.out.below wr.heap.size).trans (O2.out.2.mono (HD1.out.below 0).size)
           obtain⟨i0,hi0,hz0,hz1,hz2⟩:=info_parts Tryz.infoRun
           have O3:=O2.out.1
           simp only[Nat.zero_add,List.nil_append] at O3
           obtain⟨a2,p2,rfl⟩:=own_slice O3
           have O4:=hid O3
           clear O3
           have hl':=hr.out.len
           go_wp2_with (at_builtin;refine wpList_append_row rfl _ _ 84 rfl w1.heap.size 92 i0 (.agg #[.int .i64 0,.slice none 0 0,.int .i64 0]) 3 40 Tryz.underlying84 hi0 hz0 hz1 hz2 rfl (by decide) _ _ _ rfl ((hr.out.below BR.out).own.alloc _) (fun _=>True) _ 1 [.int .i64 step,.slice a2 (xo.length+1) p2,.int .i64 xf] rfl (three_cells _ _ _ _ _) (by intro u hu;simp at hu;rcases hu with rfl | rfl | rfl<;>rfl) (by unfold maxLen;omega) (by omega) (Nat.le_trans hr.out.bel.size (Nat.le_trans BR.out.size (by simp))) ?_)
           intro v5 w5 own5 gr5
           have HN:=hid ((hr.out.below BR.out).more HG.out hin (own_mono O4.out (Nat.le_trans hr.out.bel.size (HD1.out.below 0).size)) own5 gr5)
           clear own5 gr5
           go_wp2
           go_roundw
           case rel=>exact⟨k+1,_,_,by omega,by go_num,rfl,HN⟩
           case measure=>simp[intOf];omega)
      · go_wp2
        go_quiet ((go_at_call 71;exact Calls.quiet_of_same (HFar.out _)))
        revert nq;intro n1
        go_wp2
        go_roundw
        case rel=>exact⟨k+1,_,_,by omega,by go_num,rfl,hid ((hr.out.skip HG.out (by show ¬ En.far time xf≤P.win;omega)).below (bel_drewN (Below.refl _ _) _))⟩
        case measure=>simp[intOf];omega
    · go_wp2
      go_ret
      exact hr.out.done (by omega) HF.out HAL.out
end Go.Proofs.YtfldcmdhneegmaaGreatDoor

import Derived.Test.YtfldcmdhneegmaaGreatDoorY14
import Derived.Test.YtfldcmdhneegmaaGreatDoorY16
set_option maxHeartbeats 4000000
set_option maxRecDepth 1000000
namespace Go.Proofs.YtfldcmdhneegmaaGreatDoor
open Go.RowKit Go.Lib
theorem PEng.below {F F':Nat→Prop}{w w':World}{eb:Nat}{P:En.Pat}{W Next:Int}{vs vq vr:Value}{Q:List En.Ev}{A:List RV}(h:PEng F w eb P W Next vs vq vr Q A)(hb:Below w.heap.size w w')(hFF:∀b,F b→F' b):PEng F' w' eb P W Next vs vq vr Q A:=
 h.turned hb.size (fun b hlt _ _=>hb.block b hlt) ((hb.block _ (lt_of_block h.blk)).trans h.blk) (own_below h.wait hb) (fun g hg=>⟨hFF _ (h.wself g hg),Or.inl hg⟩) hFF
def FdEnd (F:Nat→Prop)(eb:Nat)(P:En.Pat)(W Next:Int)(vs vq vr:Value)(Q:List En.Ev)(A:List RV)(kind time:Int)(w:World)(e:Ending)(w':World):Prop:=
 e=.returned (.tuple #[.int .i64 (En.feed P W Next Q kind time).1.1,.int .i64 (En.feed P W Next Q kind time).1.2])∧∃vq' Q',Q'.Perm (En.feed P W Next Q kind time).2.2∧En.Hp Q' Q'.length∧PEng (newF F w.heap.size (.slice none 0 0) []) w' eb P W (En.feed P W Next Q kind time).2.1 vs vq' vr Q' A ∧
  w'.os=w.os∧w'.tape=w.tape∧w'.output=w.output∧w.heap.size≤w'.heap.size∧∀k,k < w.heap.size→k≠eb→some k≠vq.ownBlock→w'.heap[k]?=w.heap[k]?
theorem FdEnd.calm {F:Nat→Prop}{eb:Nat}{P:En.Pat}{W Next:Int}{vs vq vr:Value}{Q:List En.Ev}{A:List RV}{kind time:Int}{w w':World}{n m:Int}(h:PEng F w eb P W Next vs vq vr Q A)(hp:En.Hp Q Q.length)(hf:En.feed P W Next Q kind time=((n,m),Next,Q))(hb:Below w.heap.size w w'):FdEnd F eb P W Next vs vq vr Q A kind time w (.returned (.tuple #[.int .i64 n,.int .i64 m])) w':=by
 unfold FdEnd
 rw[hf]
 exact⟨rfl,vq,Q,List.Perm.refl _,hp,h.below hb (fun b hb=>Or.inl hb),hb.os,hb.tape,hb.output,hb.size,fun k hk _ _=>hb.block k hk⟩
theorem FdOk.far {F:Nat→Prop}{eb:Nat}{P:En.Pat}{W Next:Int}{vs vq vr:Value}{Q Q0:List En.Ev}{A:List RV}{w w':World}{e:Ending}(h:PEng F w eb P W Next vs vq vr Q A)(hf:FdOk F eb P W Next vs vq vr Q0 A w e w'){b:Nat}(hb:b < w.heap.size)(hF:¬ F b):w'.heap[b]?=w.heap[b]?:=by
 obtain⟨-,-,-,-,-,-,-,-,-,-,hk⟩:=hf
 exact hk b hb (fun e=>hF (by rw[e];exact h.self)) (fun e=>hF (h.wself b e.symm))
theorem sFeed_any (F:Nat→Prop)(sb eb:Nat)(P:En.Pat)(W Next kind time:Int)(vs vq vr:Value)(Q:List En.Ev)(A:List RV)(w:World)(hs:w.heap[sb]?=some (.cells #[.pointer (some ⟨eb,0,none⟩)] 74 (0,0)))(h:PEng F w eb P W Next vs vq vr Q A)(hFl:∀b,F b→b < w.heap.size)(hFs:¬ F sb)(hFe:¬ F 4)(hPn:P.steps.length≤100)(hN0:0≤Next)(hN1:Next≤9007199254740992)(hp:En.Hp Q Q.length)(hE:ErrType w) :
  Calls Tryz.prog 26 #[.pointer (some ⟨sb,0,none⟩),.agg #[.int .i32 kind,.int .i64 time]] w (FdEnd F eb P W Next vs vq vr Q A kind time w):=by
 have hal:=(Below.refl w.heap.size w).alloc (Nat.le_refl _) (.cells #[.int .i32 kind,.int .i64 time] 39)
 have hnew:(w.alloc (.cells #[.int .i32 kind,.int .i64 time] 39)).heap[w.heap.size]?=some (.cells #[.int .i32 kind,.int .i64 time] 39 (0,0)):=heap_alloc_new w _
 generalize hW1:w.alloc (.cells #[.int .i32 kind,.int .i64 time] 39)=W1 at hal hnew
 obtain⟨x0,x1,-⟩:=two_cl hnew
 have lsb:=lt_of_block hs
 have s0:=one_of ((hal.block _ lsb).trans hs)
 have lsb1:sb < W1.heap.size:=Nat.lt_of_lt_of_le lsb hal.size
 have lev:=lt_of_block hnew
 have hFn:¬ F w.heap.size:=fun e=>by have:=hFl _ e;omega
 have HH:=hid (And.intro h (And.intro hal (And.intro hE (And.intro hp (And.intro hFs (And.intro hFe hFn))))))
 have hP1:∀W',Below W1.heap.size W1 W'→PEng F W' eb P W Next vs vq vr Q A:=fun W' hW=>(h.below (F':=F) hal (fun _ hb=>hb)).below hW (fun _ hb=>hb)
 by_cases hlate:time≤W
 ·have hf0:En.feed P W Next Q kind time=((0,3),Next,Q):=by simp[En.feed,hlate]
  have HF0:=hid hf0
  clear hf0
  have HC:=hid (fun W' (hW:Below W1.heap.size W1 W')=>eFeed_late F eb P W Next kind time vs vq vr Q A W' (hP1 W' hW) hlate)
  clear h hnew hal hE hp hP1
  go_enter Tryz.func26,Tryz.ntmps26
  go_wp2
  go_region_held3 (fun W=>W.cell? ⟨sb,0,none⟩=some (.pointer (some ⟨eb,0,none⟩))∧W.cell? ⟨w.heap.size,0,none⟩=some (.int .i32 kind)∧W.cell? ⟨w.heap.size,1,none⟩=some (.int .i64 time)) (go_keep) ((go_at_call 59;have BW:Below W1.heap.size W1 _:=(by first | exact bel_drewN (Below.refl _ _) _ | exact Below.drew (Below.refl _ _) | exact Below.refl _ _);refine (HC.out _ BW).mono ?_;rintro e w2 ⟨rfl,hb2⟩;have B2:Below W1.heap.size W1 w2:=BW.trans (hb2.mono BW.size);have z0:=(cell_bel B2 ⟨sb,0,none⟩ lsb1).trans s0;have z1:=(cell_bel B2 ⟨w.heap.size,0,none⟩ lev).trans x0;have z2:=(cell_bel B2 ⟨w.heap.size,1,none⟩ lev).trans x1;have H2:=hid (HH.out.2.1.trans (B2.mono HH.out.2.1.size));clear hb2 B2 BW))
  go_wp2_with (go_at_call 33;refine (number_late _ _ _ (HH.out.2.2.1.below H2.out)).mono ?_;rintro e w3 ⟨rfl,hb3⟩;have H3:=hid (H2.out.trans (hb3.mono H2.out.size));clear hb3)
  go_ret2
  exact FdEnd.calm HH.out.1 HH.out.2.2.2.1 HF0.out H3.out
 ·have hlt:W < time:=by omega
  have HLt:=hid hlate
  cases hh:En.has P kind
  ·have HHs:=hid hh
   have HC:=hid (fun W' (hW:Below W1.heap.size W1 W')=>eFeed_other F eb P W Next kind time vs vq vr Q A W' (hP1 W' hW) hlt hPn hN0 hN1 hh hp)
   have HP1:=hid hP1
   clear h hnew hal hE hp hP1
   go_enter Tryz.func26,Tryz.ntmps26
   go_wp2
   go_region_held3 (fun W=>W.cell? ⟨sb,0,none⟩=some (.pointer (some ⟨eb,0,none⟩))∧W.cell? ⟨w.heap.size,0,none⟩=some (.int .i32 kind)∧W.cell? ⟨w.heap.size,1,none⟩=some (.int .i64 time)) (go_keep) ((go_at_call 59;have BW:Below W1.heap.size W1 _:=(by first | exact bel_drewN (Below.refl _ _) _ | exact Below.drew (Below.refl _ _) | exact Below.refl _ _);refine (HC.out _ BW).mono ?_;intro e w2 hf2;have hfar:=fun b (hb:b < W1.heap.size) (hF:¬ F b)=>(hf2.far (HP1.out _ BW) (Nat.lt_of_lt_of_le hb BW.size) hF).trans (BW.block b hb);have z0:=(World.cell?_of_block (a:=⟨sb,0,none⟩) (hfar sb lsb1 HH.out.2.2.2.2.1)).trans s0;have z1:=(World.cell?_of_block (a:=⟨w.heap.size,0,none⟩) (hfar w.heap.size lev HH.out.2.2.2.2.2.2)).trans x0;have z2:=(World.cell?_of_block (a:=⟨w.heap.size,1,none⟩) (hfar w.heap.size lev HH.out.2.2.2.2.2.2)).trans x1;obtain⟨rfl,hf3⟩:=hf2;have H2:=hid (And.intro hf3 BW);clear hf3 BW hfar))
   go_wp2_with (go_at_call 33;refine (number_nil _).mono ?_;rintro e w3 ⟨rfl,hw3⟩;have hw3':=hw3.symm;subst hw3')
   go_ret2
   obtain⟨⟨vq',Q',g1,g2,g3,g4,g5,g6,g7,g8⟩,hBW⟩:=H2.out
   have hB:=HH.out.2.1.trans (hBW.mono HH.out.2.1.size)
   have hf:En.feed P W Next Q kind time=((Next,0),Next+1,Q):=by simp[En.feed,HLt.out,HHs.out]
   unfold FdEnd
   rw[hf]
   refine⟨rfl,vq',Q',g1,g2,?_,g4.trans hB.os,g5.trans hB.tape,g6.trans hB.output,Nat.le_trans hB.size g7,fun k hk h1 h2=>(g8 k (Nat.lt_of_lt_of_le hk hB.size) h1 h2).trans (hB.block k hk)⟩
   refine g3.below (Below.refl _ _) (fun b hb=>?_)
   rcases hb with hb | ⟨hb,h1,h2⟩
   ·exact Or.inl hb
   ·exact Or.inr ⟨by have:=hB.size;omega,h1,h2⟩
  ·have HHs:=hid hh
   by_cases h12:12≤Q.length
   ·have hf0:En.feed P W Next Q kind time=((0,4),Next,Q):=by simp[En.feed,hlate,hh,h12]
    have HF0:=hid hf0
    clear hf0
    have HC:=hid (fun W' (hW:Below W1.heap.size W1 W')=>eFeed_full F eb P W Next kind time vs vq vr Q A W' (hP1 W' hW) hlt hPn hh hp h12)
    clear h hnew hal hE hp hP1
    go_enter Tryz.func26,Tryz.ntmps26
    go_wp2
    go_region_held3 (fun W=>W.cell? ⟨sb,0,none⟩=some (.pointer (some ⟨eb,0,none⟩))∧W.cell? ⟨w.heap.size,0,none⟩=some (.int .i32 kind)∧W.cell? ⟨w.heap.size,1,none⟩=some (.int .i64 time)) (go_keep) ((go_at_call 59;have BW:Below W1.heap.size W1 _:=(by first | exact bel_drewN (Below.refl _ _) _ | exact Below.drew (Below.refl _ _) | exact Below.refl _ _);refine (HC.out _ BW).mono ?_;rintro e w2 ⟨rfl,hb2⟩;have B2:Below W1.heap.size W1 w2:=BW.trans (hb2.mono BW.size);have z0:=(cell_bel B2 ⟨sb,0,none⟩ lsb1).trans s0;have z1:=(cell_bel B2 ⟨w.heap.size,0,none⟩ lev).trans x0;have z2:=(cell_bel B2 ⟨w.heap.size,1,none⟩ lev).trans x1;have H2:=hid (HH.out.2.1.trans (B2.mono HH.out.2.1.size));clear hb2 B2 BW))
    go_wp2_with (go_at_call 33;refine (number_full _ _ _ (HH.out.2.2.1.below H2.out)).mono ?_;rintro e w3 ⟨rfl,hb3⟩;have H3:=hid (H2.out.trans (hb3.mono H2.out.size));clear hb3)
    go_ret2
    exact FdEnd.calm HH.out.1 HH.out.2.2.2.1 HF0.out H3.out
   ·have H12:=hid h12
    have HC:=hid (fun W' (hW:Below W1.heap.size W1 W')=>eFeed_take F eb P W Next kind time vs vq vr Q A W' (hP1 W' hW) hlt hPn hN0 hN1 hh hp (by omega))
    have HP1:=hid hP1
    clear h hnew hal hE hp hP1
    go_enter Tryz.func26,Tryz.ntmps26
    go_wp2
    go_region_held3 (fun W=>W.cell? ⟨sb,0,none⟩=some (.pointer (some ⟨eb,0,none⟩))∧W.cell? ⟨w.heap.size,0,none⟩=some (.int .i32 kind)∧W.cell? ⟨w.heap.size,1,none⟩=some (.int .i64 time)) (go_keep) ((go_at_call 59;have BW:Below W1.heap.size W1 _:=(by first | exact bel_drewN (Below.refl _ _) _ | exact Below.drew (Below.refl _ _) | exact Below.refl _ _);refine (HC.out _ BW).mono ?_;intro e w2 hf2;have hfar:=fun b (hb:b < W1.heap.size) (hF:¬ F b)=>(hf2.far (HP1.out _ BW) (Nat.lt_of_lt_of_le hb BW.size) hF).trans (BW.block b hb);have z0:=(World.cell?_of_block (a:=⟨sb,0,none⟩) (hfar sb lsb1 HH.out.2.2.2.2.1)).trans s0;have z1:=(World.cell?_of_block (a:=⟨w.heap.size,0,none⟩) (hfar w.heap.size lev HH.out.2.2.2.2.2.2)).trans x0;have z2:=(World.cell?_of_block (a:=⟨w.heap.size,1,none⟩) (hfar w.heap.size lev HH.out.2.2.2.2.2.2)).trans x1;obtain⟨rfl,hf3⟩:=hf2;have H2:=hid (And.intro hf3 BW);clear hf3 BW hfar))
    go_wp2_with (go_at_call 33;refine (number_nil _).mono ?_;rintro e w3 ⟨rfl,hw3⟩;have hw3':=hw3.symm;subst hw3')
    go_ret2
    obtain⟨⟨vq',Q',g1,g2,g3,g4,g5,g6,g7,g8⟩,hBW⟩:=H2.out
    have hB:=HH.out.2.1.trans (hBW.mono HH.out.2.1.size)
    have hf:En.feed P W Next Q kind time=((Next,0),Next+1,Q++[⟨Next,kind,time⟩]):=by simp[En.feed,HLt.out,HHs.out,H12.out]
    unfold FdEnd
    rw[hf]
    refine⟨rfl,vq',Q',g1,g2,?_,g4.trans hB.os,g5.trans hB.tape,g6.trans hB.output,Nat.le_trans hB.size g7,fun k hk h1 h2=>(g8 k (Nat.lt_of_lt_of_le hk hB.size) h1 h2).trans (hB.block k hk)⟩
    refine g3.below (Below.refl _ _) (fun b hb=>?_)
    rcases hb with hb | ⟨hb,h1,h2⟩
    ·exact Or.inl hb
    ·exact Or.inr ⟨by have:=hB.size;omega,h1,h2⟩
def AvBody (F:Nat→Prop)(eb:Nat)(P:En.Pat)(Next t:Int)(vs:Value)(ψ:Int→Int)(K:Nat)(Q:List En.Ev)(A:List En.Rn)(w:World)(vm:Value)(w':World):Prop:=
 ∃(vq vr:Value) (L:List MV) (Q':List En.Ev) (A' B:List RV) (D:List En.Ev),En.advInc P A ((En.sortEv Q).filter fun e=>decide (e.time≤t))=some (L.map Prod.fst,B.map Prod.fst)∧A'=B.filter (fun x=>lastsP P.win t x.1)∧En.sortEv Q'=(En.sortEv Q).filter (fun e=>decide (t < e.time)) ∧
  AvPl P ψ A Q t K Q' B L D∧PEng (newF F w.heap.size vm L) w' eb P t Next vs vq vr Q' A'∧MOwn w.heap.size w' vm L∧w.grownBy w' (some eb)
theorem sAdvance_late (F:Nat→Prop)(sb eb:Nat)(P:En.Pat)(W Next t:Int)(vs vq vr:Value)(Q:List En.Ev)(A:List RV)(w:World)(hs:w.heap[sb]?=some (.cells #[.pointer (some ⟨eb,0,none⟩)] 74 (0,0)))(h:PEng F w eb P W Next vs vq vr Q A)(hlt:t < W)(hE:ErrType w) :
  Calls Tryz.prog 27 #[.pointer (some ⟨sb,0,none⟩),.int .i64 t] w fun e w'=>e=.returned (.tuple #[.slice none 0 0,.int .i64 3])∧Below w.heap.size w w':=by
 have s0:=one_of hs
 have HC:=hid (eAdvance_late F eb P W Next t vs vq vr Q A w h hlt)
 have HE:=hid hE
 clear h hE
 go_enter Tryz.func27,Tryz.ntmps27
 go_wp2_with (first | (go_at_call 60;refine HC.out.mono ?_;rintro e w2 ⟨rfl,hb2⟩;have H2:=hid hb2;clear hb2) | (go_at_call 33;refine (number_late _ _ _ (HE.out.below H2.out)).mono ?_;rintro e w3 ⟨rfl,hb3⟩;have H3:=hid (H2.out.trans (hb3.mono H2.out.size));clear hb3))
 go_ret2
 exact⟨rfl,H3.out⟩
theorem sAdvance_any (F:Nat→Prop)(sb eb:Nat)(P:En.Pat)(W Next t:Int)(vs vq vr:Value)(Q:List En.Ev)(A:List RV)(w:World)(hs:w.heap[sb]?=some (.cells #[.pointer (some ⟨eb,0,none⟩)] 74 (0,0)))(h:PEng F w eb P W Next vs vq vr Q A)(hge:W≤t)(hQ:Q.length≤12)(hP0:0 < P.steps.length)(hPn:P.steps.length≤100)(hw0:0≤P.win)(hw1:P.win≤9999)(ψ:Int→Int)(K:Nat)(hK:K≤90000)(hpl:AvPl P ψ (A.map Prod.fst) Q t K Q A [] [])(hE:ErrType w) :
  Calls Tryz.prog 27 #[.pointer (some ⟨sb,0,none⟩),.int .i64 t] w fun e w'=>(En.advInc P (A.map Prod.fst) ((En.sortEv Q).filter fun e=>decide (e.time≤t))=none∧e=.returned (.tuple #[.slice none 0 0,.int .i64 4])∧Below w.heap.size w w')∨∃vm,e=.returned (.tuple #[vm,.int .i64 0])∧AvBody F eb P Next t vs ψ K Q (A.map Prod.fst) w vm w':=by
 have s0:=one_of hs
 have HC:=hid (eAdvance_any F eb P W Next t vs vq vr Q A w h hge hQ hP0 hPn hw0 hw1 ψ K hK hpl)
 have HE:=hid hE
 clear h hE hpl
 go_enter Tryz.func27,Tryz.ntmps27
 go_wp2_with (go_at_call 60;fail)
 refine HC.out.mono ?_
 rintro e w2 (⟨h1,rfl,hb2⟩ | h2)
 ·have H2:=hid (And.intro h1 hb2)
  clear h1 hb2
  go_wp2_with (go_at_call 33;refine (number_full _ _ _ (HE.out.below H2.out.2)).mono ?_;rintro e w3 ⟨rfl,hb3⟩;have H3:=hid (H2.out.2.trans (hb3.mono H2.out.2.size));clear hb3)
  go_ret2
  exact Or.inl ⟨H2.out.1,rfl,H3.out⟩
 ·obtain⟨vm,vq2,vr2,L,Q',A',B,D,rfl,hrest⟩:=h2
  have H2:=hid hrest
  obtain⟨am,cm,rfl⟩:=own_slice hrest.2.2.2.2.2.1.row
  clear hrest
  go_wp2_with (go_at_call 33;refine (number_nil _).mono ?_;rintro e w3 ⟨rfl,hw3⟩;have hw3':=hw3.symm;subst hw3')
  go_ret2
  exact Or.inr ⟨_,rfl,vq2,vr2,L,Q',A',B,D,H2.out⟩
end Go.Proofs.YtfldcmdhneegmaaGreatDoor
namespace Go.Proofs.YtfldcmdhneegmaaGreatDoor
namespace En
def Agr (ψ T:Int→Int)(n:Int):Prop:=∀k,k < n→ψ k=T k
structure Pw (P:Pat)(W Next:Int)(Q:List Ev)(B:List Rn)(K:Nat)(T:Int→Int):Prop where
 w0:0≤P.win
 w1:P.win≤9999
 s0:0 < P.steps.length
 s4:P.steps.length≤4
 n0:0≤Next
 wlo:-9223372036854775808≤W
 q12:Q.length≤12
 evs:∀e∈Q,W < e.time∧e.time≤9223372036854775807∧e.off < Next∧e.time=T e.off
 apt:Apt Q
 ord:Ord B
 det:∀ψ,Agr ψ T Next→∀r∈B,Det ψ r
 lo:∀r∈B,-9223372036854775808≤r.first∧r.first≤W
 go:∀r∈B,r.step < P.steps.length∧goes P r.step=true
 b24:B.length≤24
 ofl:∀r∈B,r.offs.length≤K
def upd (T:Int→Int)(n t:Int)(k:Int):Int:=if k=n then t else T k
theorem Agr.upd {ψ T:Int→Int}{n n' t:Int}(h:Agr ψ (upd T n t) n')(hn:n≤n'):Agr ψ T n:=fun k hk=>by
 rw[h k (by omega)]
 unfold En.upd
 rw[if_neg (by omega)]
section
variable {P:Pat} {W Next:Int} {Q:List Ev} {B:List Rn} {K:Nat} {T:Int→Int}
theorem Pw.start (P:Pat)(w0:0≤P.win)(w1:P.win≤9999)(s0:0 < P.steps.length)(s4:P.steps.length≤4):Pw P (-9223372036854775808) 0 [] [] 0 (fun _=>0):=
 ⟨w0,w1,s0,s4,by omega,by omega,by simp,by simp,by simp[Apt],trivial,by simp,by simp,by simp,by simp,by simp⟩
theorem Pw.more {K':Nat}(h:Pw P W Next Q B K T)(hk:K≤K'):Pw P W Next Q B K' T:=⟨h.w0,h.w1,h.s0,h.s4,h.n0,h.wlo,h.q12,h.evs,h.apt,h.ord,h.det,h.lo,h.go,h.b24,fun r hr=>Nat.le_trans (h.ofl r hr) hk⟩
theorem Pw.fed (h:Pw P W Next Q B K T)(kind time:Int)(ht:time≤9223372036854775807) :
  Pw P W (feed P W Next Q kind time).2.1 (feed P W Next Q kind time).2.2 B K (upd T Next time)∧Next≤(feed P W Next Q kind time).2.1∧(feed P W Next Q kind time).2.1≤Next+1:=by
 have hE:∀e∈Q,∀n',Next≤n'→W < e.time∧e.time≤9223372036854775807∧e.off < n'∧e.time=upd T Next time e.off:=fun e he n' hn'=>by
  obtain⟨h1,h2,h3,h4⟩:=h.evs e he
  refine⟨h1,h2,by omega,?_⟩
  unfold upd
  rw[if_neg (by omega)]
  exact h4
 have hD:∀n',Next≤n'→∀ψ,Agr ψ (upd T Next time) n'→∀r∈B,Det ψ r:=fun n' hn' ψ ha r hr=>h.det ψ (ha.upd hn') r hr
 unfold feed
 split
 ·exact⟨⟨h.w0,h.w1,h.s0,h.s4,h.n0,h.wlo,h.q12,fun e he=>hE e he _ (by simp),h.apt,h.ord,hD _ (by simp),h.lo,h.go,h.b24,h.ofl⟩,by simp,by simp;omega⟩
 ·split
  ·exact⟨⟨h.w0,h.w1,h.s0,h.s4,h.n0,h.wlo,h.q12,fun e he=>hE e he _ (by simp),h.apt,h.ord,hD _ (by simp),h.lo,h.go,h.b24,h.ofl⟩,by simp,by simp;omega⟩
  ·rename_i hl hf
   have hn1:(0:Int)≤Next+1:=by have:=h.n0;omega
   refine⟨⟨h.w0,h.w1,h.s0,h.s4,hn1,h.wlo,?_,?_,?_,h.ord,hD _ (by simp;omega),h.lo,h.go,h.b24,h.ofl⟩,by simp;omega,by simp⟩
   ·show (if has P kind then Q++[⟨Next,kind,time⟩] else Q).length≤12
    split
    ·rename_i hh
     simp
     have:¬ 12≤Q.length:=fun h12=>hf ⟨hh,h12⟩
     omega
    ·exact h.q12
   ·intro e he
    have he':e∈Q∨e=⟨Next,kind,time⟩:=by
     revert he
     show e∈(if has P kind then Q++[⟨Next,kind,time⟩] else Q)→_
     split
     ·intro he
      simpa using he
     ·exact Or.inl
    rcases he' with he' | rfl
    ·exact hE e he' _ (by simp;omega)
    ·exact⟨by simpa using hl,ht,by simp;omega,by simp[upd]⟩
   ·show Apt (if has P kind then Q++[⟨Next,kind,time⟩] else Q)
    split
    ·unfold Apt
     rw[List.map_append,List.nodup_append]
     refine⟨h.apt,by simp,fun a ha b hb=>?_⟩
     obtain⟨e,he,rfl⟩:=List.mem_map.1 ha
     have:=(h.evs e he).2.2.1
     have hb':b=Next:=by simpa using hb
     omega
    ·exact h.apt
theorem ord_mono {l:List Ev}(h:InOrd l):∀(i j:Nat) (a b:Ev),i≤j→l[i]?=some a→l[j]?=some b→a.time≤b.time:=by
 intro i j a b hij ha hb
 have hj:j < l.length:=by
  rcases Nat.lt_or_ge j l.length with h | h
  ·exact h
  ·rw[List.getElem?_eq_none h] at hb;cases hb
 have h1:=h.at i j hij hj
 rw[nth_eq (by omega),nth_eq hj] at h1
 rw[List.getElem?_eq_getElem (by omega)] at ha
 rw[List.getElem?_eq_getElem hj] at hb
 cases ha
 cases hb
 rw[evLe_iff] at h1
 omega
theorem InOrd.filter {l:List Ev}(p:Ev→Bool)(h:InOrd l):InOrd (l.filter p):=by
 induction l with
 | nil=>exact trivial
 | cons x t ih=>
  rw[List.filter_cons]
  split
  ·exact⟨fun y hy=>h.1 y (List.mem_filter.1 hy).1,ih h.2⟩
  ·exact ih h.2
theorem Pw.ctx (h:Pw P W Next Q B K T)(t:Int)(ψ:Int→Int)(ha:Agr ψ T Next):Ctx P ([]++(sortEv Q).filter fun e=>decide (e.time≤t)) B ψ:=by
 have hm:∀d∈[]++(sortEv Q).filter (fun e=>decide (e.time≤t)),d∈Q:=fun d hd=>(sortEv_perm Q).mem_iff.1 (List.mem_filter.1 (show d∈(sortEv Q).filter (fun e=>decide (e.time≤t)) from hd)).1
 refine⟨h.w0,by have:=h.w1;omega,fun d hd=>?_,fun d hd=>?_,fun d hd=>(h.evs d (hm d hd)).2.1,ord_mono (by simpa using InOrd.filter _ (sortEv_ord Q)),h.det ψ ha,fun r hr=>(h.lo r hr).1,fun r hr d hd=>?_⟩
 ·obtain⟨-,-,h3,h4⟩:=h.evs d (hm d hd)
  rw[h4,ha _ h3]
 ·have:=(h.evs d (hm d hd)).1
  have:=h.wlo
  omega
 ·have:=(h.evs d (hm d hd)).1
  have:=(h.lo r hr).2
  omega
theorem lasts_filter (P:Pat)(t:Int)(l:List Rn):(l.filter fun r=>decide (0≤P.win - 1∧far t r.first≤P.win - 1))=l.filter (lastsP P.win t):=by
 apply List.filter_congr
 intro r _
 have h0:0≤far t r.first:=by unfold far;omega
 unfold lastsP
 apply decide_eq_decide.2
 omega
theorem Pw.adv (h:Pw P W Next Q B K T)(t:Int)(hW:W≤t)(ht:t≤9223372036854775807) :
  (advLoop P B t [] [] [] (sortEv Q)=none∧advInc P B ((sortEv Q).filter fun e=>decide (e.time≤t))=none)∨∃m B',advLoop P B t [] [] [] (sortEv Q)=some (m,(sortEv Q).filter (fun e=>decide (t < e.time)),(sortEv Q).filter fun e=>decide (e.time≤t))∧advInc P B ((sortEv Q).filter fun e=>decide (e.time≤t))=some (m,B') ∧
   under P ((sortEv Q).filter fun e=>decide (e.time≤t)) B t (P.win - 1)=B'.filter (lastsP P.win t) ∧
   (B'.length≤24→(∀r∈B',r.offs.length≤K+12)→Pw P t Next ((sortEv Q).filter fun e=>decide (t < e.time)) (B'.filter (lastsP P.win t)) (K+12) T):=by
 have C:=h.ctx t T (fun _ _=>rfl)
 have hc:=cover_start (P:=P) (old:=B) (ψ:=T) (h.det T (fun _ _=>rfl)) h.ord (fun r hr=>(h.lo r hr).1) h.go
 have hle:∀d∈(sortEv Q).filter (fun e=>decide (e.time≤t)),d.time≤t:=fun d hd=>of_decide_eq_true (List.mem_filter.1 hd).2
 rw[advLoop_eq]
 rcases adv_eq _ [] B C h.go hc with ⟨h1,h2⟩ | ⟨m,B',h1,h2,hC⟩
 ·exact Or.inl ⟨by rw[h1];rfl,h2⟩
 ·refine Or.inr ⟨m,B',by rw[h1];simp,h2,?_,fun h24 hofl=>?_⟩
  ·have:=under_later C h.go hC t ht (fun d hd=>hle d hd)
   rw[lasts_filter] at this
   simpa using this
  ·have hsub:∀r∈B'.filter (lastsP P.win t),r∈B':=fun r hr=>(List.mem_filter.1 hr).1
   refine⟨h.w0,h.w1,h.s0,h.s4,h.n0,by have:=h.wlo;omega,?_,fun e he=>?_,?_,ord_filter _ hC.ord,fun ψ ha r hr=>?_,fun r hr=>⟨hC.lo r (hsub r hr),?_⟩,fun r hr=>hC.go r (hsub r hr),Nat.le_trans (List.length_filter_le _ _) h24,fun r hr=>hofl r (hsub r hr)⟩
   ·refine Nat.le_trans (List.length_filter_le _ _) ?_
    rw[(sortEv_perm Q).length_eq]
    exact h.q12
   ·obtain⟨he1,he2⟩:=List.mem_filter.1 he
    obtain⟨-,e2,e3,e4⟩:=h.evs e ((sortEv_perm Q).mem_iff.1 he1)
    exact⟨of_decide_eq_true he2,e2,e3,e4⟩
   ·have h1:=h.apt.perm (sortEv_perm Q)
    exact List.Nodup.sublist (List.Sublist.map _ (List.filter_sublist)) h1
   ·have hc':=cover_start (P:=P) (old:=B) (ψ:=ψ) (h.det ψ ha) h.ord (fun r hr=>(h.lo r hr).1) h.go
    rcases adv_eq _ [] B (h.ctx t ψ ha) h.go hc' with ⟨-,h2'⟩ | ⟨m',B'',-,h2',hC'⟩
    ·rw[h2'] at h2;cases h2
    ·rw[h2'] at h2
     injection h2 with h2
     injection h2 with _ h2
     subst h2
     exact hC'.det r (hsub r hr)
   ·rcases hC.sub r (hsub r hr) with h3 | ⟨j,hj,h3⟩
    ·have:=(h.lo r h3).2
     omega
    ·have hd:=List.getElem?_eq_getElem hj
     have h4:=(good_ends C r.step j _ hd r h3).hi
     have h5:=hle (([]++(sortEv Q).filter fun e=>decide (e.time≤t))[j]) (List.getElem_mem hj)
     omega
theorem Pw.avpl {A:List RV}{Q':List Ev}{ψ:Int→Int}(h:Pw P W Next Q (A.map Prod.fst) K T)(hp:Hp Q' Q'.length)(hq:Q'.Perm Q)(t:Int)(ha:Agr ψ T Next):AvPl P ψ (A.map Prod.fst) Q' t K Q' A [] []:=by
 refine⟨by simp,by simp,by simp[advInc],hp,h.apt.perm hq,fun e he=>?_,h.ord,h.det ψ ha,fun x hx=>(h.go _ (List.mem_map_of_mem hx)).1,fun x hx=>?_,by simp,by simpa using h.b24,by simp⟩
 ·obtain⟨-,-,h3,h4⟩:=h.evs e (hq.mem_iff.1 he)
  rw[h4,ha _ h3]
 ·have:=h.ofl _ (List.mem_map_of_mem hx)
  simpa using this
theorem advInc_len (ψ:Int→Int)(l:List Ev):∀(K:Nat) (A B:List Rn) (m:List (List Int × Int)),(∀q∈A,Det ψ q)→(∀e∈l,e.time=ψ e.off)→(∀r∈A,r.offs.length≤K)→advInc P A l=some (m,B)→∀y∈m,y.1.length≤K+l.length:=by
 induction l with
 | nil=>
  intro K A B m _ _ _ h y hy
  simp[advInc] at h
  rw[h.1] at hy
  cases hy
 | cons ev rest ih=>
  intro K A B m hA hl hK h y hy
  have hev:=hl ev List.mem_cons_self
  have hnl:∀s,∀x∈news P A ev s,x.offs.length≤K+1:=fun s x hx=>by
   obtain⟨-,⟨-,rfl⟩ | ⟨q,hq,-,-,rfl⟩⟩:=(mem_news hA hev s x).1 hx
   ·simp
   ·have:=hK q hq
    simp[ext]
    omega
  have hN:∀s,∀q∈news P A ev s,Det ψ q:=fun s q hq=>(news_det hA hev s q hq).1
  have hn:∀x∈next P A ev,Det ψ x∧x.offs.length≤K+1:=fun x hx=>by
   rcases (mem_next hA hN x).1 hx with ⟨h1,-⟩ | ⟨s,-,-,h1⟩
   ·exact⟨hA x h1,by have:=hK x h1;omega⟩
   ·exact⟨hN s x h1,hnl s x h1⟩
  unfold advInc at h
  split at h
  ·cases h
  ·cases h':advInc P (next P A ev) rest with
   | none=>rw[h'] at h;cases h
   | some q=>
    obtain⟨m',B'⟩:=q
    rw[h'] at h
    simp only[Option.some.injEq,Prod.mk.injEq] at h
    rw[← h.1] at hy
    rcases List.mem_append.1 hy with h1 | h1
    ·obtain⟨r,hr,rfl⟩:=List.mem_map.1 h1
     have:=hnl _ r hr
     simp only[List.length_cons]
     omega
    ·have:=ih (K+1) (next P A ev) B' m' (fun x hx=>(hn x hx).1) (fun e he=>hl e (List.mem_cons_of_mem _ he)) (fun x hx=>(hn x hx).2) h' y h1
     simp only[List.length_cons]
     omega
theorem feed_perm (P:Pat)(W Next:Int){Q Q':List Ev}(hq:Q'.Perm Q)(kind time:Int):(feed P W Next Q' kind time).1=(feed P W Next Q kind time).1∧(feed P W Next Q' kind time).2.1=(feed P W Next Q kind time).2.1∧(feed P W Next Q' kind time).2.2.Perm (feed P W Next Q kind time).2.2:=by
 unfold feed
 rw[hq.length_eq]
 split
 ·exact⟨rfl,rfl,hq⟩
 ·split
  ·exact⟨rfl,rfl,hq⟩
  ·refine⟨rfl,rfl,?_⟩
   show (if has P kind then Q'++[⟨Next,kind,time⟩] else Q').Perm (if has P kind then Q++[⟨Next,kind,time⟩] else Q)
   split
   ·exact List.Perm.append_right _ hq
   ·exact hq
end
end En
end Go.Proofs.YtfldcmdhneegmaaGreatDoor
namespace Go.Proofs.YtfldcmdhneegmaaGreatDoor
open Go.RowKit Go.Lib
theorem own_frame {w w':World}{base:Nat}{e:TypeId}{size:Nat}{v:Value}{n:Nat}{xs:List Value}(h:w.ownsRow base e size v n xs)(hb:∀g,v.ownBlock=some g→w'.heap[g]?=w.heap[g]?):w'.ownsRow base e size v n xs:=by
 refine⟨h.1,?_⟩
 rcases h.2 with h2 | ⟨g,cap,cur,hv,hg,hh,r⟩
 ·exact Or.inl h2
 ·exact Or.inr ⟨g,cap,cur,hv,hg,(hb g (by rw[hv];rfl)).trans hh,r⟩
structure Moved (G:Nat→Prop)(w w':World):Prop where
 os:w'.os=w.os
 tape:w'.tape=w.tape
 output:w'.output=w.output
 size:w.heap.size≤w'.heap.size
 block:∀k,k < w.heap.size→¬ G k→w'.heap[k]?=w.heap[k]?
theorem Moved.ofBelow {G:Nat→Prop}{w w':World}(h:Below w.heap.size w w'):Moved G w w':=⟨h.os,h.tape,h.output,h.size,fun k hk _=>h.block k hk⟩
theorem Moved.trans {G G':Nat→Prop}{w w1 w2:World}(h:Moved G w w1)(h':Moved G' w1 w2)(hG:∀b,G' b→G b∨w.heap.size≤b):Moved G w w2:=
 ⟨h'.os.trans h.os,h'.tape.trans h.tape,h'.output.trans h.output,Nat.le_trans h.size h'.size,fun k hk hn=>(h'.block k (Nat.lt_of_lt_of_le hk h.size) (fun e=>(hG k e).elim hn (fun h=>by omega))).trans (h.block k hk hn)⟩
theorem Moved.mono {G G':Nat→Prop}{w w1:World}(h:Moved G w w1)(hG:∀b,G b→G' b):Moved G' w w1:=⟨h.os,h.tape,h.output,h.size,fun k hk hn=>h.block k hk (fun e=>hn (hG k e))⟩
section
variable {F F':Nat→Prop} {w w':World} {eb:Nat} {P:En.Pat} {W Next:Int} {vs vq vr:Value} {Q:List En.Ev} {A:List RV}
theorem PEng.frame (h:PEng F w eb P W Next vs vq vr Q A)(hs:w.heap.size≤w'.heap.size)(hb:∀b,b < w.heap.size→F b→w'.heap[b]?=w.heap[b]?):PEng F w' eb P W Next vs vq vr Q A where
 blk:=(hb eb (lt_of_block h.blk) h.self).trans h.blk
 self:=h.self
 steps:=RowAt.frame h.steps hs (fun b hlt hF=>hb b hlt hF.1)
 wait:=own_frame h.wait (fun g hg=>hb g (h.wait.lt g hg).2 (h.wself g hg))
 wself:=h.wself
 sq:=h.sq
 runs:=RowAt.mono (RowAt.frame (RowAt.mono (G:=fun b=>F b∧RunT w b∧b < w.heap.size) h.runs (fun b hlt hF=>⟨hF.1,hF.2,hlt⟩)) hs (fun b hlt hF=>hb b hlt hF.1)) (fun b _ hF=>⟨hF.1,by
  obtain⟨c,fz,h1⟩:=hF.2.1
  exact⟨c,fz,(hb b hF.2.2 hF.1).trans h1⟩⟩)
 offs:=fun x hx=>RowAt.mono (RowAt.frame (RowAt.mono (G:=fun b=>F b∧I64 w b∧b < w.heap.size) (h.offs x hx) (fun b hlt hF=>⟨hF.1,hF.2,hlt⟩)) hs (fun b hlt hF=>hb b hlt hF.1)) (fun b _ hF=>⟨hF.1,by
  obtain⟨c,fz,h1⟩:=hF.2.1
  exact⟨c,fz,(hb b hF.2.2 hF.1).trans h1⟩⟩)
theorem PEng.mono (h:PEng F w eb P W Next vs vq vr Q A)(hF:∀b,b < w.heap.size→F b→F' b):PEng F' w eb P W Next vs vq vr Q A where
 blk:=h.blk
 self:=hF _ (lt_of_block h.blk) h.self
 steps:=RowAt.mono h.steps (fun b hlt hb=>⟨hF b hlt hb.1,hb.2⟩)
 wait:=h.wait
 wself:=fun g hg=>hF g (h.wait.lt g hg).2 (h.wself g hg)
 sq:=h.sq
 runs:=RowAt.mono h.runs (fun b hlt hb=>⟨hF b hlt hb.1,hb.2⟩)
 offs:=fun x hx=>RowAt.mono (h.offs x hx) (fun b hlt hb=>⟨hF b hlt hb.1,hb.2⟩)
end
end Go.Proofs.YtfldcmdhneegmaaGreatDoor
namespace Go.Proofs.YtfldcmdhneegmaaGreatDoor
namespace En
def abP (win:Int):Pat:={ steps:=[(97,false),(98,false)],win:=win }
theorem Pw.first {P:Pat}{W Next:Int}{Q:List Ev}{B:List Rn}{K:Nat}{T:Int→Int}(h:Pw P W Next Q B K T)(t:Int)(hW:W≤t){m:List (List Int × Int)}{B':List Rn}(ha:advInc P B ((sortEv Q).filter fun e=>decide (e.time≤t))=some (m,B')) :
  ∀r∈B',-9223372036854775808≤r.first∧r.first≤t:=by
 have C:=h.ctx t T (fun _ _=>rfl)
 have hc:=cover_start (P:=P) (old:=B) (ψ:=T) (h.det T (fun _ _=>rfl)) h.ord (fun r hr=>(h.lo r hr).1) h.go
 have hle:∀d∈(sortEv Q).filter (fun e=>decide (e.time≤t)),d.time≤t:=fun d hd=>of_decide_eq_true (List.mem_filter.1 hd).2
 rcases adv_eq _ [] B C h.go hc with ⟨-,h2⟩ | ⟨m',B'',-,h2,hC⟩
 ·rw[h2] at ha;cases ha
 ·rw[h2] at ha
  injection ha with ha
  injection ha with _ ha
  subst ha
  intro r hr
  refine⟨hC.lo r hr,?_⟩
  rcases hC.sub r hr with h3 | ⟨j,hj,h3⟩
  ·have:=(h.lo r h3).2
   omega
  ·have hd:=List.getElem?_eq_getElem hj
   have h4:=(good_ends C r.step j _ hd r h3).hi
   have h5:=hle (([]++(sortEv Q).filter fun e=>decide (e.time≤t))[j]) (List.getElem_mem hj)
   omega
end En
end Go.Proofs.YtfldcmdhneegmaaGreatDoor
namespace Go.Proofs.YtfldcmdhneegmaaGreatDoor
open Go.RowKit Go.Lib
structure GEn (F:Nat→Prop)(w:World)(sb eb:Nat)(P:En.Pat)(W Next:Int)(vs vq vr:Value)(Q R:List En.Ev)(A:List RV)(K:Nat)(T:Int→Int):Prop where
 sblk:w.heap[sb]?=some (.cells #[.pointer (some ⟨eb,0,none⟩)] 74 (0,0))
 pe:PEng F w eb P W Next vs vq vr Q A
 hp:En.Hp Q Q.length
 perm:Q.Perm R
 pw:En.Pw P W Next R (A.map Prod.fst) K T
 lt:∀b,F b→b < w.heap.size
 ns:¬ F sb
def GAt (G:Nat→Prop)(w:World)(sb eb:Nat)(P:En.Pat)(W Next:Int)(R:List En.Ev)(B:List En.Rn)(K:Nat)(T:Int→Int):Prop:=
 ∃(F:Nat→Prop) (vs vq vr:Value) (Q:List En.Ev) (A:List RV),GEn F w sb eb P W Next vs vq vr Q R A K T∧A.map Prod.fst=B∧∀b,G b↔F b∨b=sb
section
variable {G:Nat→Prop} {w w':World} {sb eb:Nat} {P:En.Pat} {W Next:Int} {R:List En.Ev} {B:List En.Rn} {K:Nat} {T:Int→Int}
theorem GAt.pw (h:GAt G w sb eb P W Next R B K T):En.Pw P W Next R B K T:=by
 obtain⟨F,vs,vq,vr,Q,A,h1,rfl,h3⟩:=h
 exact h1.pw
theorem GAt.glt (h:GAt G w sb eb P W Next R B K T):∀b,G b→b < w.heap.size:=by
 obtain⟨F,vs,vq,vr,Q,A,h1,h2,h3⟩:=h
 intro b hb
 rcases (h3 b).1 hb with hb | rfl
 ·exact h1.lt b hb
 ·exact lt_of_block h1.sblk
theorem GAt.in2 (h:GAt G w sb eb P W Next R B K T):G sb∧G eb∧sb≠eb:=by
 obtain⟨F,vs,vq,vr,Q,A,h1,h2,h3⟩:=h
 exact⟨(h3 sb).2 (Or.inr rfl),(h3 eb).2 (Or.inl h1.pe.self),fun e=>h1.ns (by rw[e];exact h1.pe.self)⟩
theorem GAt.eng (h:GAt G w sb eb P W Next R B K T):∃c fz,w.heap[eb]?=some (.cells c 159 fz):=by
 obtain⟨F,vs,vq,vr,Q,A,h1,h2,h3⟩:=h
 exact⟨_,_,h1.pe.blk⟩
theorem GAt.frame (h:GAt G w sb eb P W Next R B K T)(hs:w.heap.size≤w'.heap.size)(hb:∀b,G b→w'.heap[b]?=w.heap[b]?):GAt G w' sb eb P W Next R B K T:=by
 obtain⟨F,vs,vq,vr,Q,A,h1,h2,h3⟩:=h
 exact⟨F,vs,vq,vr,Q,A,⟨(hb sb ((h3 sb).2 (Or.inr rfl))).trans h1.sblk,h1.pe.frame hs (fun b _ hF=>hb b ((h3 b).2 (Or.inl hF))),h1.hp,h1.perm,h1.pw,fun b hF=>Nat.lt_of_lt_of_le (h1.lt b hF) hs,h1.ns⟩,h2,h3⟩
theorem GAt.below (h:GAt G w sb eb P W Next R B K T)(hb:Below w.heap.size w w'):GAt G w' sb eb P W Next R B K T:=h.frame hb.size (fun b hG=>hb.block b (h.glt b hG))
end
def GFed (G:Nat→Prop)(sb eb:Nat)(P:En.Pat)(W Next:Int)(R:List En.Ev)(B:List En.Rn)(K:Nat)(T:Int→Int)(kind time:Int)(w w':World):Prop:=
 ∃G',GAt G' w' sb eb P W (En.feed P W Next R kind time).2.1 (En.feed P W Next R kind time).2.2 B K (En.upd T Next time)∧(∀b,G' b→G b∨w.heap.size≤b)∧(∀b,G b→G' b)∧Moved G w w'
def GAdv (G:Nat→Prop)(sb eb:Nat)(P:En.Pat)(Next:Int)(R:List En.Ev)(B:List En.Rn)(K:Nat)(T:Int→Int)(t:Int)(w:World)(vm:Value)(w':World):Prop:=
 ∃(L:List MV) (B':List En.Rn) (G':Nat→Prop),En.advInc P B ((En.sortEv R).filter fun e=>decide (e.time≤t))=some (L.map Prod.fst,B')∧MOwn w.heap.size w' vm L∧L.length≤1200000∧(∀y∈L,y.1.1.length≤K+12) ∧
  GAt G' w' sb eb P t Next ((En.sortEv R).filter fun e=>decide (t < e.time)) (B'.filter (lastsP P.win t)) (K+12) T∧(∀b,G' b→G b∨(w.heap.size≤b∧vm.ownBlock≠some b∧∀y∈L,y.2.ownBlock≠some b))∧(∀b,G b→G' b)∧w.grownBy w' (some eb)
end Go.Proofs.YtfldcmdhneegmaaGreatDoor

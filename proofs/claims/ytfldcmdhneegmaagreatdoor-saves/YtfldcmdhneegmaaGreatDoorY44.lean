import Derived.Test.YtfldcmdhneegmaaGreatDoorY43
import Derived.Test.YtfldcmdhneegmaaGreatDoorY29
set_option maxHeartbeats 4000000
set_option maxRecDepth 1000000
namespace Go.Proofs.YtfldcmdhneegmaaGreatDoor
open Go.RowKit Go.Lib
theorem rAdvance_late (F:Nat→Prop)(eb pb:Nat)(P:En.Pat)(W Next t:Int)(vs vw vd vo:Value)(Q D:List En.Ev)(old:List RV)(w:World)(h:REng F w eb pb P W Next vs vw vd vo Q D old)(hlt:t < W) :
  Calls Tryz.prog 18 #[.pointer (some ⟨eb,0,none⟩),.int .i64 t] w fun e w'=>e=.returned (.tuple #[.slice none 0 0,.int .i64 3])∧Below w.heap.size w w':=by
 have c1:=h.c1
 clear h
 go_enter Tryz.func18,Tryz.ntmps18
 go_wp2
 go_ret2
 exact⟨rfl,Below.refl _ _⟩
theorem refParse_long (s:ByteArray)(w:World)(hs:60 < s.size)(hm:s.size≤9223372036854775807) :
  Calls Tryz.prog 15 #[.string s] w fun e w'=>e=.returned (.tuple #[.pointer none,.int .i64 1])∧w'=w:=by
 have h1:(60:Int) < (s.size:Int):=by omega
 go_enter Tryz.func15,Tryz.ntmps15
 go_wp2
 go_ret2
 exact⟨rfl,rfl⟩
theorem bytes_eta (s:ByteArray):s=⟨s.data.toList.toArray⟩:=by cases s;simp
theorem SdAt.start {w w1 w2 w3 w4:World}{sb eb:Nat}{v vp:Value}{l:List (Int × Bool)}{win:Int}(hf:Pl.Fine l win)(h1:SNewAt w w1 sb eb v l win)(h2:PRel w1 w2 l vp win)(h3:w3=w2.alloc (.cells #[.pointer (some ⟨w1.heap.size,0,none⟩),.int .i64 (-9223372036854775808),.int .i64 0,.slice none 0 0,.slice none 0 0,.slice none 0 0] 86))(h4:w4=w3.alloc (.cells #[.pointer (some ⟨sb,0,none⟩),.pointer (some ⟨w2.heap.size,0,none⟩)] 128)) :
  ∃G,SdAt G w4 w3.heap.size 0∧(∀b,G b→w.heap.size≤b)∧Below w.heap.size w w4:=by
 have s1:=h1.bel.size
 have s2:=h2.bel.size
 have z3:w3.heap.size=w2.heap.size+1:=by rw[h3];simp
 have b23:Below w2.heap.size w2 w3:=by rw[h3];exact (Below.refl _ w2).alloc (Nat.le_refl _) _
 have b34:Below w3.heap.size w3 w4:=by rw[h4];exact (Below.refl _ w3).alloc (Nat.le_refl _) _
 have b24:Below w2.heap.size w2 w4:=b23.trans (b34.mono b23.size)
 have b14:Below w1.heap.size w1 w4:=h2.bel.trans (b24.mono s2)
 have hown:=own_below h1.own b14
 have hrow:=own_below h2.own b24
 have lsb:=lt_of_block h1.blk
 have leb:=lt_of_block h1.eng
 have lpb:=h2.lt
 have z4:w3.heap.size < w4.heap.size:=by rw[h4];simp
 have ksb:=(b14.block sb lsb).trans h1.blk
 have keb:=(b14.block eb leb).trans h1.eng
 have l1:=h1.lsb
 have l2:=h1.leb
 refine⟨_,⟨fun b=>w.heap.size≤b∧b < w1.heap.size∧b≠sb,fun b=>w1.heap.size≤b∧b < w2.heap.size,sb,eb,w2.heap.size,w1.heap.size,⟨l,win⟩,-9223372036854775808,0,v,.slice none 0 0,.slice none 0 0,vp,.slice none 0 0,.slice none 0 0,.slice none 0 0,[],[],[],[],0,fun _=>0,⟨?_,ksb,⟨keb,⟨l2,leb,fun e=>h1.ne e.symm⟩,?_,World.ownsRow_nil _ _ _ _,fun g hg=>(by cases hg),fun b _ hg=>(by cases hg),⟨rfl,Or.inl ⟨rfl,rfl⟩⟩,fun x hx=>(by cases hx)⟩,⟨?_,by omega,(b24.block _ lpb).trans h2.blk,by omega,by omega,?_,World.ownsRow_nil _ _ _ _,fun g hg=>(by cases hg),⟨rfl,Or.inl ⟨rfl,rfl⟩⟩,⟨⟨rfl,Or.inl ⟨rfl,rfl⟩⟩,fun x hx=>(by cases hx)⟩⟩,fun k _ hk=>by simp at hk,List.Perm.refl _,rfl,En.Pw.start _ ?_ ?_ ?_ ?_,by omega,?_,by omega,En.Px.start hf⟩,fun b=>Iff.rfl,by omega,by omega⟩,?_,?_⟩
 ·rw[h4]
  exact heap_alloc_new w3 _
 ·have hr:=RowAt.ofOwn hown
  rcases hr.2 with ⟨he,h0⟩ | ⟨b,o,cap,he,-,r1,r2,r3,r4⟩
  ·exact⟨hr.1,Or.inl ⟨he,h0⟩⟩
  ·have hv:v.ownBlock=some b:=by rw[he];rfl
   obtain⟨k1,c,fz,k2⟩:=own_block hown b hv
   have k3:=(h1.own.lt b hv).2
   refine⟨hr.1,Or.inr ⟨b,o,cap,he,⟨⟨k1,k3,fun e=>?_⟩,fun e=>?_⟩,r1,r2,r3,r4⟩⟩
   ·rw[e,ksb] at k2
    cases k2
   ·rw[e,keb] at k2
    cases k2
 ·refine (b34.block _ (by omega)).trans ?_
  rw[h3]
  exact heap_alloc_new w2 _
 ·have hr:=RowAt.ofOwn hrow
  rcases hr.2 with ⟨he,h0⟩ | ⟨b,o,cap,he,-,r1,r2,r3,r4⟩
  ·exact⟨hr.1,Or.inl ⟨he,h0⟩⟩
  ·have hv:vp.ownBlock=some b:=by rw[he];rfl
   have k1:=(own_block hrow b hv).1
   have k3:=(h2.own.lt b hv).2
   exact⟨hr.1,Or.inr ⟨b,o,cap,he,⟨by omega,k3⟩,r1,r2,r3,r4⟩⟩
 ·exact hf.w0
 ·exact hf.w9
 ·exact List.length_pos_iff.2 hf.ne
 ·exact hf.l4
 ·intro b hb
  refine⟨by omega,by omega,hb.2.2,by omega,fun e=>by cases e⟩
 ·rintro b (hb | hb | hb | hb | hb | hb)
  ·exact hb.1
  ·omega
  ·omega
  ·omega
  ·omega
  ·cases hb
 ·exact h1.bel.trans (b14.mono s1)
def SideEnd (w:World)(e:Ending)(w':World):Prop:=
 (e=.returned (.tuple #[.pointer none,.bool true])∧Below w.heap.size w w')∨∃cb G,e=.returned (.tuple #[.pointer (some ⟨cb,0,none⟩),.bool true])∧SdAt G w' cb 0∧(∀b,G b→w.heap.size≤b)∧Below w.heap.size w w'
theorem side_any (s:ByteArray)(w:World)(hE:EnvS w)(hm:s.size≤9223372036854775807) :
  Calls Tryz.prog 30 #[.string s] w (SideEnd w):=by
 have H1:=hid (sNew_any s w hE.g hm)
 unfold SNewEnd at H1
 unfold SideEnd
 by_cases h60:60 < s.size
 ·simp only[if_pos h60] at H1
  have H2:Hid (∀W,Calls Tryz.prog 15 #[.string s] W fun e w'=>e=.returned (.tuple #[.pointer none,.int .i64 1])∧Hid (w'=W)):=fun W=>(refParse_long s W h60 hm).mono fun e w' ⟨h1,h2⟩=>⟨h1,h2⟩
  clear hE h60
  go_enter Tryz.func30,Tryz.ntmps30
  go_wp2_with (first | (go_at_call 25;refine H1.out.mono ?_;rintro e w1 ⟨rfl,hb1⟩;have HB:=hid hb1;clear hb1) | (go_at_call 15;refine (H2.out _).mono ?_;rintro e w2 ⟨rfl,hw2⟩))
  go_ret2
  rw[hw2.out]
  exact Or.inl ⟨by simp,HB.out⟩
 ·simp only[if_neg h60] at H1
  obtain⟨l,rfl⟩:∃l:List UInt8,s=⟨l.toArray⟩:=⟨s.data.toList,bytes_eta s⟩
  have hl:l.length≤60:=by simp[ByteArray.size] at h60;omega
  have hq:=Pl.ref_parse l (l.length+1) (by omega)
  have H2:Hid (∀W,Below w.heap.size w W→Calls Tryz.prog 15 #[.string ⟨l.toArray⟩] W fun e w'=>RefEnd (Pl.parse ⟨l.toArray⟩) W e w'):=fun W hb=>by
   rw[← hq]
   exact refParse_any l W hl (hE.below hb).letters (hE.below hb).dec
  clear hq
  cases hp:Pl.parse ⟨l.toArray⟩ with
  | none=>
   rw[hp] at H1 H2
   have H1':Hid (Calls Tryz.prog 25 #[.string ⟨l.toArray⟩] w fun e w'=>e=.returned (.tuple #[.pointer none,.int .i64 2])∧Hid (Below w.heap.size w w')):=H1.out
   have H2':Hid (∀W,Below w.heap.size w W→Calls Tryz.prog 15 #[.string ⟨l.toArray⟩] W fun e w'=>e=.returned (.tuple #[.pointer none,.int .i64 2])∧Hid (Below W.heap.size W w')):=fun W hb=>(H2.out W hb).mono fun e w' h=>h
   clear hE h60 H1 H2 hp
   go_enter Tryz.func30,Tryz.ntmps30
   go_wp2_with (first | (go_at_call 25;refine H1'.out.mono ?_;rintro e w1 ⟨rfl,hb1⟩) | (go_at_call 15;refine (H2'.out _ hb1.out).mono ?_;rintro e w2 ⟨rfl,hb2⟩))
   go_ret2
   exact Or.inl ⟨by simp,hb1.out.trans (hb2.out.mono hb1.out.size)⟩
  | some q=>
   obtain⟨steps,win⟩:=q
   rw[hp] at H1 H2
   have HF:=hid (Pl.fine_parse hp)
   have H1':Hid (Calls Tryz.prog 25 #[.string ⟨l.toArray⟩] w fun e w'=>∃sb eb v,e=.returned (.tuple #[.pointer (some ⟨sb,0,none⟩),.int .i64 0])∧Hid (SNewAt w w' sb eb v steps win)):=H1.out
   have H2':Hid (∀W,Below w.heap.size w W→Calls Tryz.prog 15 #[.string ⟨l.toArray⟩] W fun e w'=>e=.returned (.tuple #[.pointer (some ⟨W.heap.size,0,none⟩),.int .i64 0])∧Hid (∃v,PRel W w' steps v win)):=fun W hb=>(H2.out W hb).mono fun e w' ⟨v,h1,h2⟩=>⟨h1,v,h2⟩
   clear hE h60 H1 H2 hp
   go_enter Tryz.func30,Tryz.ntmps30
   go_wp2_with (first | (go_at_call 25;refine H1'.out.mono ?_;rintro e w1 ⟨sb,eb,v,rfl,hb1⟩) | (go_at_call 15;refine (H2'.out _ hb1.out.bel).mono ?_;rintro e w2 ⟨rfl,hb2⟩) | (go_at_call 16;refine (rNew_any _ _).mono ?_;rintro e w3 ⟨rfl,hw3⟩;have H3:=hid hw3;clear hw3))
   go_ret2
   obtain⟨vp,hP⟩:=hb2.out
   obtain⟨G,g1,g2,g3⟩:=SdAt.start HF.out hb1.out hP H3.out rfl
   exact Or.inr ⟨_,G,rfl,g1,g2,g3⟩
def StepEnd (G:Nat→Prop)(cb n:Nat)(w:World)(e:Ending)(w':World):Prop:=
 e=.returned (.bool true)∧∃G',SdAt G' w' cb (n+1)∧(∀b,G' b→G b∨w.heap.size≤b)∧Moved G w w'
theorem FdEnd.after {F:Nat→Prop}{eb:Nat}{P:En.Pat}{W Next:Int}{vs vq vr:Value}{Q:List En.Ev}{A:List RV}{kind time:Int}{w w1 w2:World}{e:Ending}(h:FdEnd F eb P W Next vs vq vr Q A kind time w e w1)(hb:Below w1.heap.size w1 w2):FdEnd F eb P W Next vs vq vr Q A kind time w e w2:=by
 obtain⟨he,vq',Q',h1,h2,h3,h4,h5,h6,h7,h8⟩:=h
 exact⟨he,vq',Q',h1,h2,h3.frame hb.size (fun b hlt _=>hb.block b hlt),hb.os.trans h4,hb.tape.trans h5,hb.output.trans h6,Nat.le_trans h7 hb.size,fun k hk hn1 hn2=>(hb.block k (Nat.lt_of_lt_of_le hk h7)).trans (h8 k hk hn1 hn2)⟩
section
variable {F1 F2:Nat→Prop} {w w1 w2:World} {cb sb eb rb pb:Nat} {P:En.Pat} {W Next:Int} {vs vq vr vp vw vd vo:Value} {Q R:List En.Ev} {A old:List RV} {K:Nat} {T:Int→Int}
theorem SdIn.below (h:SdIn F1 F2 w cb sb eb rb pb P W Next vs vq vr vp vw vd vo Q R A old K T)(hb:Below w.heap.size w w1):SdIn F1 F2 w1 cb sb eb rb pb P W Next vs vq vr vp vw vd vo Q R A old K T:=
 h.frame hb.size (fun b hG=>hb.block b (h.glt b hG))
theorem SdIn.cells (h:SdIn F1 F2 w cb sb eb rb pb P W Next vs vq vr vp vw vd vo Q R A old K T):w.cell? ⟨cb,0,none⟩=some (.pointer (some ⟨sb,0,none⟩))∧w.cell? ⟨cb,1,none⟩=some (.pointer (some ⟨rb,0,none⟩))∧cb < w.heap.size:=
 ⟨by simp[World.cell?,h.blk],by simp[World.cell?,h.blk],lt_of_block h.blk⟩
end
theorem four_cl {w:World}{N:Nat}{x0 x1 x2 x3:Value}{t:TypeId}(h:w.heap[N]?=some (.cells #[x0,x1,x2,x3] t (0,0))):w.cell? ⟨N,0,none⟩=some x0∧w.cell? ⟨N,1,none⟩=some x1∧w.cell? ⟨N,2,none⟩=some x2∧w.cell? ⟨N,3,none⟩=some x3:=by
 simp[World.cell?,h]
theorem step_feed (G:Nat→Prop)(cb n:Nat)(two:Bool)(kind time:Int)(w:World)(h:SdAt G w cb n)(hn:n≤5000)(hE:ErrType w)(hG:¬ G 4)(ht:time≤9223372036854775807) :
  Calls Tryz.prog 31 #[.pointer (some ⟨cb,0,none⟩),.agg #[.int .i64 1,.bool two,.int .i32 kind,.int .i64 time]] w (StepEnd G cb n w):=by
 obtain⟨F1,F2,sb,eb,rb,pb,P,W,Next,vs,vq,vr,vp,vw,vd,vo,Q,R,A,old,K,T,h1,h2,h3,h4⟩:=h
 have hal:=(Below.refl w.heap.size w).alloc (Nat.le_refl _) (.cells #[.int .i64 1,.bool two,.int .i32 kind,.int .i64 time] 65)
 have hnew:(w.alloc (.cells #[.int .i64 1,.bool two,.int .i32 kind,.int .i64 time] 65)).heap[w.heap.size]?=some (.cells #[.int .i64 1,.bool two,.int .i32 kind,.int .i64 time] 65 (0,0)):=heap_alloc_new w _
 generalize hW1:w.alloc (.cells #[.int .i64 1,.bool two,.int .i32 kind,.int .i64 time] 65)=W1 at hal hnew
 obtain⟨x0,x1,x2,x3⟩:=four_cl hnew
 have lN:=lt_of_block hnew
 have hS:=h1.below hal
 obtain⟨c0,c1,lc⟩:=hS.cells
 obtain⟨m1,hm1⟩:∃x,(En.feed P W Next R kind time).1.1=x:=⟨_,rfl⟩
 obtain⟨m2,hm2⟩:∃x,(En.feed P W Next R kind time).1.2=x:=⟨_,rfl⟩
 have HF:Hid (∀V,Below W1.heap.size W1 V→Calls Tryz.prog 26 #[.pointer (some ⟨sb,0,none⟩),.agg #[.int .i32 kind,.int .i64 time]] V fun e w'=>e=.returned (.tuple #[.int .i64 m1,.int .i64 m2])∧Hid (∃V,Below W1.heap.size W1 V∧FdEnd F1 eb P W Next vs vq vr Q A kind time V e w')):=fun V hV=>by
  have hV':=hS.below hV
  have hq:=hV'.pw
  refine (sFeed_any F1 sb eb P W Next kind time vs vq vr Q A V hV'.sblk hV'.pe hV'.lt1 (fun e=>(hV'.d1 sb e).2.2.1 rfl) (fun e=>hG ((h2 _).2 (Or.inl e))) (by have:=hq.s4;omega) hq.n0 (by omega) hV'.hp (cell_below hV (cell_below hal hE))).mono (fun e w' hh=>⟨?_,V,hV,hh⟩)
  obtain⟨f1,-,-⟩:=En.feed_perm P W Next hV'.perm kind time
  rw[hh.1,f1,hm1,hm2]
 have HK:Hid (∀e v1,(∃V,Below W1.heap.size W1 V∧FdEnd F1 eb P W Next vs vq vr Q A kind time V e v1)→v1.cell? ⟨cb,0,none⟩=some (.pointer (some ⟨sb,0,none⟩))∧v1.cell? ⟨cb,1,none⟩=some (.pointer (some ⟨rb,0,none⟩))∧v1.cell? ⟨w.heap.size,2,none⟩=some (.int .i32 kind)∧v1.cell? ⟨w.heap.size,3,none⟩=some (.int .i64 time)∧W1.heap.size≤v1.heap.size):=fun e v1 ⟨V,hV,hF⟩=>by
  have hV':=hS.below hV
  obtain⟨q1,q2⟩:=hV'.fed1 hF
  have lV:=hV.size
  have k1:=(q2 cb (by omega) (fun e=>(h1.d1 cb e).2.1 rfl)).trans (hV.block cb lc)
  have k2:=(q2 w.heap.size (by omega) (fun e=>by have:=h1.lt1 _ e;omega)).trans (hV.block w.heap.size lN)
  exact⟨(World.cell?_of_block k1).trans c0,(World.cell?_of_block k1).trans c1,(World.cell?_of_block k2).trans x2,(World.cell?_of_block k2).trans x3,by omega⟩
 have HR:Hid (∀v1 e V2,(∃V,Below W1.heap.size W1 V∧FdEnd F1 eb P W Next vs vq vr Q A kind time V e v1)→Below v1.heap.size v1 V2→Calls Tryz.prog 17 #[.pointer (some ⟨rb,0,none⟩),.agg #[.int .i32 kind,.int .i64 time]] V2 fun e w'=>e=.returned (.tuple #[.int .i64 m1,.int .i64 m2])∧Hid ((w'.cell? ⟨cb,1,none⟩=some (.pointer (some ⟨rb,0,none⟩))∧w'.cell? ⟨w.heap.size,2,none⟩=some (.int .i32 kind)∧w'.cell? ⟨w.heap.size,3,none⟩=some (.int .i64 time))∧StepEnd G cb n w (.returned (.bool true)) w')):=fun v1 e V2 ⟨V,hV,hF⟩ hV2=>by
  have hV':=hS.below hV
  have hq:=hV'.pw
  have hF2:=hF.after hV2
  have hre:=hV'.other (hV'.fed1 hF2).1 (hV'.fed1 hF2).2
  refine (rFeed_any F2 rb pb P W Next vp vw vd vo R [] old V2 hre hq.s4 hq.q12 hq.n0 (by omega) kind time).mono (fun e w' hh=>⟨by rw[hh.1,hm1,hm2],?_,rfl,?_⟩)
  ·obtain⟨k0,k1,k2,k3,k4⟩:=HK.out _ _ ⟨V,hV,hF2⟩
   obtain⟨n1,n2,n3,n4⟩:=h1.ne
   have lc':=World.block_lt_of_cell? V2 _ k1
   have b1:=hh.2.1.block cb lc' (fun e=>n1 e.symm) (fun e=>n3 e.symm)
   have b2:=hh.2.1.block w.heap.size (World.block_lt_of_cell? V2 _ k2) (fun e=>by have:=lt_of_block h1.re.blk;omega) (fun e=>by have:=(h1.re.wait.lt _ e.symm).2;omega)
   exact⟨(World.cell?_of_block b1).trans k1,(World.cell?_of_block b2).trans k2,(World.cell?_of_block b2).trans k3⟩
  obtain⟨G',g1,g2,g3⟩:=hV'.fed2 ht h3 h4 hF2 hh
  have hb:=hal.trans (hV.mono hal.size)
  exact⟨G',g1,fun b hb'=>(g2 b hb').imp (h2 b).2 (fun h=>Nat.le_trans hb.size h),(Moved.ofBelow hb).trans g3 (fun b hb'=>Or.inl ((h2 b).2 hb'))⟩
 clear hal hnew h1 h2 h3 h4 hm1 hm2 hE hG hS
 go_enter Tryz.func31,Tryz.ntmps31
 go_wp2
 go_region_held3 (fun V=>V.cell? ⟨cb,0,none⟩=some (.pointer (some ⟨sb,0,none⟩))∧V.cell? ⟨w.heap.size,2,none⟩=some (.int .i32 kind)∧V.cell? ⟨w.heap.size,3,none⟩=some (.int .i64 time)) (go_keep) ((go_at_call 26;refine (HF.out _ (by first | exact bel_drewN (Below.refl _ _) _ | exact Below.drew (Below.refl _ _) | exact Below.refl _ _)).mono ?_;rintro e w1 ⟨rfl,hf1⟩;obtain⟨z0,z1,z2,z3,z4⟩:=HK.out _ _ hf1.out))
 have HF1:=hid (And.intro hf1 True.intro)
 clear hf1 x0 x1 x2 x3 c0 c1
 go_wp2
 go_region_held3 (fun V=>V.cell? ⟨cb,1,none⟩=some (.pointer (some ⟨rb,0,none⟩))∧V.cell? ⟨w.heap.size,2,none⟩=some (.int .i32 kind)∧V.cell? ⟨w.heap.size,3,none⟩=some (.int .i64 time)) (go_keep) ((go_at_call 17;refine (HR.out _ _ _ HF1.out.1.out (by first | exact bel_drewN (Below.refl _ _) _ | exact Below.drew (Below.refl _ _) | exact Below.refl _ _)).mono ?_;rintro e w2 ⟨rfl,hf2⟩;obtain⟨y1,y2,y3⟩:=hf2.out.1))
 have HF2:=hid (hf2.out.2)
 clear hf2
 go_wp2
 go_ret
 exact HF2.out
def AdvChain (w W1:World)(cb sb rb:Nat)(t c:Int)(E:World→Prop):Prop:=
 ∀V,Below W1.heap.size W1 V→Calls Tryz.prog 27 #[.pointer (some ⟨sb,0,none⟩),.int .i64 t] V fun e v1=>∃a1 n1 c1,e=.returned (.tuple #[.slice a1 n1 c1,.int .i64 c])∧Hid ((v1.cell? ⟨cb,0,none⟩=some (.pointer (some ⟨sb,0,none⟩))∧v1.cell? ⟨cb,1,none⟩=some (.pointer (some ⟨rb,0,none⟩))∧v1.cell? ⟨w.heap.size,3,none⟩=some (.int .i64 t)) ∧
  ∀V2,Below v1.heap.size v1 V2→Calls Tryz.prog 18 #[.pointer (some ⟨rb,0,none⟩),.int .i64 t] V2 fun e v2=>∃a2 n2 c2,e=.returned (.tuple #[.slice a2 n2 c2,.int .i64 c])∧Hid ((v2.cell? ⟨cb,1,none⟩=some (.pointer (some ⟨rb,0,none⟩))∧v2.cell? ⟨w.heap.size,3,none⟩=some (.int .i64 t)) ∧
   ∀V3,Below v2.heap.size v2 V3→Calls Tryz.prog 19 #[.slice a1 n1 c1,.slice a2 n2 c2] V3 fun e v3=>e=.returned (.bool true)∧Hid (∀V4,Below v3.heap.size v3 V4→E V4)))
theorem step_advW (w:World)(cb sb rb:Nat)(two:Bool)(kind t c:Int)(E:World→Prop)(hc0:w.cell? ⟨cb,0,none⟩=some (.pointer (some ⟨sb,0,none⟩)))(HA:AdvChain w (w.alloc (.cells #[.int .i64 2,.bool two,.int .i32 kind,.int .i64 t] 65)) cb sb rb t c E) :
  Calls Tryz.prog 31 #[.pointer (some ⟨cb,0,none⟩),.agg #[.int .i64 2,.bool two,.int .i32 kind,.int .i64 t]] w fun e w'=>e=.returned (.bool true)∧E w':=by
 have hal:=(Below.refl w.heap.size w).alloc (Nat.le_refl _) (.cells #[.int .i64 2,.bool two,.int .i32 kind,.int .i64 t] 65)
 have hnew:(w.alloc (.cells #[.int .i64 2,.bool two,.int .i32 kind,.int .i64 t] 65)).heap[w.heap.size]?=some (.cells #[.int .i64 2,.bool two,.int .i32 kind,.int .i64 t] 65 (0,0)):=heap_alloc_new w _
 generalize hW1:w.alloc (.cells #[.int .i64 2,.bool two,.int .i32 kind,.int .i64 t] 65)=W1 at hal hnew HA
 obtain⟨x0,x1,x2,x3⟩:=four_cl hnew
 have c0:=cell_below hal hc0
 have HA':=hid HA
 clear hal hnew hc0 HA
 go_enter Tryz.func31,Tryz.ntmps31
 go_wp2
 go_region_held3 (fun V=>V.cell? ⟨cb,0,none⟩=some (.pointer (some ⟨sb,0,none⟩))∧V.cell? ⟨w.heap.size,3,none⟩=some (.int .i64 t)) (go_keep) ((go_at_call 27;refine (HA'.out _ (by first | exact bel_drewN (Below.refl _ _) _ | exact Below.drew (Below.refl _ _) | exact Below.refl _ _)).mono ?_;rintro e w1 ⟨a1,n1,c1,rfl,hf1⟩;obtain⟨z0,z1,z3⟩:=hf1.out.1))
 have HR:=hid hf1.out.2
 clear hf1 x0 x1 x2 x3 c0
 go_wp2
 go_region_held3 (fun V=>V.cell? ⟨cb,1,none⟩=some (.pointer (some ⟨rb,0,none⟩))∧V.cell? ⟨w.heap.size,3,none⟩=some (.int .i64 t)) (go_keep) ((go_at_call 18;refine (HR.out _ (by first | exact bel_drewN (Below.refl _ _) _ | exact Below.drew (Below.refl _ _) | exact Below.refl _ _)).mono ?_;rintro e w2 ⟨a2,n2,c2,rfl,hf2⟩;obtain⟨y1,y3⟩:=hf2.out.1))
 have HM:=hid hf2.out.2
 clear hf2 HR z0 z1 z3
 go_wp2_with (go_at_call 19;refine (HM.out _ (by first | exact bel_drewN (Below.refl _ _) _ | exact Below.drew (Below.refl _ _) | exact Below.refl _ _)).mono ?_;rintro e w3 ⟨rfl,hf3⟩)
 go_ret
 exact⟨rfl,hf3.out _ (Below.refl _ _)⟩
theorem Spoilt.pre {L:List MV}{v:Value}{w w1 w2:World}(hb:Below w.heap.size w w1)(h:Spoilt L v w1 w2):Spoilt L v w w2:=
 ⟨h.os.trans hb.os,h.tape.trans hb.tape,h.output.trans hb.output,Nat.le_trans hb.size h.size,fun k hk h1 h2=>(h.block k (Nat.lt_of_lt_of_le hk hb.size) h1 h2).trans (hb.block k hk)⟩
theorem Spoilt.post {L:List MV}{v:Value}{w w1 w2:World}(h:Spoilt L v w w1)(hb:Below w1.heap.size w1 w2):Spoilt L v w w2:=
 ⟨hb.os.trans h.os,hb.tape.trans h.tape,hb.output.trans h.output,Nat.le_trans h.size hb.size,fun k hk h1 h2=>(hb.block k (Nat.lt_of_lt_of_le hk h.size)).trans (h.block k hk h1 h2)⟩
theorem AvBody.after {F:Nat→Prop}{eb:Nat}{P:En.Pat}{Next t:Int}{vs:Value}{ψ:Int→Int}{K:Nat}{Q:List En.Ev}{A:List En.Rn}{w w1 w2:World}{vm:Value}(h:AvBody F eb P Next t vs ψ K Q A w vm w1)(hb:Below w1.heap.size w1 w2):AvBody F eb P Next t vs ψ K Q A w vm w2:=by
 obtain⟨vq,vr,L,Q',A',B,D,h1,h2,h3,h4,h5,h6,h7⟩:=h
 exact⟨vq,vr,L,Q',A',B,D,h1,h2,h3,h4,h5.frame hb.size (fun b hlt _=>hb.block b hlt),h6.below hb,⟨hb.os.trans h7.os,hb.tape.trans h7.tape,hb.output.trans h7.output,Nat.le_trans h7.size hb.size,fun k hk hn=>(hb.block k (Nat.lt_of_lt_of_le hk h7.size)).trans (h7.block k hk hn)⟩⟩
theorem MRd.nil (w:World):MRd w (.slice none 0 0) []:=⟨⟨rfl,Or.inl ⟨rfl,rfl⟩⟩,fun x hx=>by cases hx⟩
section
variable {F1 F2:Nat→Prop} {w W1:World} {cb sb eb rb pb:Nat} {P:En.Pat} {W Next:Int} {vs vq vr vp vw vd vo:Value} {Q R:List En.Ev} {A old:List RV} {K:Nat} {T:Int→Int} {G:Nat→Prop} {n:Nat} {t c:Int}
theorem chain_nil (h:SdIn F1 F2 w cb sb eb rb pb P W Next vs vq vr vp vw vd vo Q R A old K T)(h2:∀b,G b↔SdG F1 F2 cb sb rb vw b)(h3:Next≤n)(h4:K≤12 * n)(hal:Below w.heap.size w W1)(hN:W1.cell? ⟨w.heap.size,3,none⟩=some (.int .i64 t))
  (hA:∀V,Below w.heap.size w V→Calls Tryz.prog 27 #[.pointer (some ⟨sb,0,none⟩),.int .i64 t] V fun e v1=>e=.returned (.tuple #[.slice none 0 0,.int .i64 c])∧Below V.heap.size V v1)
  (hR:∀V,Below w.heap.size w V→Calls Tryz.prog 18 #[.pointer (some ⟨rb,0,none⟩),.int .i64 t] V fun e v2=>e=.returned (.tuple #[.slice none 0 0,.int .i64 c])∧REng F2 v2 rb pb P W Next vp vw vd vo R [] old∧V.grownBy v2 (some rb)) :
  AdvChain w W1 cb sb rb t c (fun v=>StepEnd G cb n w (.returned (.bool true)) v):=by
 intro V hV
 have b1:=hal.trans (hV.mono hal.size)
 have lN:w.heap.size < W1.heap.size:=World.block_lt_of_cell? W1 _ hN
 refine (hA V b1).mono ?_
 rintro e v1 ⟨rfl,hb⟩
 have b2:=b1.trans (hb.mono b1.size)
 have bN:Below W1.heap.size W1 v1:=hV.trans (hb.mono hV.size)
 have hv1:=h.below b2
 refine⟨none,0,0,rfl,⟨hv1.cells.1,hv1.cells.2.1,(cell_bel bN ⟨w.heap.size,3,none⟩ lN).trans hN⟩,fun V2 hV2=>?_⟩
 have b3:=b2.trans (hV2.mono b2.size)
 refine (hR V2 b3).mono ?_
 rintro e v2 ⟨rfl,hre,gr⟩
 have hv2:=h.below b3
 obtain⟨z1,z2,z3,z4⟩:=hv2.ne
 have lcb:=lt_of_block hv2.blk
 have lsb:=lt_of_block hv2.sblk
 have lrb:=lt_of_block h.re.blk
 have fr:∀b,b < V2.heap.size→b≠rb→v2.heap[b]?=V2.heap[b]?:=fun b hb hn=>gr.block b hb (fun e=>hn (Option.some.inj e))
 have hS:SdIn F1 F2 v2 cb sb eb rb pb P W Next vs vq vr vp vw vd vo Q R A old K T:=
  ⟨(fr cb lcb (fun e=>z1 e.symm)).trans hv2.blk,(fr sb lsb (fun e=>z2 e.symm)).trans hv2.sblk,hv2.pe.frame gr.size (fun b hb hF=>fr b hb (fun e=>(h.d1 b hF).2.2.2.1 e)),hre,h.hp,h.perm,h.same,h.pw,fun b hF=>Nat.lt_of_lt_of_le (hv2.lt1 b hF) gr.size,h.d1,h.d2,h.px⟩
 have bN2:Below W1.heap.size W1 V2:=bN.trans (hV2.mono bN.size)
 have hcN:v2.cell? ⟨w.heap.size,3,none⟩=some (.int .i64 t):=(World.cell?_of_block (fr w.heap.size (Nat.lt_of_lt_of_le lN bN2.size) (by omega))).trans ((cell_bel bN2 ⟨w.heap.size,3,none⟩ lN).trans hN)
 refine⟨none,0,0,rfl,⟨hS.cells.2.1,hcN⟩,fun V3 hV3=>?_⟩
 refine (sameMatches_same 0 (.slice none 0 0) (.slice none 0 0) [] [] V3 (MOwn.nil _ _) (MRd.nil _) rfl (by simp) (by simp)).mono ?_
 rintro e v3 ⟨rfl,hsp⟩
 refine⟨rfl,fun V4 hV4=>?_⟩
 have hsp':=(hsp.pre hV3).post hV4
 refine⟨rfl,G,⟨F1,F2,sb,eb,rb,pb,P,W,Next,vs,vq,vr,vp,vw,vd,vo,Q,R,A,old,K,T,hS.frame hsp'.size (fun b hb=>hsp'.block b (hS.glt b hb) (by simp[Value.ownBlock]) (by simp)),h2,by omega,by omega⟩,fun b hb=>Or.inl hb,?_⟩
 refine⟨(hsp'.os.trans gr.os).trans b3.os,(hsp'.tape.trans gr.tape).trans b3.tape,(hsp'.output.trans gr.output).trans b3.output,Nat.le_trans b3.size (Nat.le_trans gr.size hsp'.size),fun k hk hn=>?_⟩
 refine (hsp'.block k (Nat.lt_of_lt_of_le hk (Nat.le_trans b3.size gr.size)) (by simp[Value.ownBlock]) (by simp)).trans ((fr k (Nat.lt_of_lt_of_le hk b3.size) (fun e=>hn ((h2 k).2 (Or.inr (Or.inr (Or.inr (Or.inr (Or.inl e)))))))).trans (b3.block k hk))
theorem chain_ok (h:SdIn F1 F2 w cb sb eb rb pb P W Next vs vq vr vp vw vd vo Q R A old K T)(h2:∀b,G b↔SdG F1 F2 cb sb rb vw b)(h3:Next≤n)(h4:K≤12 * n)(h5:K≤90000)(hWt:W≤t)(ht:t≤9223372036854775807)(hal:Below w.heap.size w W1)(hN:W1.cell? ⟨w.heap.size,3,none⟩=some (.int .i64 t))
  (hA:∀V,Below w.heap.size w V→Calls Tryz.prog 27 #[.pointer (some ⟨sb,0,none⟩),.int .i64 t] V fun e v1=>∃vm,e=.returned (.tuple #[vm,.int .i64 0])∧AvBody F1 eb P Next t vs T K Q (A.map Prod.fst) V vm v1)
  (hR:∀V,REng F2 V rb pb P W Next vp vw vd vo R [] old→Calls Tryz.prog 18 #[.pointer (some ⟨rb,0,none⟩),.int .i64 t] V fun e v2=>RaOk F2 rb pb P Next t vp vw R old V e v2) :
  AdvChain w W1 cb sb rb t 0 (fun v=>StepEnd G cb n w (.returned (.bool true)) v):=by
 intro V hV
 have b1:=hal.trans (hV.mono hal.size)
 have lN:w.heap.size < W1.heap.size:=World.block_lt_of_cell? W1 _ hN
 have hSV:=h.below b1
 have lV:=hV.size
 obtain⟨z1,z2,z3,z4⟩:=hSV.ne
 obtain⟨y1,y2,y3,y4,y5⟩:=hSV.apart
 have lcb:=lt_of_block hSV.blk
 have leb:=lt_of_block h.pe.blk
 have lrb:=lt_of_block h.re.blk
 refine (hA V b1).mono ?_
 rintro e v1 ⟨vm,rfl,hav⟩
 obtain⟨a1,c1,hvm⟩:∃a1 c1 n1,vm=.slice a1 n1 c1:=by
  obtain⟨-,-,L,-,-,-,-,-,-,-,-,-,h6,-⟩:=hav
  obtain⟨ao,cap,he⟩:=h6.len
  exact⟨ao,cap,_,he⟩
 obtain⟨n1,rfl⟩:=hvm
 have fr1:V.heap.size≤v1.heap.size∧∀b,b < V.heap.size→b≠eb→v1.heap[b]?=V.heap[b]?:=by
  obtain⟨-,-,L,-,-,-,-,-,-,-,-,-,-,h7⟩:=hav
  exact⟨h7.size,fun b hb hn=>h7.block b hb (fun e=>hn (Option.some.inj e))⟩
 have k1:=fr1.2 cb lcb y2
 have k2:=fr1.2 w.heap.size (by omega) (by omega)
 have cN:=(World.cell?_of_block k2).trans ((cell_bel hV ⟨w.heap.size,3,none⟩ lN).trans hN)
 refine⟨a1,n1,c1,rfl,⟨(World.cell?_of_block k1).trans hSV.cells.1,(World.cell?_of_block k1).trans hSV.cells.2.1,cN⟩,fun V2 hV2=>?_⟩
 have hav2:=hav.after hV2
 have frV:V.heap.size≤V2.heap.size∧∀b,b < V.heap.size→b≠eb→V2.heap[b]?=V.heap[b]?:=⟨Nat.le_trans fr1.1 hV2.size,fun b hb hn=>(hV2.block b (Nat.lt_of_lt_of_le hb fr1.1)).trans (fr1.2 b hb hn)⟩
 have hre:=hSV.other frV.1 (fun b hb hF=>frV.2 b hb (fun e=>hF (by rw[e];exact h.pe.self)))
 refine (hR V2 hre).mono ?_
 intro e v2 hra
 have gr2:V2.grownBy v2 (some rb):=by
  obtain⟨-,-,-,-,-,-,-,-,-,-,-,-,-,h8,-⟩:=hra
  exact h8
 obtain⟨vout,L,M,rfl,hmo,hrd,hLM,hLn,hLo,hfin⟩:=hSV.adv hWt ht h3 h4 h5 (fun _ _=>rfl) hav2 hra
 obtain⟨a2,c2,hvo,-,-⟩:=RowAt.slice hrd.row
 have fr2:∀b,b < V2.heap.size→b≠rb→v2.heap[b]?=V2.heap[b]?:=fun b hb hn=>gr2.block b hb (fun e=>hn (Option.some.inj e))
 have q1:=(fr2 cb (by have:=frV.1;omega) (fun e=>z1 e.symm)).trans (frV.2 cb lcb y2)
 have q2:=(fr2 w.heap.size (by have:=frV.1;omega) (by omega)).trans (frV.2 w.heap.size (by omega) (by omega))
 refine⟨a2,M.length,c2,by rw[hvo],⟨(World.cell?_of_block q1).trans hSV.cells.2.1,(World.cell?_of_block q2).trans ((cell_bel hV ⟨w.heap.size,3,none⟩ lN).trans hN)⟩,fun V3 hV3=>?_⟩
 rw[← hvo]
 refine (sameMatches_same V.heap.size _ _ L M V3 (hmo.below hV3) (hrd.below hV3) hLM hLn hLo).mono ?_
 rintro e v3 ⟨rfl,hsp⟩
 refine⟨rfl,fun V4 hV4=>⟨rfl,?_⟩⟩
 obtain⟨G',g1,g2,g3⟩:=hfin V4 ((hsp.pre hV3).post hV4)
 exact⟨G',g1,fun b hb=>(g2 b hb).imp (h2 b).2 (fun h=>Nat.le_trans b1.size h),(Moved.ofBelow b1).trans g3 (fun b hb=>Or.inl ((h2 b).2 hb))⟩
end
theorem step_adv (G:Nat→Prop)(cb n:Nat)(two:Bool)(kind t:Int)(w:World)(h:SdAt G w cb n)(hn:n≤5000)(hE:ErrType w)(ht:t≤9223372036854775807) :
  Calls Tryz.prog 31 #[.pointer (some ⟨cb,0,none⟩),.agg #[.int .i64 2,.bool two,.int .i32 kind,.int .i64 t]] w (StepEnd G cb n w):=by
 obtain⟨F1,F2,sb,eb,rb,pb,P,W,Next,vs,vq,vr,vp,vw,vd,vo,Q,R,A,old,K,T,h1,h2,h3,h4⟩:=h
 have hal:=(Below.refl w.heap.size w).alloc (Nat.le_refl _) (.cells #[.int .i64 2,.bool two,.int .i32 kind,.int .i64 t] 65)
 have hnew:(w.alloc (.cells #[.int .i64 2,.bool two,.int .i32 kind,.int .i64 t] 65)).heap[w.heap.size]?=some (.cells #[.int .i64 2,.bool two,.int .i32 kind,.int .i64 t] 65 (0,0)):=heap_alloc_new w _
 have hN:=(four_cl hnew).2.2.2
 have hp:=h1.pw
 have hB:Bds P [] old:=⟨hp.w0,hp.w1,hp.s4,by simp,by simpa using hp.b24,fun x hx=>by have:=hp.ofl _ (List.mem_map_of_mem hx);omega⟩
 have hsq:En.sortEv Q=En.sortEv R:=En.sortEv_congr h1.perm (hp.apt.perm h1.perm)
 have hpA:En.Pw P W Next R (A.map Prod.fst) K T:=by rw[h1.same];exact hp
 by_cases hlt:t < W
 ·refine (step_advW w cb sb rb two kind t 3 (fun v=>StepEnd G cb n w (.returned (.bool true)) v) h1.cells.1 (chain_nil h1 h2 h3 h4 hal hN (fun V hV=>?_) (fun V hV=>?_))).mono (fun e w' hh=>by rw[hh.1];exact hh.2)
  ·have hV':=h1.below hV
   exact sAdvance_late F1 sb eb P W Next t vs vq vr Q A V hV'.sblk hV'.pe hlt (cell_below hV hE)
  ·have hV':=h1.below hV
   exact (rAdvance_late F2 rb pb P W Next t vp vw vd vo R [] old V hV'.re hlt).mono (fun e w' hh=>⟨hh.1,hV'.re.below hh.2,⟨hh.2.os,hh.2.tape,hh.2.output,hh.2.size,fun b hb _=>hh.2.block b hb⟩⟩)
 ·have hadv:=hp.adv t (by omega) ht
  have hsA:∀V,Below w.heap.size w V→_:=fun V hV=>sAdvance_any F1 sb eb P W Next t vs vq vr Q A V (h1.below hV).sblk (h1.below hV).pe (by omega) (by rw[h1.perm.length_eq];exact hp.q12) hp.s0 (by have:=hp.s4;omega) hp.w0 hp.w1 T K (by omega) (hpA.avpl h1.hp h1.perm t (fun _ _=>rfl)) (cell_below hV hE)
  have hrA:∀V,REng F2 V rb pb P W Next vp vw vd vo R [] old→_:=fun V hV=>rAdvance_any F2 rb pb P W Next t vp vw vd vo R old V hV (by omega) hp.q12 hB hp.s0
  rcases hadv with ⟨hn1,hn2⟩ | ⟨m,B',hs1,hs2,-,-⟩
  ·refine (step_advW w cb sb rb two kind t 4 (fun v=>StepEnd G cb n w (.returned (.bool true)) v) h1.cells.1 (chain_nil h1 h2 h3 h4 hal hN (fun V hV=>?_) (fun V hV=>?_))).mono (fun e w' hh=>by rw[hh.1];exact hh.2)
   ·refine (hsA V hV).mono (fun e w' hh=>?_)
    rcases hh with hh | ⟨vm,-,vq',vr',L,Q',A',B,D,hc,-⟩
    ·exact hh.2
    ·rw[hsq,h1.same,hn2] at hc
     cases hc
   ·refine (hrA V (h1.below hV).re).mono (fun e w' hh=>?_)
    rcases hh with hh | ⟨vout,vrest,vo',L,R',D,old',hc,-⟩
    ·exact hh.2
    ·rw[hn1] at hc
     cases hc
  ·refine (step_advW w cb sb rb two kind t 0 (fun v=>StepEnd G cb n w (.returned (.bool true)) v) h1.cells.1 (chain_ok h1 h2 h3 h4 (by omega) (by omega) ht hal hN (fun V hV=>?_) (fun V hV=>?_))).mono (fun e w' hh=>by rw[hh.1];exact hh.2)
   ·refine (hsA V hV).mono (fun e w' hh=>?_)
    rcases hh with ⟨hc,-⟩ | hh
    ·rw[hsq,h1.same,hs2] at hc
     cases hc
    ·exact hh
   ·refine (hrA V hV).mono (fun e w' hh=>?_)
    rcases hh with ⟨hc,-⟩ | hh
    ·rw[hs1] at hc
     cases hc
    ·exact hh
theorem step_idle (cb:Nat)(two:Bool)(k kind t:Int)(w:World)(h1:k≠1)(h2:k≠2)(h3:k≤2) :
  Calls Tryz.prog 31 #[.pointer (some ⟨cb,0,none⟩),.agg #[.int .i64 k,.bool two,.int .i32 kind,.int .i64 t]] w fun e w'=>e=.returned (.bool true)∧Below w.heap.size w w':=by
 have k1:(k == 1)=false:=by simpa using h1
 have k2:(k == 2)=false:=by simpa using h2
 have k3:(k == 3)=false:=by simp;omega
 have k4:(k == 4)=false:=by simp;omega
 go_enter Tryz.func31,Tryz.ntmps31
 go_wp2
 go_ret
 exact⟨rfl,(Below.refl _ _).alloc (Nat.le_refl _) _⟩
end Go.Proofs.YtfldcmdhneegmaaGreatDoor

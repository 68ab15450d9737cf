import Derived.Test.YtfldcmdhneegmaaGreatDoorY05
import Derived.Lib.SliceRun
set_option maxHeartbeats 4000000
set_option maxRecDepth 1000000
namespace Go.Proofs.YtfldcmdhneegmaaGreatDoor
open Go.RowKit Go.Lib
structure Blks (bs:Nat)(Bs:List (List RV)):Prop where
 len:∀B∈Bs,B.length=bs
 srt:∀B∈Bs,Sm.Srt ltR B
theorem Blks.flat {bs:Nat}:∀{Bs:List (List RV)},Blks bs Bs→Bs.flatten.length=Bs.length * bs
 | [],_=>by simp
 | B::Bs,h=>by
  have ih:=Blks.flat (bs:=bs) (Bs:=Bs) ⟨fun B' h'=>h.len B' (List.mem_cons_of_mem _ h'),fun B' h'=>h.srt B' (List.mem_cons_of_mem _ h')⟩
  rw[List.flatten_cons,List.length_append,ih,h.len B List.mem_cons_self,List.length_cons,Nat.add_mul]
  omega
theorem Blks.more {bs:Nat}{Bs:List (List RV)}(h:Blks bs Bs){M:List RV}(h1:M.length=bs)(h2:Sm.Srt ltR M):Blks bs (Bs++[M]):=
 ⟨fun B hB=>by
  rcases List.mem_append.1 hB with hB | hB
  ·exact h.len B hB
  ·rw[List.mem_singleton.1 hB];exact h1,fun B hB=>by
  rcases List.mem_append.1 hB with hB | hB
  ·exact h.srt B hB
  ·rw[List.mem_singleton.1 hB];exact h2⟩
theorem Blks.nil (bs:Nat):Blks bs []:=⟨fun _ h=>(by cases h),fun _ h=>(by cases h)⟩
theorem Blks.tail {bs:Nat}{B:List RV}{Bs:List (List RV)}(h:Blks bs (B::Bs)):Blks bs Bs:=⟨fun B' h'=>h.len B' (List.mem_cons_of_mem _ h'),fun B' h'=>h.srt B' (List.mem_cons_of_mem _ h')⟩
def Stab1 (base g ob cap:Nat)(L:List RV)(w wr:World)(a:Nat):Prop:=∃Bs R,Blks 20 Bs∧Bs.flatten.length=a∧(Bs.flatten++R).Perm L∧SAt base g ob wr cap (Bs.flatten++R)∧w.grownBy wr (some g)
def Stab2 (base g ob cap:Nat)(L:List RV)(w wr:World)(bs:Nat):Prop:=∃Bs R,Blks bs Bs∧Sm.Srt ltR R∧R.length < bs∧(Bs.flatten++R).Perm L∧SAt base g ob wr cap (Bs.flatten++R)∧w.grownBy wr (some g)
def Stab3 (base g ob cap:Nat)(L:List RV)(w wr:World)(bs a:Nat):Prop:=∃Cs Bs R,Blks (2 * bs) Cs∧Blks bs Bs∧Sm.Srt ltR R∧R.length < bs∧Cs.flatten.length=a∧(Cs.flatten++(Bs.flatten++R)).Perm L∧SAt base g ob wr cap (Cs.flatten++(Bs.flatten++R))∧w.grownBy wr (some g)
def StabEnd (base g ob cap:Nat)(L:List RV)(w:World)(e:Ending)(w':World):Prop:=
 e=.returned (.tuple #[])∧∃M,M.Perm L∧Sm.Srt ltR M∧SAt base g ob w' cap M∧w.grownBy w' (some g)
section
variable {base g ob cap:Nat} {L:List RV} {w wr:World}
theorem Stab1.start (h:SAt base g ob w cap L):Stab1 base g ob cap L w w 0:=⟨[],L,Blks.nil _,rfl,List.Perm.refl _,h,grown_refl _ _⟩
theorem Stab1.one {a n:Nat}(h:Stab1 base g ob cap L w wr a)(hL:L.length=n)(hn:n≤1000000)(hb:a+20≤n) :
  Calls Tryz.prog 257 #[.slice (some ⟨g,0,none⟩) n cap,.int .i64 a,.int .i64 (a+20:Nat),.func (.func 254) #[] #[.pointer (some ⟨ob,0,none⟩)]] wr fun e w'=>e=.returned (.tuple #[])∧Stab1 base g ob cap L w w' (a+20):=by
 obtain⟨Bs,R,h1,h2,h3,h4,h5⟩:=h
 have hl:=h3.length_eq
 rw[List.length_append] at hl
 have e0:Bs.flatten++R=Bs.flatten++R.take 20++R.drop 20:=by rw[List.append_assoc,List.take_append_drop]
 have hlen:(Bs.flatten++R.take 20++R.drop 20).length=n:=by rw[← e0,List.length_append];omega
 have ht:(R.take 20).length=20:=by rw[List.length_take];omega
 rw[e0] at h4
 have key:=insertR_any base g ob cap Bs.flatten (R.take 20) (R.drop 20) wr h4 (by omega)
 rw[hlen,h2,ht] at key
 refine key.mono ?_
 rintro e w' ⟨he,M,p1,q1,s1,g1⟩
 refine⟨he,Bs++[M],R.drop 20,h1.more (by rw[p1.length_eq,ht]) q1,?_,?_,?_,grown_trans h5 g1⟩
 ·rw[List.flatten_append,List.length_append,h2];simp[p1.length_eq,ht]
 ·refine List.Perm.trans ?_ h3
  rw[e0]
  simp only[List.flatten_append,List.flatten_cons,List.flatten_nil,List.append_nil]
  exact (p1.append_left _).append_right _
 ·simpa using s1
theorem Stab1.last {a n:Nat}(h:Stab1 base g ob cap L w wr a)(hL:L.length=n)(hn:n≤1000000)(hb:n < a+20) :
  Calls Tryz.prog 257 #[.slice (some ⟨g,0,none⟩) n cap,.int .i64 a,.int .i64 n,.func (.func 254) #[] #[.pointer (some ⟨ob,0,none⟩)]] wr fun e w'=>e=.returned (.tuple #[])∧Stab2 base g ob cap L w w' 20:=by
 obtain⟨Bs,R,h1,h2,h3,h4,h5⟩:=h
 have hl:=h3.length_eq
 rw[List.length_append] at hl
 have e0:Bs.flatten++R=Bs.flatten++R++[]:=by simp
 have hlen:(Bs.flatten++R++[]).length=n:=by rw[← e0,List.length_append];omega
 have hr:a+R.length=n:=by omega
 rw[e0] at h4
 have key:=insertR_any base g ob cap Bs.flatten R [] wr h4 (by omega)
 rw[hlen,h2,hr] at key
 refine key.mono ?_
 rintro e w' ⟨he,M,p1,q1,s1,g1⟩
 refine⟨he,Bs,M,h1,q1,by rw[p1.length_eq];omega,(p1.append_left _).trans h3,by simpa using s1,grown_trans h5 g1⟩
theorem Stab2.start {bs:Nat}(h:Stab2 base g ob cap L w wr bs):Stab3 base g ob cap L w wr bs 0:=by
 obtain⟨Bs,R,h1,h2,h3,h4,h5,h6⟩:=h
 exact⟨[],Bs,R,Blks.nil _,h1,h2,h3,rfl,by simpa using h4,by simpa using h5,h6⟩
theorem Stab3.two {bs a n:Nat}(h:Stab3 base g ob cap L w wr bs a)(h0:0 < bs)(hL:L.length=n)(hn:n≤1000000)(hb:a+2 * bs≤n)(m b:Nat)(hm:m=a+bs)(hb':b=a+2 * bs) :
  Calls Tryz.prog 258 #[.slice (some ⟨g,0,none⟩) n cap,.int .i64 a,.int .i64 m,.int .i64 b,.func (.func 254) #[] #[.pointer (some ⟨ob,0,none⟩)]] wr fun e w'=>e=.returned (.tuple #[])∧Stab3 base g ob cap L w w' bs (a+2 * bs):=by
 obtain⟨Cs,Bs,R,h1,h2,h3,h4,h5,h6,h7,h8⟩:=h
 have hl:=h6.length_eq
 rw[List.length_append,List.length_append,h2.flat,h5] at hl
 have hB:∃B1 B2 Bs',Bs=B1::B2::Bs':=by
  match Bs,hl with
  | [],hl=>simp at hl;omega
  | [B],hl=>simp at hl;omega
  | B1::B2::Bs',_=>exact⟨B1,B2,Bs',rfl⟩
 obtain⟨B1,B2,Bs',rfl⟩:=hB
 have l1:=h2.len B1 (by simp)
 have l2:=h2.len B2 (by simp)
 have e0:Cs.flatten++((B1::B2::Bs').flatten++R)=Cs.flatten++B1++B2++(Bs'.flatten++R):=by simp
 have hlen:(Cs.flatten++B1++B2++(Bs'.flatten++R)).length=n:=by rw[← e0,h6.length_eq,hL]
 rw[e0] at h7
 refine (symR_any base g ob cap _ Cs.flatten B1 B2 (Bs'.flatten++R) wr h7 (Nat.le_refl _) (by omega) (by omega) (h2.srt B1 (by simp)) (h2.srt B2 (by simp)) n a m b hlen hn h5 (by omega) (by omega)).mono ?_
 rintro e w' ⟨he,M,p1,q1,s1,g1⟩
 have hM:M.length=2 * bs:=by rw[p1.length_eq,List.length_append];omega
 refine⟨he,Cs++[M],Bs',R,h1.more hM q1,h2.tail.tail,h3,h4,?_,?_,by simpa using s1,grown_trans h8 g1⟩
 ·rw[List.flatten_append,List.length_append,h5];simp[hM]
 ·refine List.Perm.trans ?_ h6
  rw[e0]
  simp only[List.flatten_append,List.flatten_cons,List.flatten_nil,List.append_nil]
  rw[List.append_assoc Cs.flatten B1 B2]
  exact (p1.append_left _).append_right _
theorem Stab3.end1 {bs a n:Nat}(h:Stab3 base g ob cap L w wr bs a)(h0:0 < bs)(hL:L.length=n)(hn:n≤1000000)(hb:n < a+2 * bs)(hb2:a+bs < n)(m:Nat)(hm:m=a+bs) :
  Calls Tryz.prog 258 #[.slice (some ⟨g,0,none⟩) n cap,.int .i64 a,.int .i64 m,.int .i64 n,.func (.func 254) #[] #[.pointer (some ⟨ob,0,none⟩)]] wr fun e w'=>e=.returned (.tuple #[])∧Stab2 base g ob cap L w w' (2 * bs):=by
 obtain⟨Cs,Bs,R,h1,h2,h3,h4,h5,h6,h7,h8⟩:=h
 have hl:=h6.length_eq
 rw[List.length_append,List.length_append,h2.flat,h5] at hl
 have hB:∃B,Bs=[B]:=by
  match Bs,hl with
  | [],hl=>simp at hl;omega
  | [B],_=>exact⟨B,rfl⟩
  | B1::B2::Bs',hl=>
   exfalso
   have:(B1::B2::Bs').length * bs=Bs'.length * bs+2 * bs:=by rw[List.length_cons,List.length_cons,Nat.add_mul,Nat.add_mul];omega
   rw[this] at hl
   omega
 obtain⟨B,rfl⟩:=hB
 have l1:=h2.len B (by simp)
 simp at hl
 have e0:Cs.flatten++([B].flatten++R)=Cs.flatten++B++R++[]:=by simp
 have hlen:(Cs.flatten++B++R++[]).length=n:=by rw[← e0,h6.length_eq,hL]
 rw[e0] at h7
 refine (symR_any base g ob cap _ Cs.flatten B R [] wr h7 (Nat.le_refl _) (by omega) (by omega) (h2.srt B (by simp)) h3 n a m n hlen hn h5 (by omega) (by omega)).mono ?_
 rintro e w' ⟨he,M,p1,q1,s1,g1⟩
 have hM:=p1.length_eq
 rw[List.length_append] at hM
 refine⟨he,Cs,M,h1,q1,by omega,?_,by simpa using s1,grown_trans h8 g1⟩
 refine List.Perm.trans ?_ h6
 simp only[List.flatten_cons,List.flatten_nil,List.append_nil]
 exact p1.append_left _
theorem Stab3.end2 {bs a n:Nat}(h:Stab3 base g ob cap L w wr bs a)(h0:0 < bs)(hL:L.length=n)(hb2:n≤a+bs):Stab2 base g ob cap L w wr (2 * bs):=by
 obtain⟨Cs,Bs,R,h1,h2,h3,h4,h5,h6,h7,h8⟩:=h
 have hl:=h6.length_eq
 rw[List.length_append,List.length_append,h2.flat,h5] at hl
 have hB:Sm.Srt ltR (Bs.flatten++R)∧(Bs.flatten++R).length < 2 * bs:=by
  match Bs,hl,h2 with
  | [],_,_=>exact⟨by simpa using h3,by simp;omega⟩
  | [B],hl,h2=>
   simp at hl
   obtain rfl:R=[]:=List.eq_nil_of_length_eq_zero (by omega)
   have:=h2.len B (by simp)
   exact⟨by simpa using h2.srt B (by simp),by simp;omega⟩
  | B1::B2::Bs',hl,_=>
   exfalso
   have:(B1::B2::Bs').length * bs=Bs'.length * bs+2 * bs:=by rw[List.length_cons,List.length_cons,Nat.add_mul,Nat.add_mul];omega
   rw[this] at hl
   omega
 exact⟨Cs,Bs.flatten++R,h1,hB.1,hB.2,h6,h7,h8⟩
theorem Stab2.fin {bs n:Nat}(h:Stab2 base g ob cap L w wr bs)(hL:L.length=n)(hb:n≤bs):StabEnd base g ob cap L w (.returned (.tuple #[])) wr:=by
 obtain⟨Bs,R,h1,h2,h3,h4,h5,h6⟩:=h
 have hl:=h4.length_eq
 rw[List.length_append,h1.flat] at hl
 have hB:Sm.Srt ltR (Bs.flatten++R):=by
  match Bs,hl,h1 with
  | [],_,_=>simpa using h2
  | [B],hl,h1=>
   simp at hl
   obtain rfl:R=[]:=List.eq_nil_of_length_eq_zero (by omega)
   simpa using h1.srt B (by simp)
  | B1::B2::Bs',hl,_=>
   exfalso
   have:(B1::B2::Bs').length * bs=Bs'.length * bs+2 * bs:=by rw[List.length_cons,List.length_cons,Nat.add_mul,Nat.add_mul];omega
   rw[this] at hl
   omega
 exact⟨rfl,_,h4,hB,h5,h6⟩
end
theorem stableR_any (base g ob cap:Nat)(L:List RV)(w:World)(h:SAt base g ob w cap L)(n:Nat)(hL:L.length=n)(hn:n≤1000000) :
  Calls Tryz.prog 225 #[.slice (some ⟨g,0,none⟩) n cap,.int .i64 n,.func (.func 254) #[] #[.pointer (some ⟨ob,0,none⟩)]] w (StabEnd base g ob cap L w):=by
 have HS:=hid (And.intro (Stab1.start h) hL)
 clear h hL
 go_enter Tryz.func225,Tryz.ntmps225
 go_wp2
 go_loopw [7,8] (fun va vb wr=>∃a:Nat,a≤n∧va=.int .i64 a∧vb=.int .i64 (a+20:Nat)∧Hid (Stab1 base g ob cap L w wr a)) (fun va _ _=>n - (intOf va).toNat)
 case atStart=>exact⟨0,by omega,rfl,by go_num,HS.out.1⟩
 case round=>
  obtain⟨a,han,rfl,rfl,hr⟩:=hrel
  have ea:((a+20:Nat):Int)=(a:Int)+20:=by omega
  by_cases hb:a+20≤n
  ·have hb':(a:Int)+20≤(n:Int):=by omega
   rw[ea]
   go_wp2_with (go_at_call 257;rw[← ea];refine (hr.out.one HS.out.2 hn hb).mono ?_;rintro e w1 ⟨rfl,h1⟩;have H1:=hid h1;clear h1;rw[ea])
   exact⟨⟨a+20,hb,by go_num,by go_num,H1.out⟩,by simp[intOf];omega⟩
  ·have hb':decide ((a:Int)+20≤(n:Int))=false:=decide_eq_false (by omega)
   rw[ea]
   go_wp2_with (go_at_call 257;refine (hr.out.last HS.out.2 hn (by omega)).mono ?_;rintro e w1 ⟨rfl,h1⟩;have H1:=hid h1;clear h1)
   clear hb hb' ea
   go_loopw [6] (fun vs wr=>∃bs:Nat,0 < bs∧bs≤2 * n+20∧vs=.int .i64 bs∧Hid (Stab2 base g ob cap L w wr bs)) (fun vs _=>2 * n+20 - (intOf vs).toNat)
   case atStart=>exact⟨20,by omega,by omega,rfl,H1.out⟩
   case round=>
    obtain⟨bs,h0,hbs,rfl,hr2⟩:=hrel
    by_cases hc:bs < n
    ·have hc':(bs:Int) < (n:Int):=by omega
     go_wp2
     go_loopw [7,8] (fun va vb wr=>∃a:Nat,a≤n∧va=.int .i64 a∧vb=.int .i64 (a+2 * bs:Nat)∧Hid (Stab3 base g ob cap L w wr bs a)) (fun va _ _=>n - (intOf va).toNat)
     case atStart=>exact⟨0,by omega,rfl,by go_num,hr2.out.start⟩
     case round=>
      obtain⟨a',han',rfl,rfl,hr3⟩:=hrel
      have ea:((a'+2 * bs:Nat):Int)=(a':Int)+2 * (bs:Int):=by omega
      have em:((a'+bs:Nat):Int)=(a':Int)+(bs:Int):=by omega
      by_cases hb:a'+2 * bs≤n
      ·have hb':(a':Int)+2 * (bs:Int)≤(n:Int):=by omega
       rw[ea]
       go_wp2_with (go_at_call 258;rw[← ea,← em];refine (hr3.out.two h0 HS.out.2 hn hb _ _ rfl rfl).mono ?_;rintro e w1 ⟨rfl,h1⟩;have H2:=hid h1;clear h1;rw[ea])
       exact⟨⟨a'+2 * bs,hb,by go_num,by go_num,H2.out⟩,by simp[intOf];omega⟩
      ·have hb':decide ((a':Int)+2 * (bs:Int)≤(n:Int))=false:=decide_eq_false (by omega)
       rw[ea]
       by_cases hm:a'+bs < n
       ·have hm':(a':Int)+(bs:Int) < (n:Int):=by omega
        go_wp2_with (go_at_call 258;rw[← em];refine (hr3.out.end1 h0 HS.out.2 hn (by omega) hm _ rfl).mono ?_;rintro e w1 ⟨rfl,h1⟩;have H2:=hid h1;clear h1;rw[em])
        exact⟨⟨2 * bs,by omega,by omega,by go_num,H2.out⟩,by simp[intOf];omega⟩
       ·have hm':decide ((a':Int)+(bs:Int) < (n:Int))=false:=decide_eq_false (by omega)
        go_wp2
        exact⟨⟨2 * bs,by omega,by omega,by go_num,hr3.out.end2 h0 HS.out.2 (by omega)⟩,by simp[intOf];omega⟩
    ·have hc':decide ((bs:Int) < (n:Int))=false:=decide_eq_false (by omega)
     go_wp2
     go_end0
     exact hr2.out.fin HS.out.2 (by omega)
theorem sortStableR_any (base g ob cap:Nat)(L:List RV)(w:World)(h:SAt base g ob w cap L)(n:Nat)(hL:L.length=n)(hn:n≤1000000) :
  Calls Tryz.prog 173 #[.slice (some ⟨g,0,none⟩) n cap,.func (.func 254) #[] #[.pointer (some ⟨ob,0,none⟩)]] w (StabEnd base g ob cap L w):=by
 go_enter Tryz.func173,Tryz.ntmps173
 have HS:=hid (And.intro h hL)
 clear h hL
 go_wp2_with (go_at_call 225;refine (stableR_any base g ob cap L _ HS.out.1 n HS.out.2 hn).mono ?_;rintro e w1 ⟨rfl,h1⟩;have H1:=hid h1;clear h1)
 go_end0
 exact⟨rfl,H1.out⟩
structure CmpAt (w:World)(cb ob:Nat):Prop where
 var:w.heap[cb]?=some (.cells #[.func (.func 254) #[] #[.pointer (some ⟨ob,0,none⟩)]] 292 (0,0))
 ord:OrdAt w ob
theorem CmpAt.below {w w':World}{cb ob:Nat}(h:CmpAt w cb ob)(hb:Below w.heap.size w w'):CmpAt w' cb ob:=⟨(hb.block _ (lt_of_block h.var)).trans h.var,h.ord.below hb⟩
theorem CmpAt.grown {base g ob cap cb:Nat}{w w':World}{l:List RV}(h:CmpAt w cb ob)(hS:SAt base g ob w cap l)(hg:w.grownBy w' (some g)):CmpAt w' cb ob:=
 ⟨(hg.block _ (lt_of_block h.var) (hS.ne h.var (by decide))).trans h.var,h.ord.grown hg (fun _ _ _ _ hi ht=>hS.ne hi ht)⟩
theorem arranged1_any (F G:Nat→Prop)(cb ob:Nat)(x y:RV)(w:World)(hC:CmpAt w cb ob)(hx:IntsAt F w x.2 x.1.offs)(hy:IntsAt G w y.2 y.1.offs) :
  Calls Tryz.prog 175 #[rval x,rval y,.pointer (some ⟨cb,0,none⟩)] w fun e w'=>e=.returned (.bool (decide (En.cmpR x.1 y.1=0)))∧Below w.heap.size w w':=by
 obtain⟨⟨s,xs,fst⟩,v⟩:=x
 obtain⟨⟨s',ys,fst'⟩,u⟩:=y
 dsimp only at hx hy ⊢
 obtain⟨ao,cap,rfl,-,-⟩:=RowAt.slice hx
 obtain⟨bo,cap',rfl,-,-⟩:=RowAt.slice hy
 obtain⟨W2,hW2⟩:∃W,(w.alloc (.cells #[.int .i64 s,.slice ao xs.length cap,.int .i64 fst] 164)).alloc (.cells #[.int .i64 s',.slice bo ys.length cap',.int .i64 fst'] 164)=W:=⟨_,rfl⟩
 have hb2:Below w.heap.size w W2:=by rw[← hW2];exact ((Below.refl _ _).alloc (Nat.le_refl _) _).alloc (by simp) _
 have kA:W2.heap[w.heap.size]?=some (.cells #[.int .i64 s,.slice ao xs.length cap,.int .i64 fst] 164 (0,0)):=by rw[← hW2];exact (Below.heap_alloc _ _ _ (by simp)).trans (heap_alloc_new w _)
 have kB:W2.heap[w.heap.size+1]?=some (.cells #[.int .i64 s',.slice bo ys.length cap',.int .i64 fst'] 164 (0,0)):=by rw[← hW2];exact new_at (by simp)
 have kC:=hC.below hb2
 have c1:W2.cell? ⟨cb,0,none⟩=some (.func (.func 254) #[] #[.pointer (some ⟨ob,0,none⟩)]):=by simp[World.cell?,kC.var]
 have d0:W2.cell? ⟨w.heap.size,0,none⟩=some (.int .i64 s):=by simp[World.cell?,kA]
 have d1:W2.cell? ⟨w.heap.size,1,none⟩=some (.slice ao xs.length cap):=by simp[World.cell?,kA]
 have d2:W2.cell? ⟨w.heap.size,2,none⟩=some (.int .i64 fst):=by simp[World.cell?,kA]
 have d3:W2.cell? ⟨w.heap.size+1,0,none⟩=some (.int .i64 s'):=by simp[World.cell?,kB]
 have d4:W2.cell? ⟨w.heap.size+1,1,none⟩=some (.slice bo ys.length cap'):=by simp[World.cell?,kB]
 have d5:W2.cell? ⟨w.heap.size+1,2,none⟩=some (.int .i64 fst'):=by simp[World.cell?,kB]
 obtain⟨q,hq⟩:∃q,En.cmpR ⟨s,xs,fst⟩ ⟨s',ys,fst'⟩=q:=⟨_,rfl⟩
 have HC:=hid (inTurn1_any F G ob (⟨s,xs,fst⟩,.slice ao xs.length cap) (⟨s',ys,fst'⟩,.slice bo ys.length cap') W2 kC.ord (hx.below hb2) (hy.below hb2))
 have HB:=hid hb2
 dsimp only at HC
 rw[hq] at HC ⊢
 clear hx hy hC hq kA kB kC hb2
 unfold rval at HC ⊢
 dsimp only at HC ⊢
 go_enter Tryz.func175,Tryz.ntmps175
 go_wp2_with (go_at_call 254;refine HC.out.mono ?_;rintro e w1 ⟨rfl,hb1⟩;have H1:=hid hb1;clear hb1)
 go_ret
 exact⟨rfl,HB.out.trans (H1.out.mono HB.out.size)⟩
theorem own_front {w:World}{base g n cap size:Nat}{e:TypeId}{xs:List Value}(h:w.ownsRow base e size (.slice (some ⟨g,0,none⟩) n cap) n xs)(k:Nat)(hk:k≤n):w.ownsRow base e size (.slice (some ⟨g,0,none⟩) k cap) k (xs.take (k * size)):=by
 obtain⟨hl,⟨he,-⟩ | ⟨g',cap',cur,he,h1,h2,h3,h4,h5,h6⟩⟩:=h
 ·cases he
 ·cases he
  have hkn:k * size≤n * size:=Nat.mul_le_mul_right _ hk
  refine⟨by rw[List.length_take];omega,Or.inr ⟨g,cap,cur,rfl,h1,h2,by omega,h4,h5,?_⟩⟩
  rw[← h6,List.take_take,Nat.min_eq_left hkn]
theorem own_behind {base g n cap size:Nat}{e:TypeId}{xs:List Value}:∀(vs:List Value) (o:Nat) (w:World),w.ownsRow base e size (.slice (some ⟨g,0,none⟩) n cap) n xs→xs.length≤o→(w.setCells g o vs).ownsRow base e size (.slice (some ⟨g,0,none⟩) n cap) n xs
 | [],_,_,h,_=>h
 | v::vs,o,w,h,ho=>by
  have h1:=own_write h o v
  rw[List.set_eq_of_length_le ho] at h1
  exact own_behind vs (o+1) _ h1 (by omega)
theorem grown_setCells {g:Nat}:∀(vs:List Value) (o:Nat) (w:World),w.grownBy (w.setCells g o vs) (some g)
 | [],_,_=>grown_refl _ _
 | v::vs,o,w=>grown_trans (grown_set w g o v) (grown_setCells vs (o+1) _)
theorem run_clear_runs (w:World)(b o n c:Nat)(hn:0 < n)(hc:∀j,j < n * 3→(w.cell? ⟨b,o+j,none⟩).isSome=true)(hf:∀j,j < n * 3→w.frozen? ⟨b,o+j,none⟩=false) :
  ∃vs,∀ty,(Builtin.clear_ #[157] ty #[.slice (some ⟨b,o,none⟩) n c]).run Tryz.prog w=.ok (.tuple #[]) (w.setCells b o vs):=by
 have ht:Tryz.prog.underlying 157=some (.slice 164):=Tryz.underlying157
 have hv:∀w,(zeroValue 164).run Tryz.prog w=.ok (.agg #[.int .i64 0,.slice none 0 0,.int .i64 0]) w:=Tryz.zeroValue164
 refine⟨(Builtin.zeroCells (Value.agg #[.int .i64 0,.slice none 0 0,.int .i64 0]).cells n).toList,fun ty=>?_⟩
 have hlen:(Builtin.zeroCells (Value.agg #[.int .i64 0,.slice none 0 0,.int .i64 0]).cells n).toList.length=n * 3:=by
  have:(Value.agg #[.int .i64 0,.slice none 0 0,.int .i64 0]).cells.size=3:=rfl
  simp[Builtin.zeroCells,this]
 have hone:∀v∈(Builtin.zeroCells (Value.agg #[.int .i64 0,.slice none 0 0,.int .i64 0]).cells n).toList,v.oneCell'=true:=by
  intro v hv
  have e:(Value.agg #[.int .i64 0,.slice none 0 0,.int .i64 0]).cells=#[.int .i64 0,.slice none 0 0,.int .i64 0]:=rfl
  rw[e] at hv
  simp[Builtin.zeroCells] at hv
  obtain⟨i,-,rfl⟩:=hv
  have:i % 3=0∨i % 3=1∨i % 3=2:=by omega
  rcases this with h | h | h<;>rw[h]<;>rfl
 have hst:=run_storeCells_cells (P:=Tryz.prog) b o (Builtin.zeroCells (Value.agg #[.int .i64 0,.slice none 0 0,.int .i64 0]).cells n).toList 0 w (by rw[hlen];simpa using hc) (by rw[hlen];simpa using hf) hone
 simp only[Nat.add_zero] at hst
 obtain⟨m,rfl⟩:∃m,n=m+1:=⟨n - 1,by omega⟩
 simp[Builtin.clear_,run_underlying ht,hv]
 rw[hst]
 rfl
theorem SAt.there {base g ob:Nat}{w:World}{cap:Nat}{l:List RV}(h:SAt base g ob w cap l)(j:Nat)(hj:j < cap * 3):(w.cell? ⟨g,j,none⟩).isSome=true:=by
 rcases h.row.2 with ⟨he,-⟩ | ⟨g',cap',cur,he,-,hg,-,-,hs,-⟩
 ·cases he
 ·cases he
  simp[World.cell?,hg,hs,hj]
def upR:RV→List RV→List RV
 | _,[]=>[]
 | x,y::t=>if En.cmpR y.1 x.1=0 then upR y t else y::upR y t
def cmpctR:List RV→List RV
 | []=>[]
 | x::t=>x::upR x t
theorem upR_snoc (l:List RV)(x z y:RV):upR x (l++[z]++[y])=upR x (l++[z])++(if En.cmpR y.1 z.1=0 then [] else [y]):=by
 induction l generalizing x with
 | nil=>simp only[List.nil_append,List.cons_append,upR];split<;>split<;>simp
 | cons a l ih=>
  simp only[List.cons_append,upR] at ih ⊢
  rw[ih]
  split<;>simp
theorem cmpct_snoc (l:List RV)(z y:RV):cmpctR (l++[z]++[y])=cmpctR (l++[z])++(if En.cmpR y.1 z.1=0 then [] else [y]):=by
 cases l with
 | nil=>simp only[List.nil_append,List.cons_append,cmpctR,upR]
 | cons a l=>
  have:=upR_snoc l a z y
  simp only[List.cons_append,cmpctR] at this ⊢
  rw[this]
theorem cmpct_take (D:List RV)(p:Nat)(hp:p+1 < D.length):cmpctR (D.take (p+1+1))=cmpctR (D.take (p+1))++(if En.cmpR D[p+1].1 D[p].1=0 then [] else [D[p+1]]):=by
 have e1:D.take (p+1)=D.take p++[D[p]]:=by rw[List.take_succ_eq_append_getElem (by omega)]
 have e2:D.take (p+1+1)=D.take p++[D[p]]++[D[p+1]]:=by rw[List.take_succ_eq_append_getElem hp,e1]
 rw[e2,e1]
 exact cmpct_snoc _ _ _
theorem upR_len:∀(l:List RV) (x:RV),(upR x l).length≤l.length
 | [],_=>by simp[upR]
 | y::t,x=>by
  unfold upR
  have:=upR_len t y
  split<;>simp<;>omega
theorem cmpct_len (l:List RV):(cmpctR l).length≤l.length:=by
 cases l with
 | nil=>simp[cmpctR]
 | cons x t=>simp[cmpctR,upR_len]
theorem upR_mem:∀(l:List RV) (x z:RV),z∈upR x l→z∈l
 | [],_,_,h=>by simp[upR] at h
 | y::t,x,z,h=>by
  unfold upR at h
  split at h
  ·exact List.mem_cons_of_mem _ (upR_mem t y z h)
  ·rcases List.mem_cons.1 h with h | h
   ·rw[h];exact List.mem_cons_self
   ·exact List.mem_cons_of_mem _ (upR_mem t y z h)
theorem cmpct_mem (l:List RV)(z:RV)(h:z∈cmpctR l):z∈l:=by
 cases l with
 | nil=>simp[cmpctR] at h
 | cons x t=>
  rcases List.mem_cons.1 h with h | h
  ·rw[h];exact List.mem_cons_self
  ·exact List.mem_cons_of_mem _ (upR_mem t x z h)
theorem cmpct_short (D:List RV)(h:D.length < 2):cmpctR D=D:=by
 match D,h with
 | [],_=>rfl
 | [x],_=>rfl
 | x::y::t,h=>simp at h;omega
def Cp1 (base g ob cb cap:Nat)(D:List RV)(w wr:World)(k:Nat):Prop:=cmpctR (D.take k)=D.take k∧SAt base g ob wr cap D∧CmpAt wr cb ob∧w.grownBy wr (some g)
def Cp2 (base g ob cb cap:Nat)(D:List RV)(w wr:World)(k p:Nat):Prop:=∃E:List RV,E.length=D.length∧E.drop (p - 1)=D.drop (p - 1)∧E.take k=cmpctR (D.take p)∧(∀x∈E,x∈D)∧SAt base g ob wr cap E∧CmpAt wr cb ob∧w.grownBy wr (some g)
def CompEnd (base g ob cap:Nat)(D:List RV)(w:World)(e:Ending)(w':World):Prop:=
 e=.returned (.slice (some ⟨g,0,none⟩) (cmpctR D).length cap)∧SAt base g ob w' cap (cmpctR D)∧w.grownBy w' (some g)
section
variable {base g ob cb cap:Nat} {D:List RV} {w wr:World}
theorem SAt.pair (h:SAt base g ob wr cap D)(hC:CmpAt wr cb ob){i j:Nat}(hi:i < D.length)(hj:j < D.length):∃ai ni ci aj nj cj,
  wr.cell? ⟨g,i * 3,none⟩=some (.int .i64 D[i].1.step)∧wr.cell? ⟨g,i * 3+1,none⟩=some (.slice ai ni ci)∧wr.cell? ⟨g,i * 3+2,none⟩=some (.int .i64 D[i].1.first) ∧
  wr.cell? ⟨g,j * 3,none⟩=some (.int .i64 D[j].1.step)∧wr.cell? ⟨g,j * 3+1,none⟩=some (.slice aj nj cj)∧wr.cell? ⟨g,j * 3+2,none⟩=some (.int .i64 D[j].1.first) ∧
  D[i].2=.slice ai ni ci ∧
  ∀W,Below wr.heap.size wr W→Calls Tryz.prog 175 #[.agg #[.int .i64 D[i].1.step,.slice ai ni ci,.int .i64 D[i].1.first],.agg #[.int .i64 D[j].1.step,.slice aj nj cj,.int .i64 D[j].1.first],.pointer (some ⟨cb,0,none⟩)] W fun e w'=>e=.returned (.bool (decide (En.cmpR D[i].1 D[j].1=0)))∧Below W.heap.size W w':=by
 obtain⟨ai,ni,ci,vi,i0,i1,i2⟩:=h.get hi
 obtain⟨aj,nj,cj,vj,j0,j1,j2⟩:=h.get hj
 refine⟨ai,ni,ci,aj,nj,cj,i0,i1,i2,j0,j1,j2,vi,fun W hW=>?_⟩
 have:=arranged1_any _ _ cb ob D[i] D[j] W (hC.below hW) ((h.below hW).offs _ (List.getElem_mem hi)) ((h.below hW).offs _ (List.getElem_mem hj))
 unfold rval at this
 rw[vi,vj] at this
 exact this
theorem Cp1.step {k:Nat}(h:Cp1 base g ob cb cap D w wr (k+1))(hk:k+1 < D.length)(hne:En.cmpR D[k+1].1 D[k].1≠0){w':World}(hb:Below wr.heap.size wr w'):Cp1 base g ob cb cap D w w' (k+1+1):=by
 obtain⟨h1,h2,h3,h4⟩:=h
 refine⟨?_,h2.below hb,h3.below hb,grown_trans h4 (grown_below hb _)⟩
 rw[cmpct_take D k hk,if_neg hne,h1,List.take_succ_eq_append_getElem hk]
theorem Cp1.turn {k:Nat}(h:Cp1 base g ob cb cap D w wr (k+1))(hk:k+1 < D.length)(he:En.cmpR D[k+1].1 D[k].1=0){w':World}(hb:Below wr.heap.size wr w'):Cp2 base g ob cb cap D w w' (k+1) (k+1+1):=by
 obtain⟨h1,h2,h3,h4⟩:=h
 exact⟨D,rfl,rfl,by rw[cmpct_take D k hk,if_pos he,h1,List.append_nil],fun x hx=>hx,h2.below hb,h3.below hb,grown_trans h4 (grown_below hb _)⟩
theorem Cp2.get {q:Nat}{E:List RV}(h1:E.length=D.length)(h2:E.drop q=D.drop q){i:Nat}(hi:q≤i)(hD:i < D.length):E[i]'(by omega)=D[i]:=by
 have e1:(E.drop q)[i - q]?=E[i]?:=by rw[List.getElem?_drop,show q+(i - q)=i by omega]
 have e2:(D.drop q)[i - q]?=D[i]?:=by rw[List.getElem?_drop,show q+(i - q)=i by omega]
 rw[h2,e2,List.getElem?_eq_getElem hD,List.getElem?_eq_getElem (by omega)] at e1
 exact (Option.some.inj e1).symm
theorem drop_one {E D:List RV}{q:Nat}(h:E.drop q=D.drop q):E.drop (q+1)=D.drop (q+1):=by
 rw[← List.drop_drop,← List.drop_drop,h]
theorem Cp2.skip {k q:Nat}(h:Cp2 base g ob cb cap D w wr k (q+1))(hk:q+1 < D.length)(he:En.cmpR D[q+1].1 D[q].1=0){w':World}(hb:Below wr.heap.size wr w'):Cp2 base g ob cb cap D w w' k (q+1+1):=by
 obtain⟨E,h1,h2,h3,h4,h5,h6,h7⟩:=h
 exact⟨E,h1,drop_one h2,by rw[cmpct_take D q hk,if_pos he,List.append_nil];exact h3,h4,h5.below hb,h6.below hb,grown_trans h7 (grown_below hb _)⟩
theorem Cp2.keep {k q:Nat}(h:Cp2 base g ob cb cap D w wr k (q+1))(hkq:k≤q)(hk:q+1 < D.length)(he:En.cmpR D[q+1].1 D[q].1≠0){w':World}(hb:Below wr.heap.size wr w') :
  Cp2 base g ob cb cap D w (put3 w' g k (.int .i64 D[q+1].1.step) D[q+1].2 (.int .i64 D[q+1].1.first)) (k+1) (q+1+1):=by
 obtain⟨E,h1,h2,h3,h4,h5,h6,h7⟩:=h
 have hg:E[q+1]'(by omega)=D[q+1]:=Cp2.get h1 h2 (by simp) hk
 have hm:D[q+1]∈E:=by rw[← hg];exact List.getElem_mem _
 have hS:=(h5.below hb)
 have hP:=hS.put k D[q+1] hm
 refine⟨E.set k D[q+1],by simpa using h1,?_,?_,fun x hx=>?_,hP,(h6.below hb).grown hS (put3_grown _ _ _ _ _ _),grown_trans h7 (grown_trans (grown_below hb _) (put3_grown _ _ _ _ _ _))⟩
 ·rw[List.drop_set_of_lt (by omega)]
  exact drop_one h2
 ·rw[cmpct_take D q hk,if_neg he,← h3,List.take_succ_eq_append_getElem (by simp;omega),List.take_set_of_le (by omega)]
  simp
 ·rcases List.mem_or_eq_of_mem_set hx with h | h
  ·exact h4 x h
  ·rw[h];exact List.getElem_mem _
theorem Cp2.drew {k p:Nat}(h:Cp2 base g ob cb cap D w wr k p):Cp2 base g ob cb cap D w wr.drew k p:=by
 obtain⟨E,h1,h2,h3,h4,h5,h6,h7⟩:=h
 exact⟨E,h1,h2,h3,h4,h5.drew,⟨h6.var,h6.ord⟩,grown_drew h7⟩
theorem Cp2.fin {k:Nat}(h:Cp2 base g ob cb cap D w wr k D.length)(hk:k≤D.length):(cmpctR D).length=k∧SAt base g ob wr cap (cmpctR D)∧w.grownBy wr (some g)∧∀vs,SAt base g ob (wr.setCells g (k * 3) vs) cap (cmpctR D):=by
 obtain⟨E,h1,h2,h3,h4,h5,h6,h7⟩:=h
 rw[List.take_length] at h3
 have hl:(cmpctR D).length=k:=by rw[← h3,List.length_take];omega
 have hrow:wr.ownsRow base 164 3 (.slice (some ⟨g,0,none⟩) k cap) k (runCells (E.take k)):=by
  rw[← runCells_take]
  exact own_front h5.row k (by omega)
 have hsub:∀x∈E.take k,x∈E:=fun x hx=>List.mem_of_mem_take hx
 rw[h3] at hrow hsub
 refine⟨hl,⟨by rw[hl];exact hrow,h5.ord,fun x hx=>h5.offs x (hsub x hx)⟩,h7,fun vs=>?_⟩
 refine h5.turn (grown_setCells vs _ _) hsub ?_
 rw[hl]
 exact own_behind vs (k * 3) wr hrow (by rw[runCells_length,hl];omega)
end
theorem compactR_any (base g ob cb cap:Nat)(D:List RV)(w:World)(h:SAt base g ob w cap D)(hC:CmpAt w cb ob)(n:Nat)(hD:D.length=n)(hn:n≤1000000) :
  Calls Tryz.prog 174 #[.slice (some ⟨g,0,none⟩) n cap,.func (.func 175) #[] #[.pointer (some ⟨cb,0,none⟩)]] w (CompEnd base g ob cap D w):=by
 have hgl:g < w.heap.size:=by obtain⟨-,cur,hg⟩:=h.blk;exact lt_of_block hg
 have hcap:n≤cap:=by
  rcases h.row.2 with ⟨he,-⟩ | ⟨g',cap',cur,he,-,-,hc,-⟩
  ·cases he
  ·cases he;omega
 by_cases hs:n < 2
 ·have hs':(n:Int) < 2:=by omega
  have HS:=hid (And.intro h hD)
  clear h hC hD
  go_enter Tryz.func174,Tryz.ntmps174
  go_wp2
  go_ret
  have e:=cmpct_short D (by rw[HS.out.2];exact hs)
  exact⟨by rw[e,HS.out.2];rfl,by rw[e];exact HS.out.1,grown_refl _ _⟩
 ·have hs':decide ((n:Int) < 2)=false:=decide_eq_false (by omega)
  have h0:Cp1 base g ob cb cap D w w (0+1):=⟨by
   cases D with
   | nil=>rfl
   | cons x t=>rfl,h,hC,grown_refl _ _⟩
  have HS:=hid (And.intro h0 hD)
  clear h hC hD h0
  go_enter Tryz.func174,Tryz.ntmps174
  go_wp2
  go_loopw [5] (fun vk wr=>∃q:Nat,q+1≤n∧vk=.int .i64 ((q:Int)+1)∧Hid (Cp1 base g ob cb cap D w wr (q+1))) (fun vk _=>n - (intOf vk).toNat)
  case atStart=>exact⟨0,by omega,by go_num,HS.out.1⟩
  case round=>
   obtain⟨q,hq,rfl,hr⟩:=hrel
   have hw2:IntKind.i64.wrap (q:Int)=q:=wrap_small (by omega) (by omega)
   have hw1:IntKind.i64.wrap ((q:Int)+1 - 1)=q:=by rw[show (q:Int)+1 - 1=q by omega];exact hw2
   by_cases hlt:q+1 < n
   ·have hlt':(q:Int)+1 < (n:Int):=by omega
    have i1:(0:Int)≤(q:Int)+1:=by omega
    have i3:(q:Int) < n:=by omega
    have i4:(0:Int)≤(q:Int):=by omega
    have hqD:q+1 < D.length:=by rw[HS.out.2];exact hlt
    have hgr:g < wr.heap.size:=Nat.lt_of_lt_of_le hgl hr.out.2.2.2.size
    obtain⟨ax,nx,cx,ay,ny,cy,x0,x1,x2,y0,y1,y2,-,hcall⟩:=hr.out.2.1.pair hr.out.2.2.1 (i:=q+1) (j:=q) hqD (by omega)
    obtain⟨x,hx⟩:∃x,D[q+1]=x:=⟨_,rfl⟩
    obtain⟨y,hy⟩:∃y,D[q]=y:=⟨_,rfl⟩
    have HC:=hid hcall
    rw[hx] at x0 x2
    rw[hy] at y0 y2
    rw[hx,hy] at HC
    have HX:=hid (And.intro hx hy)
    clear hcall hx hy
    by_cases hdup:En.cmpR x.1 y.1=0
    ·rw[decide_eq_true hdup] at HC
     have HCC:=hid hdup
     clear hdup
     go_wp2
     go_region_held3 (fun W=>W.cell? ⟨g,(q+1) * 3,none⟩=some (.int .i64 x.1.step)∧W.cell? ⟨g,(q+1) * 3+1,none⟩=some (.slice ax nx cx)∧W.cell? ⟨g,(q+1) * 3+2,none⟩=some (.int .i64 x.1.first)∧W.cell? ⟨g,q * 3,none⟩=some (.int .i64 y.1.step)∧W.cell? ⟨g,q * 3+1,none⟩=some (.slice ay ny cy)∧W.cell? ⟨g,q * 3+2,none⟩=some (.int .i64 y.1.first)) (go_keep) ((go_at_call 175;refine (HC.out _ (by first | exact bel_drewN (Below.refl _ _) _ | exact Below.drew (Below.refl _ _) | exact Below.refl _ _)).mono ?_;rintro e w1 ⟨rfl,hb1⟩;have z0:=(cell_bel hb1 ⟨g,(q+1) * 3,none⟩ hgr).trans x0;have z1:=(cell_bel hb1 ⟨g,(q+1) * 3+1,none⟩ hgr).trans x1;have z2:=(cell_bel hb1 ⟨g,(q+1) * 3+2,none⟩ hgr).trans x2;have z3:=(cell_bel hb1 ⟨g,q * 3,none⟩ hgr).trans y0;have z4:=(cell_bel hb1 ⟨g,q * 3+1,none⟩ hgr).trans y1;have z5:=(cell_bel hb1 ⟨g,q * 3+2,none⟩ hgr).trans y2;have H1:=hid hb1;clear hb1))
     have HB1:Hid (Below wr.heap.size wr w1):=hid (by first | exact H1.out | exact (bel_drewN (Below.refl _ _) _).trans H1.out | exact (Below.drew (Below.refl _ _)).trans H1.out)
     have HT:=hid (hr.out.turn hqD (by rw[HX.out.1,HX.out.2];exact HCC.out) HB1.out)
     clear x0 x1 x2 y0 y1 y2 z0 z1 z2 z3 z4 z5 HC
     go_wp2
     go_loopw [5,7] (fun vk vj wr=>∃k j:Nat,q+1≤k∧k≤q+1+j∧q+1+(j+1)≤n∧vk=.int .i64 k∧vj=.int .i64 ((j:Int)+1)∧Hid (Cp2 base g ob cb cap D w wr k (q+1+j+1))) (fun _ vj _=>n - (intOf vj).toNat)
     case atStart=>exact⟨q+1,0,by omega,by omega,by omega,by go_num,by go_num,HT.out⟩
     case round=>
      obtain⟨k,j,hqk,hkj,hjn,rfl,rfl,hr2⟩:=hrel
      have hv2:IntKind.i64.wrap (j:Int)=j:=wrap_small (by omega) (by omega)
      have hv1:IntKind.i64.wrap ((j:Int)+1 - 1)=j:=by rw[show (j:Int)+1 - 1=j by omega];exact hv2
      by_cases hl2:q+1+(j+1) < n
      ·have hl2':(j:Int)+1 < ((n - (q+1):Nat):Int):=by omega
       have m1:(0:Int)≤(j:Int)+1:=by omega
       have m3:(j:Int) < ((n - (q+1):Nat):Int):=by omega
       have m4:(0:Int)≤(j:Int):=by omega
       have hjD:q+1+j+1 < D.length:=by rw[HS.out.2];omega
       have hjD':q+1+j < D.length:=Nat.lt_of_succ_lt hjD
       obtain⟨E,e1,e2,e3,e4,e5,e6,e7⟩:=hr2.out
       have hgr2:g < wr.heap.size:=Nat.lt_of_lt_of_le hgl e7.size
       obtain⟨au,nu,cu,av,nv,cv,u0,u1,u2,v0,v1,v2,vu,hcall⟩:=e5.pair e6 (i:=q+1+j+1) (j:=q+1+j) (by omega) (by omega)
       have g1:E[q+1+j+1]'(by omega)=D[q+1+j+1]:=Cp2.get e1 e2 (by simp) hjD
       have g2:E[q+1+j]'(by omega)=D[q+1+j]'hjD':=Cp2.get e1 e2 (by simp) hjD'
       rw[g1] at vu u0 u2
       rw[g2] at v0 v2
       rw[g1,g2] at hcall
       obtain⟨u,hu⟩:∃u,D[q+1+j+1]=u:=⟨_,rfl⟩
       obtain⟨v,hv⟩:∃v,D[q+1+j]'hjD'=v:=⟨_,rfl⟩
       rw[hu] at vu u0 u2
       rw[hv] at v0 v2
       rw[hu,hv] at hcall
       rw[show (q+1+j+1) * 3=(q+1) * 3+(j+1) * 3 by omega] at u0 u1 u2
       rw[show (q+1+j) * 3=(q+1) * 3+j * 3 by omega] at v0 v1 v2
       have HC2:=hid hcall
       have HU:=hid (And.intro hu (And.intro hv vu))
       clear hcall hu hv g1 g2 vu e1 e2 e3 e4 e5 e6 e7
       by_cases hd2:En.cmpR u.1 v.1=0
       ·rw[decide_eq_true hd2] at HC2
        have HD2:=hid hd2
        clear hd2
        go_wp2
        go_region_held3 (fun W=>W.cell? ⟨g,(q+1) * 3+(j+1) * 3,none⟩=some (.int .i64 u.1.step)∧W.cell? ⟨g,(q+1) * 3+(j+1) * 3+1,none⟩=some (.slice au nu cu)∧W.cell? ⟨g,(q+1) * 3+(j+1) * 3+2,none⟩=some (.int .i64 u.1.first)∧W.cell? ⟨g,(q+1) * 3+j * 3,none⟩=some (.int .i64 v.1.step)∧W.cell? ⟨g,(q+1) * 3+j * 3+1,none⟩=some (.slice av nv cv)∧W.cell? ⟨g,(q+1) * 3+j * 3+2,none⟩=some (.int .i64 v.1.first)) (go_keep) ((go_at_call 175;refine (HC2.out _ (by first | exact bel_drewN (Below.refl _ _) _ | exact Below.drew (Below.refl _ _) | exact Below.refl _ _)).mono ?_;rintro e w2 ⟨rfl,hb2⟩;have z0:=(cell_bel hb2 ⟨g,(q+1) * 3+(j+1) * 3,none⟩ hgr2).trans u0;have z1:=(cell_bel hb2 ⟨g,(q+1) * 3+(j+1) * 3+1,none⟩ hgr2).trans u1;have z2:=(cell_bel hb2 ⟨g,(q+1) * 3+(j+1) * 3+2,none⟩ hgr2).trans u2;have z3:=(cell_bel hb2 ⟨g,(q+1) * 3+j * 3,none⟩ hgr2).trans v0;have z4:=(cell_bel hb2 ⟨g,(q+1) * 3+j * 3+1,none⟩ hgr2).trans v1;have z5:=(cell_bel hb2 ⟨g,(q+1) * 3+j * 3+2,none⟩ hgr2).trans v2;have H2:=hid hb2;clear hb2))
        have HB2:Hid (Below wr.heap.size wr w2):=hid (by first | exact H2.out | exact (bel_drewN (Below.refl _ _) _).trans H2.out | exact (Below.drew (Below.refl _ _)).trans H2.out)
        go_wp2
        exact⟨⟨k,j+1,hqk,by omega,by omega,rfl,by go_num,hr2.out.skip hjD (by rw[HU.out.1,HU.out.2.1];exact HD2.out) HB2.out⟩,by simp[intOf];omega⟩
       ·rw[decide_eq_false hd2] at HC2
        have HD2:=hid hd2
        clear hd2
        go_wp2
        go_region_held3 (fun W=>W.cell? ⟨g,(q+1) * 3+(j+1) * 3,none⟩=some (.int .i64 u.1.step)∧W.cell? ⟨g,(q+1) * 3+(j+1) * 3+1,none⟩=some (.slice au nu cu)∧W.cell? ⟨g,(q+1) * 3+(j+1) * 3+2,none⟩=some (.int .i64 u.1.first)∧W.cell? ⟨g,(q+1) * 3+j * 3,none⟩=some (.int .i64 v.1.step)∧W.cell? ⟨g,(q+1) * 3+j * 3+1,none⟩=some (.slice av nv cv)∧W.cell? ⟨g,(q+1) * 3+j * 3+2,none⟩=some (.int .i64 v.1.first)) (go_keep) ((go_at_call 175;refine (HC2.out _ (by first | exact bel_drewN (Below.refl _ _) _ | exact Below.drew (Below.refl _ _) | exact Below.refl _ _)).mono ?_;rintro e w2 ⟨rfl,hb2⟩;have z0:=(cell_bel hb2 ⟨g,(q+1) * 3+(j+1) * 3,none⟩ hgr2).trans u0;have z1:=(cell_bel hb2 ⟨g,(q+1) * 3+(j+1) * 3+1,none⟩ hgr2).trans u1;have z2:=(cell_bel hb2 ⟨g,(q+1) * 3+(j+1) * 3+2,none⟩ hgr2).trans u2;have z3:=(cell_bel hb2 ⟨g,(q+1) * 3+j * 3,none⟩ hgr2).trans v0;have z4:=(cell_bel hb2 ⟨g,(q+1) * 3+j * 3+1,none⟩ hgr2).trans v1;have z5:=(cell_bel hb2 ⟨g,(q+1) * 3+j * 3+2,none⟩ hgr2).trans v2;have H2:=hid hb2;clear hb2))
        have HB2:Hid (Below wr.heap.size wr w2):=hid (by first | exact H2.out | exact (bel_drewN (Below.refl _ _) _).trans H2.out | exact (Below.drew (Below.refl _ _)).trans H2.out)
        have HK:=hid (hr2.out.keep hkj hjD (by rw[HU.out.1,HU.out.2.1];exact HD2.out) HB2.out)
        rw[HU.out.1,HU.out.2.2] at HK
        obtain⟨E,e1,e2,e3,e4,e5,e6,e7⟩:=hr2.out
        have eS:=e5.below HB2.out
        obtain⟨ao,no,co,-,o0,o1,o2⟩:=eS.get (i:=k) (by rw[e1,HS.out.2];omega)
        generalize E[k]'(by rw[e1,HS.out.2];omega)=old at o0 o2
        have f0:=eS.frozen (k * 3)
        have f1:=eS.frozen (k * 3+1)
        have f2:=eS.frozen (k * 3+2)
        clear e1 e2 e3 e4 e5 e6 e7 eS z3 z4 z5 u0 u1 u2 v0 v1 v2
        have hkn:(k:Int) < (n:Int):=by omega
        have hk0:(0:Int)≤(k:Int):=by omega
        go_wp2
        exact⟨⟨k+1,j+1,by omega,by omega,by omega,by go_num,by go_num,HK.out⟩,by simp[intOf];omega⟩
      ·obtain rfl:q+1+(j+1)=n:=by omega
       have hl2':decide ((j:Int)+1 < ((q+1+(j+1) - (q+1):Nat):Int))=false:=decide_eq_false (by omega)
       obtain⟨E,e1,e2,e3,e4,e5,e6,e7⟩:=hr2.out
       obtain⟨vs,hcl⟩:=run_clear_runs wr g (k * 3) (q+1+(j+1) - k) (cap - k) (by omega) (fun i hi=>e5.there _ (by omega)) (fun i _=>e5.frozen _)
       clear e1 e2 e3 e4 e5 e6 e7
       go_wp2
       go_ret
       have hfin:=Cp2.fin (by rw[HS.out.2];exact hr2.out) (by rw[HS.out.2];omega)
       exact⟨by rw[hfin.1];rfl,hfin.2.2.2 vs,grown_trans hfin.2.2.1 (grown_setCells _ _ _)⟩
    ·rw[decide_eq_false hdup] at HC
     have HCC:=hid hdup
     clear hdup
     go_wp2
     go_region_held3 (fun W=>W.cell? ⟨g,(q+1) * 3,none⟩=some (.int .i64 x.1.step)∧W.cell? ⟨g,(q+1) * 3+1,none⟩=some (.slice ax nx cx)∧W.cell? ⟨g,(q+1) * 3+2,none⟩=some (.int .i64 x.1.first)∧W.cell? ⟨g,q * 3,none⟩=some (.int .i64 y.1.step)∧W.cell? ⟨g,q * 3+1,none⟩=some (.slice ay ny cy)∧W.cell? ⟨g,q * 3+2,none⟩=some (.int .i64 y.1.first)) (go_keep) ((go_at_call 175;refine (HC.out _ (by first | exact bel_drewN (Below.refl _ _) _ | exact Below.drew (Below.refl _ _) | exact Below.refl _ _)).mono ?_;rintro e w1 ⟨rfl,hb1⟩;have z0:=(cell_bel hb1 ⟨g,(q+1) * 3,none⟩ hgr).trans x0;have z1:=(cell_bel hb1 ⟨g,(q+1) * 3+1,none⟩ hgr).trans x1;have z2:=(cell_bel hb1 ⟨g,(q+1) * 3+2,none⟩ hgr).trans x2;have z3:=(cell_bel hb1 ⟨g,q * 3,none⟩ hgr).trans y0;have z4:=(cell_bel hb1 ⟨g,q * 3+1,none⟩ hgr).trans y1;have z5:=(cell_bel hb1 ⟨g,q * 3+2,none⟩ hgr).trans y2;have H1:=hid hb1;clear hb1))
     have HB1:Hid (Below wr.heap.size wr w1):=hid (by first | exact H1.out | exact (bel_drewN (Below.refl _ _) _).trans H1.out | exact (Below.drew (Below.refl _ _)).trans H1.out)
     go_wp2
     exact⟨⟨q+1,by omega,by go_num,hr.out.step hqD (by rw[HX.out.1,HX.out.2];exact HCC.out) HB1.out⟩,by simp[intOf];omega⟩
   ·obtain rfl:q+1=n:=by omega
    have hlt':decide ((q:Int)+1 < ((q+1:Nat):Int))=false:=decide_eq_false (by omega)
    go_wp2
    go_ret
    have e:cmpctR D=D:=by have h1:=hr.out.1;rw[List.take_of_length_le (by rw[HS.out.2];omega)] at h1;exact h1
    exact⟨by rw[e,HS.out.2];rfl,by rw[e];exact hr.out.2.1,hr.out.2.2.2⟩
end Go.Proofs.YtfldcmdhneegmaaGreatDoor

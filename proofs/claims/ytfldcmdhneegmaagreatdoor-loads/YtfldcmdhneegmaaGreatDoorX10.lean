import Derived.Test.YtfldcmdhneegmaaGreatDoorX02
import Derived.Test.YtfldcmdhneegmaaGreatDoorX09
set_option maxHeartbeats 4000000
set_option maxRecDepth 1000000
namespace Go.Proofs.YtfldcmdhneegmaaGreatDoor
open Go.RowKit Go.Lib
theorem Tryz.infoMatch:(Tryz.prog.info? 109).map (fun i=>(i.zero,i.size,i.bytes))=some (some (.agg #[.slice none 0 0,.int .i64 0]),2,32):=by kernel_rfl
abbrev MV:=(List Int × Int) × Value
def mCells (L:List MV):List Value:=L.flatMap fun x=>[x.2,.int .i64 x.1.2]
theorem mCells_append (L M:List MV):mCells (L++M)=mCells L++mCells M:=by simp[mCells]
structure MOwn (base:Nat)(w:World)(v:Value)(L:List MV):Prop where
 row:w.ownsRow base 109 2 v L.length (mCells L)
 offs:∀x∈L,w.ownsRow base 3 1 x.2 x.1.1.length (intCells x.1.1)∧x.1.1≠[]
 dist:L.Pairwise fun x y=>x.2.ownBlock≠y.2.ownBlock
theorem MOwn.nil (base:Nat)(w:World):MOwn base w (.slice none 0 0) []:=⟨World.ownsRow_nil _ _ _ _,fun _ h=>(by cases h),List.Pairwise.nil⟩
theorem MOwn.below {base:Nat}{w w':World}{v:Value}{L:List MV}(h:MOwn base w v L)(hb:Below w.heap.size w w'):MOwn base w' v L:=
 ⟨own_below h.row hb,fun x hx=>⟨own_below (h.offs x hx).1 hb,(h.offs x hx).2⟩,h.dist⟩
theorem MOwn.mono {base base':Nat}{w:World}{v:Value}{L:List MV}(h:MOwn base w v L)(hb:base'≤base):MOwn base' w v L:=
 ⟨own_mono h.row hb,fun x hx=>⟨own_mono (h.offs x hx).1 hb,(h.offs x hx).2⟩,h.dist⟩
theorem MOwn.len {base:Nat}{w:World}{v:Value}{L:List MV}(h:MOwn base w v L):∃ao cap,v=.slice ao L.length cap:=own_slice h.row
theorem own_some {base:Nat}{w:World}{v:Value}{xs:List Int}(h:w.ownsRow base 3 1 v xs.length (intCells xs))(hne:xs≠[]):∃g,v.ownBlock=some g∧base≤g∧g < w.heap.size:=by
 rcases h.2 with ⟨-,h0⟩ | ⟨g,cap,cur,rfl,h1,h2,-⟩
 ·exact absurd (List.eq_nil_of_length_eq_zero h0) hne
 ·exact⟨g,rfl,h1,lt_of_block h2⟩
theorem MOwn.snoc {base:Nat}{w w2 w5:World}{v v5:Value}{L:List MV}{x:MV}{o:Obj}(h:MOwn base w v L)(hb:Below w.heap.size w w2)(hx:w2.ownsRow w.heap.size 3 1 x.2 x.1.1.length (intCells x.1.1))(hne:x.1.1≠[])(hbase:base≤w.heap.size)
  (own5:w5.ownsRow base 109 2 v5 (L.length+1) (mCells L++[x.2,.int .i64 x.1.2])) (gr5:(w2.alloc o).grownBy w5 v.ownBlock):MOwn base w5 v5 (L++[x]):=by
 have keep:∀(v':Value) (n':Nat) (xs':List Value) (base':Nat),w2.ownsRow base' 3 1 v' n' xs'→w5.ownsRow base' 3 1 v' n' xs':=fun v' n' xs' base' h'=>
  (h'.alloc o).kept gr5 (own_other h' (own_below h.row hb) (by decide))
 refine⟨by simpa [mCells] using own5,fun y hy=>?_,?_⟩
 ·rcases List.mem_append.1 hy with hy | hy
  ·exact⟨keep _ _ _ _ (own_below (h.offs y hy).1 hb),(h.offs y hy).2⟩
  ·obtain rfl:=List.mem_singleton.1 hy
   exact⟨own_mono (keep _ _ _ _ hx) hbase,hne⟩
 ·refine List.pairwise_append.2 ⟨h.dist,List.pairwise_singleton _ _,fun y hy z hz=>?_⟩
  obtain rfl:=List.mem_singleton.1 hz
  obtain⟨g,h1,-,h3⟩:=own_some (h.offs y hy).1 (h.offs y hy).2
  intro e
  rw[h1] at e
  have:=(own_block hx g e.symm).1
  omega
structure MtRel (n:Nat)(t:Int)(l:List RV)(k:Nat)(w wr:World)(v:Value)(L:List MV):Prop where
 own:MOwn w.heap.size wr v L
 eq:L.map Prod.fst=((l.take k).filter fun x=>decide (x.1.step+1=n)).map fun x=>(x.1.offs,t)
 bel:Below w.heap.size w wr
theorem MtRel.len {n:Nat}{t:Int}{l:List RV}{k:Nat}{w wr:World}{v:Value}{L:List MV}(h:MtRel n t l k w wr v L):L.length≤l.length:=by
 have:=congrArg List.length h.eq
 rw[List.length_map,List.length_map] at this
 rw[this]
 refine Nat.le_trans (List.length_filter_le _ _) ?_
 rw[List.length_take]
 omega
theorem MtRel.skip {n:Nat}{t:Int}{l:List RV}{k:Nat}{w wr w2:World}{v:Value}{L:List MV}(h:MtRel n t l k w wr v L)(hk:k < l.length)(hp:¬ (l[k].1.step+1=n))(hb:Below wr.heap.size wr w2):MtRel n t l (k+1) w w2 v L:=
 ⟨h.own.below hb,by rw[h.eq,List.take_succ_eq_append_getElem hk,List.filter_append];simp[hp],h.bel.trans (hb.mono h.bel.size)⟩
theorem MtRel.more {n:Nat}{t:Int}{l:List RV}{k:Nat}{w wr w2 w5:World}{v v2 v5:Value}{L:List MV}{o:Obj}(h:MtRel n t l k w wr v L)(hk:k < l.length)(hp:l[k].1.step+1=n)(hb:Below wr.heap.size wr w2)(hx:w2.ownsRow wr.heap.size 3 1 v2 l[k].1.offs.length (intCells l[k].1.offs))(hne:l[k].1.offs≠[])
  (own5:w5.ownsRow w.heap.size 109 2 v5 (L.length+1) (mCells L++[v2,.int .i64 t])) (gr5:(w2.alloc o).grownBy w5 v.ownBlock):MtRel n t l (k+1) w w5 v5 (L++[((l[k].1.offs,t),v2)]):=by
 have hB:=h.bel.trans (hb.mono h.bel.size)
 refine⟨h.own.snoc (x:=((l[k].1.offs,t),v2)) hb hx hne h.bel.size own5 gr5,?_,(hB.alloc hB.size o).grown gr5 (Nat.le_trans hB.size (by simp)) (fun k hk=>(own_block h.own.row k hk).1)⟩
 rw[List.map_append,h.eq,List.take_succ_eq_append_getElem hk,List.filter_append]
 simp[hp]
def MtEnd (n:Nat)(t:Int)(l:List RV)(w:World)(e:Ending)(w':World):Prop:=
 ∃v' L,e=.returned v'∧MOwn w.heap.size w' v' L∧L.map Prod.fst=(l.filter fun x=>decide (x.1.step+1=n)).map (fun x=>(x.1.offs,t))∧Below w.heap.size w w'
abbrev GE:=(Int × List Int × Int) × Value
def geCells (G:List GE):List Value:=G.flatMap fun x=>[.int .i64 x.1.1,x.2,.int .i64 x.1.2.2]
def geOf (x:RV):GE:=((x.1.step,x.1.offs,x.1.first),x.2)
def geAll (live:List RV)(ev:En.Ev):List GE:=live.map geOf++[((-1,[],ev.time),.slice none 0 0)]
theorem geAll_length (live:List RV)(ev:En.Ev):(geAll live ev).length=live.length+1:=by simp[geAll]
theorem geCells_get (G:List GE)(i:Nat)(h:i < G.length):(geCells G)[i * 3+0]?=some (.int .i64 G[i].1.1)∧(geCells G)[i * 3+1]?=some G[i].2∧(geCells G)[i * 3+2]?=some (.int .i64 G[i].1.2.2):=by
 induction G generalizing i with
 | nil=>simp at h
 | cons x t ih=>
  cases i with
  | zero=>simp[geCells]
  | succ i=>
   have:=ih i (by simpa using h)
   have e1:(i+1) * 3=i * 3+1+1+1:=by omega
   simp only[geCells,List.flatMap_cons] at this ⊢
   rw[e1]
   simpa using this
theorem GE.get {F:Nat→Prop}{w:World}{ao:Option Addr}{n cap:Nat}{G:List GE}(h:RowAt F w (.slice ao n cap) 3 G.length (geCells G)){i:Nat}(hi:i < G.length) :
  ∃b o,ao=some ⟨b,o,none⟩∧b < w.heap.size∧w.cell? ⟨b,o+i * 3,none⟩=some (.int .i64 G[i].1.1)∧w.cell? ⟨b,o+i * 3+1,none⟩=some G[i].2∧w.cell? ⟨b,o+i * 3+2,none⟩=some (.int .i64 G[i].1.2.2):=by
 rcases h.2 with ⟨_,h0⟩ | ⟨b,o,cap',he,_,hb,_,_,r⟩
 ·omega
 ·cases he
  obtain⟨g0,g1,g2⟩:=geCells_get G i hi
  refine⟨b,o,rfl,hb,?_,?_,?_⟩
  ·simpa using r _ _ g0
  ·have:=r _ _ g1;rwa [← Nat.add_assoc] at this
  ·have:=r _ _ g2;rwa [← Nat.add_assoc] at this
def extsG (st:List (Int × Bool))(ev:En.Ev)(g:GE)(j:Nat):List En.Rn:=((List.range j).filter fun s=>leads st g.1.1 s ev.kind).map fun s=>{ step:=s,offs:=g.1.2.1++[ev.off],first:=g.1.2.2 }
def grownG (st:List (Int × Bool))(ev:En.Ev)(G:List GE):List En.Rn:=G.flatMap fun g=>extsG st ev g st.length
theorem extsG_len (st:List (Int × Bool))(ev:En.Ev)(g:GE)(j:Nat):(extsG st ev g j).length≤j:=by
 unfold extsG
 rw[List.length_map]
 refine Nat.le_trans (List.length_filter_le _ _) ?_
 simp
theorem grownG_len (st:List (Int × Bool))(ev:En.Ev)(G:List GE):(grownG st ev G).length≤G.length * st.length:=by
 induction G with
 | nil=>simp[grownG]
 | cons g t ih=>
  have:=extsG_len st ev g st.length
  simp only[grownG,List.flatMap_cons,List.length_append,List.length_cons,Nat.add_mul] at ih ⊢
  omega
structure GrRel (R:List En.Rn)(w wr:World)(v:Value)(M:List RV):Prop where
 own:wr.ownsRow w.heap.size 164 3 v M.length (runCells M)
 offs:∀x∈M,wr.ownsRow w.heap.size 3 1 x.2 x.1.offs.length (intCells x.1.offs)
 eq:M.map Prod.fst=R
 bel:Below w.heap.size w wr
theorem GrRel.len {R:List En.Rn}{w wr:World}{v:Value}{M:List RV}(h:GrRel R w wr v M):M.length=R.length:=by rw[← h.eq,List.length_map]
theorem GrRel.below {R:List En.Rn}{w wr w2:World}{v:Value}{M:List RV}(h:GrRel R w wr v M)(hb:Below wr.heap.size wr w2):GrRel R w w2 v M:=
 ⟨own_below h.own hb,fun x hx=>own_below (h.offs x hx) hb,h.eq,h.bel.trans (hb.mono h.bel.size)⟩
theorem GrRel.more {R:List En.Rn}{w wr w5:World}{v v2 v5:Value}{M:List RV}{o:Obj}(r:En.Rn)(h:GrRel R w wr v M)(hx:wr.ownsRow w.heap.size 3 1 v2 r.offs.length (intCells r.offs))
  (own5:w5.ownsRow w.heap.size 164 3 v5 (M.length+1) (runCells M++[.int .i64 r.step,v2,.int .i64 r.first])) (gr5:(wr.alloc o).grownBy w5 v.ownBlock):GrRel (R++[r]) w w5 v5 (M++[(r,v2)]):=by
 have keep:∀(v':Value) (n':Nat) (xs':List Value) (base':Nat),wr.ownsRow base' 3 1 v' n' xs'→w5.ownsRow base' 3 1 v' n' xs':=fun v' n' xs' base' h'=>
  (h'.alloc o).kept gr5 (own_other h' h.own (by decide))
 refine⟨by simpa [runCells] using own5,fun y hy=>?_,by rw[List.map_append,h.eq];rfl,(h.bel.alloc h.bel.size o).grown gr5 (Nat.le_trans h.bel.size (by simp)) (fun k hk=>(own_block h.own k hk).1)⟩
 rcases List.mem_append.1 hy with hy | hy
 ·exact keep _ _ _ _ (h.offs y hy)
 ·obtain rfl:=List.mem_singleton.1 hy
  exact keep _ _ _ _ hx
theorem own_I64 {w:World}{base:Nat}{v:Value}{xs:List Int}(h:w.ownsRow base 3 1 v xs.length (intCells xs)):IntsAt (I64 w) w v xs:=by
 have hr:=RowAt.ofOwn h
 rcases h.2 with ⟨rfl,h0⟩ | ⟨g,cap,cur,rfl,h1,h2,-⟩
 ·exact⟨hr.1,Or.inl ⟨rfl,h0⟩⟩
 ·rcases hr.2 with ⟨he,-⟩ | ⟨b,o,cap',he,-,k2,k3,k4,k5⟩
  ·cases he
  ·cases he
   exact⟨hr.1,Or.inr ⟨g,0,cap,rfl,⟨cur,_,h2⟩,k2,k3,k4,k5⟩⟩
def GrEnd (st:List (Int × Bool))(ev:En.Ev)(live:List RV)(w:World)(e:Ending)(w':World):Prop:=
 ∃v' S M,e=.returned v'∧S.Perm M∧Sm.Srt ltR S∧M.map Prod.fst=grownG st ev (geAll live ev)∧w'.ownsRow w.heap.size 164 3 v' (cmpctR S).length (runCells (cmpctR S))∧(∀x∈M,w'.ownsRow w.heap.size 3 1 x.2 x.1.offs.length (intCells x.1.offs))∧Below w.heap.size w w'
theorem GrEnd.of {st:List (Int × Bool)}{ev:En.Ev}{live:List RV}{w w4 wr w':World}{v:Value}{M:List RV}{e:Ending}(h:GrRel (grownG st ev (geAll live ev)) w4 wr v M)(hb:Below w.heap.size w w4)(ha:ArrEnd w4.heap.size v M wr e w'):GrEnd st ev live w e w':=by
 obtain⟨v',S,he,hp,hs,hO,hg,hvb⟩:=ha
 have hB:Below w4.heap.size w4 w':=h.bel.grown hg h.bel.size (fun k hk=>(own_block h.own k hk).1)
 exact⟨v',S,M,he,hp,hs,h.eq,own_mono hO.row hb.size,fun x hx=>own_mono ((h.offs x hx).kept hg (own_other (h.offs x hx) h.own (by decide))) hb.size,hb.trans (hB.mono hb.size)⟩
theorem mem_extsG {st:List (Int × Bool)}{ev:En.Ev}{g:GE}{j:Nat}{x:En.Rn}:x∈extsG st ev g j↔∃s,s < j∧leads st g.1.1 s ev.kind=true∧x={ step:=s,offs:=g.1.2.1++[ev.off],first:=g.1.2.2 }:=by
 unfold extsG
 rw[List.mem_map]
 constructor
 ·rintro⟨s,hs,rfl⟩
  obtain⟨h1,h2⟩:=List.mem_filter.1 hs
  exact⟨s,List.mem_range.1 h1,h2,rfl⟩
 ·rintro⟨s,h1,h2,rfl⟩
  exact⟨s,List.mem_filter.2 ⟨List.mem_range.2 h1,h2⟩,rfl⟩
theorem mem_grownG {st:List (Int × Bool)}{ev:En.Ev}{live:List RV}{x:En.Rn}:x∈grownG st ev (geAll live ev)↔∃s,s < st.length∧((∃q∈live.map Prod.fst,leads st q.step s ev.kind=true∧x=En.ext q ev s)∨(leads st (-1) s ev.kind=true∧x={ step:=s,offs:=[ev.off],first:=ev.time })):=by
 unfold grownG
 rw[List.mem_flatMap]
 constructor
 ·rintro⟨g,hg,hx⟩
  obtain⟨s,h1,h2,rfl⟩:=mem_extsG.1 hx
  rcases List.mem_append.1 hg with hg | hg
  ·obtain⟨y,hy,rfl⟩:=List.mem_map.1 hg
   exact⟨s,h1,Or.inl ⟨y.1,List.mem_map.2 ⟨y,hy,rfl⟩,h2,rfl⟩⟩
  ·obtain rfl:=List.mem_singleton.1 hg
   exact⟨s,h1,Or.inr ⟨h2,rfl⟩⟩
 ·rintro⟨s,h1,⟨q,hq,h2,rfl⟩ | ⟨h2,rfl⟩⟩
  ·obtain⟨y,hy,rfl⟩:=List.mem_map.1 hq
   exact⟨geOf y,List.mem_append_left _ (List.mem_map.2 ⟨y,hy,rfl⟩),mem_extsG.2 ⟨s,h1,h2,rfl⟩⟩
  ·exact⟨_,List.mem_append_right _ (List.mem_singleton.2 rfl),mem_extsG.2 ⟨s,h1,h2,rfl⟩⟩
theorem leads_iff {P:En.Pat}{s:Nat}(hs:s < P.steps.length)(frm kind:Int):leads P.steps frm s kind=true↔En.kindAt P s=some kind∧((s:Int)=frm+1∨((s:Int)=frm∧En.plusAt P s=true)):=by
 unfold leads En.kindAt En.plusAt
 have hg:P.steps.getD s (0,false)=P.steps[s]:=by simp[hs]
 rw[hg]
 simp[List.getElem?_eq_getElem hs]
theorem goesOn_eq {P:En.Pat}{s:Nat}(hs:s < P.steps.length):goesOn P.steps s=En.goes P s:=by
 unfold goesOn En.goes En.plusAt
 have hg:P.steps.getD s (0,false)=P.steps[s]:=by simp[hs]
 rw[hg,List.getElem?_eq_getElem hs]
 simp
 rw[show (!decide (s+1=P.steps.length))=decide (s+1 < P.steps.length) by
  rw[← decide_not,decide_eq_decide];omega]
theorem ended_mem {P:En.Pat}{A:List En.Rn}{live:List RV}{ev:En.Ev}{ψ:Int→Int}(hA:∀q∈A,En.Det ψ q)(hev:ev.time=ψ ev.off)(hl:live.map Prod.fst=A.filter (En.inWin P ev))(x:En.Rn) :
  x∈grownG P.steps ev (geAll live ev)↔∃s,s < P.steps.length∧x∈En.news P A ev s:=by
 rw[mem_grownG,hl]
 constructor
 ·rintro⟨s,hs,h⟩
  refine⟨s,hs,(En.mem_news hA hev s x).2 ?_⟩
  rcases h with ⟨q,hq,h2,rfl⟩ | ⟨h2,rfl⟩
  ·obtain⟨h3,h4⟩:=List.mem_filter.1 hq
   obtain⟨h5,h6⟩:=(leads_iff hs _ _).1 h2
   refine⟨h5,Or.inr ⟨q,h3,?_,of_decide_eq_true h4,rfl⟩⟩
   rcases h6 with h6 | ⟨h6,h7⟩
   ·exact Or.inl (by omega)
   ·exact Or.inr ⟨by omega,h7⟩
  ·obtain⟨h5,h6⟩:=(leads_iff hs _ _).1 h2
   refine⟨h5,Or.inl ?_⟩
   have:s=0:=by omega
   subst this
   exact⟨rfl,rfl⟩
 ·rintro⟨s,hs,h⟩
  refine⟨s,hs,?_⟩
  obtain⟨h5,⟨rfl,rfl⟩ | ⟨q,hq,hc,hf,rfl⟩⟩:=(En.mem_news hA hev s x).1 h
  ·exact Or.inr ⟨(leads_iff hs _ _).2 ⟨h5,Or.inl (by simp)⟩,rfl⟩
  ·refine Or.inl ⟨q,List.mem_filter.2 ⟨hq,decide_eq_true hf⟩,(leads_iff hs _ _).2 ⟨h5,?_⟩,rfl⟩
   rcases hc with hc | ⟨hc,hp⟩
   ·exact Or.inl (by omega)
   ·exact Or.inr ⟨by omega,hp⟩
theorem event_step {P:En.Pat}{A:List En.Rn}{live M S Mn Sn:List RV}{ev:En.Ev}{ψ:Int→Int}(hP:0 < P.steps.length)(hA:∀q∈A,En.Det ψ q)(hOA:En.Ord A)(hev:ev.time=ψ ev.off)(hl:live.map Prod.fst=A.filter (En.inWin P ev))
  (hM:M.map Prod.fst=grownG P.steps ev (geAll live ev)) (hp:S.Perm M) (hs:Sm.Srt ltR S)
  (hMn:Mn=live++(cmpctR S).filter (fun x=>goesOn P.steps x.1.step)) (hpn:Sn.Perm Mn) (hsn:Sm.Srt ltR Sn) :
  (cmpctR Sn).map Prod.fst=En.next P A ev∧((cmpctR S).filter fun x=>decide (x.1.step+1=P.steps.length)).map (fun x=>(x.1.offs,ev.time))=(En.news P A ev (P.steps.length - 1)).map (fun r=>(r.offs,ev.time))∧(∀x∈cmpctR Sn,x∈live∨x∈M)∧∀x∈cmpctR S,x∈M:=by
 have hmem:=ended_mem (P:=P) hA hev hl
 have hdM:∀x∈M,En.Det ψ x.1∧x.1.step < P.steps.length:=fun x hx=>by
  have h1:x.1∈M.map Prod.fst:=List.mem_map.2 ⟨x,hx,rfl⟩
  rw[hM] at h1
  obtain⟨s,hs,h2⟩:=(hmem x.1).1 h1
  have h3:=En.news_det hA hev s x.1 h2
  exact⟨h3.1,by rw[h3.2];exact hs⟩
 obtain⟨o1,o2,o3⟩:=arranged_ord (ψ:=ψ) hp hs (fun x hx=>(hdM x hx).1)
 have hE:∀x,x∈(cmpctR S).map Prod.fst↔∃s,s < P.steps.length∧x∈En.news P A ev s:=fun x=>by
  rw[o2 x,← hmem x,← hM]
 have hdn:∀x∈Mn,En.Det ψ x.1:=fun x hx=>by
  rw[hMn] at hx
  rcases List.mem_append.1 hx with hx | hx
  ·have h1:x.1∈live.map Prod.fst:=List.mem_map.2 ⟨x,hx,rfl⟩
   rw[hl] at h1
   exact hA _ (List.mem_filter.1 h1).1
  ·exact (hdM x (o3 x (List.mem_filter.1 hx).1)).1
 obtain⟨n1,n2,n3⟩:=arranged_ord (ψ:=ψ) hpn hsn hdn
 refine⟨?_,?_,fun x hx=>?_,o3⟩
 ·refine En.ended_next hA hev hOA hE n1 (fun x=>?_)
  rw[n2 x,hMn,List.map_append,List.mem_append,hl]
  refine or_congr Iff.rfl ?_
  rw[List.mem_map,List.mem_filter,List.mem_map]
  constructor
  ·rintro⟨y,hy,rfl⟩
   obtain⟨h1,h2⟩:=List.mem_filter.1 hy
   exact⟨⟨y,h1,rfl⟩,by rw[← goesOn_eq (hdM y (o3 y h1)).2];exact h2⟩
  ·rintro⟨⟨y,h1,rfl⟩,h2⟩
   exact⟨y,List.mem_filter.2 ⟨h1,by rw[goesOn_eq (hdM y (o3 y h1)).2];exact h2⟩,rfl⟩
 ·have h1:=En.ended_last hA hev o1 hE (P.steps.length - 1) (by omega)
  rw[← h1,List.filter_map,List.map_map]
  refine congrArg (List.map _) (List.filter_congr (fun x hx=>?_))
  have:=(hdM x (o3 x hx)).2
  show decide _=decide _
  rw[decide_eq_decide]
  show x.1.step+1=P.steps.length↔x.1.step=P.steps.length - 1
  omega
 ·have:=n3 x hx
  rw[hMn] at this
  rcases List.mem_append.1 this with h | h
  ·exact Or.inl h
  ·exact Or.inr (o3 x (List.mem_filter.1 h).1)
end Go.Proofs.YtfldcmdhneegmaaGreatDoor

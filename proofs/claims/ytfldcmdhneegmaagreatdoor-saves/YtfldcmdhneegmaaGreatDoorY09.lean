import Derived.Test.YtfldcmdhneegmaaGreatDoorY06
import Derived.Test.YtfldcmdhneegmaaGreatDoorY07
import Derived.Laws.EntriesVeiled
import Derived.Shelf.Abstract
import Derived.Test.YtfldcmdhneegmaaGreatDoorY08
set_option maxHeartbeats 4000000
set_option maxRecDepth 1000000
namespace Go.Proofs.YtfldcmdhneegmaaGreatDoor
open Go.RowKit Go.Lib
structure ROwn (base:Nat)(w:World)(v:Value)(l:List RV):Prop where
 row:w.ownsRow base 164 3 v l.length (runCells l)
 offs:∀x∈l,IntsAt (I64 w) w x.2 x.1.offs
theorem ROwn.nil (base:Nat)(w:World):ROwn base w (.slice none 0 0) []:=⟨⟨rfl,Or.inl ⟨rfl,rfl⟩⟩,fun _ h=>by cases h⟩
theorem ROwn.below {base:Nat}{w w':World}{v:Value}{l:List RV}(h:ROwn base w v l)(hb:Below w.heap.size w w'):ROwn base w' v l:=
 ⟨own_below h.row hb,fun x hx=>(h.offs x hx).onI (fun i ⟨_,_,hi⟩=>hb.block i (lt_of_block hi)) hb.size⟩
theorem ROwn.toS {base:Nat}{w:World}{g n cap ob:Nat}{l:List RV}(h:ROwn base w (.slice (some ⟨g,0,none⟩) n cap) l)(hO:OrdAt w ob):SAt base g ob w cap l∧l.length=n:=by
 have hl:l.length=n:=by
  rcases h.row.2 with ⟨he,-⟩ | ⟨g',cap',cur,he,-⟩
  ·cases he
  ·cases he;rfl
 refine⟨⟨?_,hO,h.offs⟩,hl⟩
 have:=h.row
 rw[← hl] at this
 exact this
theorem ROwn.cases {base:Nat}{w:World}{v:Value}{l:List RV}(h:ROwn base w v l):(v=.slice none 0 0∧l=[])∨∃g cap,v=.slice (some ⟨g,0,none⟩) l.length cap∧base≤g:=by
 rcases h.row.2 with ⟨he,hn⟩ | ⟨g,cap,cur,he,hb,-⟩
 ·exact Or.inl ⟨he,List.eq_nil_of_length_eq_zero hn⟩
 ·exact Or.inr ⟨g,cap,he,hb⟩
theorem insertR_nil (fv:Value)(w:World):Calls Tryz.prog 257 #[.slice none 0 0,.int .i64 0,.int .i64 0,fv] w fun e w'=>e=.returned (.tuple #[])∧w'=w:=by
 go_enter Tryz.func257,Tryz.ntmps257
 go_wp2
 refine wp_loop_rounds 1 ?_
 rw[rounds_succ]
 go_wp2
 go_end0
 exact⟨rfl,rfl⟩
theorem stableR_nil (fv:Value)(w:World):Calls Tryz.prog 225 #[.slice none 0 0,.int .i64 0,fv] w fun e w'=>e=.returned (.tuple #[])∧w'=w:=by
 go_enter Tryz.func225,Tryz.ntmps225
 go_wp2
 refine wp_loop_rounds 1 ?_
 rw[rounds_succ]
 go_wp2_with (go_at_call 257;refine (insertR_nil _ _).mono ?_;rintro e w1 ⟨rfl,hw⟩;have hw':=hw.symm;subst hw')
 refine wp_loop_rounds 1 ?_
 rw[rounds_succ]
 go_wp2
 go_end0
 exact⟨rfl,rfl⟩
theorem sortStableR_nil (fv:Value)(w:World):Calls Tryz.prog 173 #[.slice none 0 0,fv] w fun e w'=>e=.returned (.tuple #[])∧w'=w:=by
 go_enter Tryz.func173,Tryz.ntmps173
 go_wp2_with (go_at_call 225;refine (stableR_nil _ _).mono ?_;rintro e w1 ⟨rfl,hw⟩;have hw':=hw.symm;subst hw')
 go_end0
 exact⟨rfl,rfl⟩
theorem compactR_nil (fv:Value)(w:World):Calls Tryz.prog 174 #[.slice none 0 0,fv] w fun e w'=>e=.returned (.slice none 0 0)∧w'=w:=by
 go_enter Tryz.func174,Tryz.ntmps174
 go_wp2
 go_ret
 exact⟨rfl,rfl⟩
def ArrEnd (base:Nat)(v:Value)(l:List RV)(w:World)(e:Ending)(w':World):Prop:=
 ∃v' S,e=.returned v'∧S.Perm l∧Sm.Srt ltR S∧ROwn base w' v' (cmpctR S)∧w.grownBy w' v.ownBlock∧v'.ownBlock=v.ownBlock
theorem var_set {W:World}{k:Nat}{z u:Value}{t:TypeId}(h:W.heap[k]?=some (.cells #[z] t (0,0))):(W.setCell ⟨k,0,none⟩ u).heap[k]?=some (.cells #[u] t (0,0))∧W.cell? ⟨k,0,none⟩=some z∧W.frozen? ⟨k,0,none⟩=false:=by
 refine⟨?_,by simp[World.cell?,h],by simp[World.frozen?,h]⟩
 show (W.heap.modify k _)[k]?=_
 rw[Array.getElem?_modify,if_pos rfl,h]
 rfl
theorem var_new (w:World)(t:TypeId)(z u:Value):((w.alloc (.cells #[z] t)).setCell ⟨w.heap.size,0,none⟩ u).heap[w.heap.size]?=some (.cells #[u] t (0,0))∧Below w.heap.size w ((w.alloc (.cells #[z] t)).setCell ⟨w.heap.size,0,none⟩ u)∧(w.alloc (.cells #[z] t)).cell? ⟨w.heap.size,0,none⟩=some z∧(w.alloc (.cells #[z] t)).frozen? ⟨w.heap.size,0,none⟩=false:=by
 have h0:(w.alloc (.cells #[z] t)).heap[w.heap.size]?=some (.cells #[z] t (0,0)):=heap_alloc_new w _
 obtain⟨h1,h2,h3⟩:=var_set (u:=u) h0
 refine⟨h1,?_,h2,h3⟩
 refine ((Below.refl _ _).alloc (Nat.le_refl _) (.cells #[z] t)).trans ⟨rfl,rfl,rfl,by simp[World.setCell],fun k hk=>?_⟩
 exact Below.heap_setCell _ _ _ _ (by simp;omega)
theorem arranged_any (base:Nat)(v:Value)(l:List RV)(w:World)(h:ROwn base w v l)(hn:l.length≤1000000) :
  Calls Tryz.prog 106 #[v] w (ArrEnd base v l w):=by
 have HO:Hid (∀W,Calls Tryz.prog 172 #[] W fun e w1=>∃ob,e=.returned (.func (.func 254) #[] #[.pointer (some ⟨ob,0,none⟩)])∧∃W2,(w1.alloc (.cells #[Value.nilFunc] 292)).setCell ⟨w1.heap.size,0,none⟩ (.func (.func 254) #[] #[.pointer (some ⟨ob,0,none⟩)])=W2∧(w1.alloc (.cells #[Value.nilFunc] 292)).cell? ⟨w1.heap.size,0,none⟩=some Value.nilFunc∧(w1.alloc (.cells #[Value.nilFunc] 292)).frozen? ⟨w1.heap.size,0,none⟩=false∧CmpAt W2 w1.heap.size ob∧Below W.heap.size W W2):=hid (fun W=>by
  refine (runOrder_any W).mono ?_
  rintro e w1 ⟨ob,he,hO,hb⟩
  obtain⟨h1,h2,h3,h4⟩:=var_new w1 292 Value.nilFunc (.func (.func 254) #[] #[.pointer (some ⟨ob,0,none⟩)])
  exact⟨ob,he,_,rfl,h3,h4,⟨h1,hO.below h2⟩,hb.trans (h2.mono hb.size)⟩)
 have HS:=hid h
 rcases h.cases with ⟨rfl,rfl⟩ | ⟨g,cap,rfl,hbg⟩
 ·clear h
  go_enter Tryz.func106,Tryz.ntmps106
  go_wp2_with (first | (go_at_call 172;refine (HO.out _).mono ?_;rintro e w1 ⟨ob,rfl,W2,hW2,hc1,hf1,hC1,hb1⟩;have hc2:W2.cell? ⟨w1.heap.size,0,none⟩=some (.func (.func 254) #[] #[.pointer (some ⟨ob,0,none⟩)]):=(by simp[World.cell?,hC1.var]);have H1:=hid (And.intro hC1 hb1);clear hC1 hb1) | (go_at_call 173;refine (sortStableR_nil _ _).mono ?_;rintro e w2 ⟨rfl,hw2⟩;have hw2':=hw2.symm;subst hw2') | (go_at_call 174;refine (compactR_nil _ _).mono ?_;rintro e w3 ⟨rfl,hw3⟩;have hw3':=hw3.symm;subst hw3'))
  go_ret
  exact⟨_,[],rfl,List.Perm.refl _,List.Pairwise.nil,ROwn.nil _ _,grown_below H1.out.2 _,rfl⟩
 ·obtain⟨n,hnl⟩:∃n,l.length=n:=⟨_,rfl⟩
  rw[hnl] at hn HS ⊢
  have HN:=hid hnl
  clear h hnl
  go_enter Tryz.func106,Tryz.ntmps106
  go_wp2_with (first | (go_at_call 172;refine (HO.out _).mono ?_;rintro e w1 ⟨ob,rfl,W2,hW2,hc1,hf1,hC1,hb1⟩;have hc2:W2.cell? ⟨w1.heap.size,0,none⟩=some (.func (.func 254) #[] #[.pointer (some ⟨ob,0,none⟩)]):=(by simp[World.cell?,hC1.var]);have H1:=hid (And.intro hC1 hb1);clear hC1 hb1) | (go_at_call 173;refine (sortStableR_any base g ob cap l _ ((HS.out.below H1.out.2).toS H1.out.1.ord).1 n HN.out hn).mono ?_;rintro e w2 ⟨rfl,M,p1,q1,s1,g1⟩;have H2:=hid (And.intro p1 (And.intro q1 (And.intro s1 (And.intro (H1.out.1.grown ((HS.out.below H1.out.2).toS H1.out.1.ord).1 g1) (grown_trans (grown_below H1.out.2 _) g1)))));clear p1 q1 s1 g1) | (go_at_call 174;refine (compactR_any base g ob w1.heap.size cap M _ H2.out.2.2.1 H2.out.2.2.2.1 n (by rw[H2.out.1.length_eq,HN.out]) hn).mono ?_;rintro e w3 ⟨rfl,s2,g2⟩;have H3:=hid (And.intro s2 (grown_trans H2.out.2.2.2.2 g2));clear s2 g2))
  go_ret
  exact⟨_,M,rfl,H2.out.1,H2.out.2.1,⟨H3.out.1.row,H3.out.1.offs⟩,H3.out.2,rfl⟩
theorem En.lt_cmp (r s:En.Rn):En.lt r s=decide (En.cmpR r s < 0):=by
 have key:∀a b:List Int,En.before a b=decide (En.cmpL a b < 0):=by
  intro a
  induction a with
  | nil=>intro b;cases b<;>simp[En.before,En.cmpL]
  | cons x a ih=>
   intro b
   cases b with
   | nil=>simp[En.before,En.cmpL]
   | cons y b=>
    unfold En.before En.cmpL
    rcases En.cmpI_cases x y with ⟨h,h'⟩ | ⟨h,h'⟩ | ⟨h,h'⟩
    ·rw[h];simp[show x≠y by omega,h']
    ·rw[h,if_pos rfl,← ih b];simp[h']
    ·rw[h];simp[show x≠y by omega,show ¬ x < y by omega]
 unfold En.lt En.cmpR
 rw[key]
 by_cases h:En.cmpL r.offs s.offs=0
 ·rw[if_pos h]
  have h':=En.cmpL_eq.1 h
  rw[h,h']
  rcases En.cmpI_cases (r.step:Int) s.step with ⟨e,k⟩ | ⟨e,k⟩ | ⟨e,k⟩<;>rw[e]<;>simp<;>omega
 ·rw[if_neg h]
  have h':r.offs≠s.offs:=fun e=>h (En.cmpL_eq.2 e)
  simp[h']
theorem srt_sorted {S:List RV}(h:Sm.Srt ltR S):En.Sorted (S.map (·.1)):=by
 induction S with
 | nil=>exact trivial
 | cons x t ih=>
  obtain⟨h1,h2⟩:=List.pairwise_cons.1 h
  refine⟨fun y hy=>?_,ih h2⟩
  obtain⟨z,hz,rfl⟩:=List.mem_map.1 hy
  rw[En.lt_cmp]
  exact h1 z hz
theorem cmpct_map {ψ:Int→Int}:∀(t:List RV) (x:RV),(∀y∈x::t,En.Det ψ y.1)→(cmpctR (x::t)).map (·.1)=En.compact ((x::t).map (·.1))
 | [],x,_=>by simp[cmpctR,upR,En.compact]
 | y::t,x,hd=>by
  have ih:=cmpct_map t y (fun z hz=>hd z (List.mem_cons_of_mem _ hz))
  simp only[cmpctR,upR,List.map_cons] at ih ⊢
  unfold En.compact
  by_cases h:En.cmpR y.1 x.1=0
  ·rw[if_pos h]
   have hk:En.sameKey x.1 y.1=true:=by
    obtain⟨h1,h2⟩:=En.cmpR_eq.1 h
    exact En.sameKey_iff.2 ⟨h1.symm,h2.symm⟩
   rw[if_pos hk]
   have e:x.1=y.1:=En.det_eq (hd x List.mem_cons_self) (hd y (List.mem_cons_of_mem _ List.mem_cons_self)) hk
   rw[e,← ih]
  ·rw[if_neg h]
   have hk:¬ En.sameKey x.1 y.1=true:=fun hk=>h (by
    obtain⟨h1,h2⟩:=En.sameKey_iff.1 hk
    exact En.cmpR_eq.2 ⟨h1.symm,h2.symm⟩)
   rw[if_neg hk,List.map_cons,ih]
theorem arranged_ord {ψ:Int→Int}{S l:List RV}(hp:S.Perm l)(hs:Sm.Srt ltR S)(hd:∀x∈l,En.Det ψ x.1):En.Ord ((cmpctR S).map (·.1))∧(∀r,r∈(cmpctR S).map (·.1)↔r∈l.map (·.1))∧∀x∈cmpctR S,x∈l:=by
 have hd':∀x∈S,En.Det ψ x.1:=fun x hx=>hd x (hp.mem_iff.1 hx)
 have hc:(cmpctR S).map (·.1)=En.compact (S.map (·.1)):=by
  cases S with
  | nil=>simp[cmpctR,En.compact]
  | cons x t=>exact cmpct_map t x hd'
 obtain⟨h1,h2⟩:=En.compact_ord (ψ:=ψ) (S.map (·.1)).length (S.map (·.1)) (Nat.le_refl _) (fun r hr=>by obtain⟨x,hx,rfl⟩:=List.mem_map.1 hr;exact hd' x hx) (srt_sorted hs)
 rw[hc]
 refine⟨h1,fun r=>?_,fun x hx=>hp.mem_iff.1 (cmpct_mem S x hx)⟩
 rw[h2]
 exact (hp.map (·.1)).mem_iff
theorem Tryz.infoPRun:(Tryz.prog.info? 164).map (fun i=>(i.zero,i.size,i.bytes))=some (some (.agg #[.int .i64 0,.slice none 0 0,.int .i64 0]),3,40):=by kernel_rfl
structure SelRel (p:En.Rn→Bool)(l:List RV)(k:Nat)(w wr:World)(v:Value)(M:List RV):Prop where
 own:wr.ownsRow w.heap.size 164 3 v M.length (runCells M)
 eq:M=(l.take k).filter fun x=>p x.1
 bel:Below w.heap.size w wr
theorem SelRel.len {p:En.Rn→Bool}{l:List RV}{k:Nat}{w wr:World}{v:Value}{M:List RV}(h:SelRel p l k w wr v M):M.length≤l.length:=by
 rw[h.eq]
 refine Nat.le_trans (List.length_filter_le _ _) ?_
 rw[List.length_take]
 omega
theorem SelRel.skip {p:En.Rn→Bool}{l:List RV}{k:Nat}{w wr w2:World}{v:Value}{M:List RV}(h:SelRel p l k w wr v M)(hk:k < l.length)(hp:p l[k].1=false)(hb:Below wr.heap.size wr w2):SelRel p l (k+1) w w2 v M:=
 ⟨own_below h.own hb,by rw[h.eq,List.take_succ_eq_append_getElem hk,List.filter_append];simp[hp],h.bel.trans (hb.mono h.bel.size)⟩
theorem SelRel.more {p:En.Rn→Bool}{l:List RV}{k:Nat}{w wr w2 w5:World}{v v5:Value}{M:List RV}{o:Obj}(h:SelRel p l k w wr v M)(hk:k < l.length)(hp:p l[k].1=true)(hb:Below wr.heap.size wr w2)
  (own5:w5.ownsRow w.heap.size 164 3 v5 (M.length+1) (runCells M++[.int .i64 l[k].1.step,l[k].2,.int .i64 l[k].1.first])) (gr5:(w2.alloc o).grownBy w5 v.ownBlock):SelRel p l (k+1) w w5 v5 (M++[l[k]]):=by
 have hB:=h.bel.trans (hb.mono h.bel.size)
 refine⟨by simpa [runCells] using own5,by rw[h.eq,List.take_succ_eq_append_getElem hk,List.filter_append];simp[hp],(hB.alloc hB.size o).grown gr5 (Nat.le_trans hB.size (by simp)) (fun k hk=>(own_block h.own k hk).1)⟩
def SelEnd (p:En.Rn→Bool)(l:List RV)(w:World)(e:Ending)(w':World):Prop:=
 ∃v',e=.returned v'∧w'.ownsRow w.heap.size 164 3 v' (l.filter fun x=>p x.1).length (runCells (l.filter fun x=>p x.1))∧Below w.heap.size w w'
theorem selected_any (F:Nat→Prop)(p:En.Rn→Bool)(vl:Value)(l:List RV)(g:Nat)(cb:Array Value)(w:World)(eg:∀args w,(callFunc g args).run Tryz.prog w=.ok (.enter g args) w)(hl:RunsAt F w vl l)(hn:l.length≤1000000)
  (hk:∀x∈l,∀W,Below w.heap.size w W→Calls Tryz.prog g (#[rval x]++cb) W fun e w'=>e=.returned (.bool (p x.1))∧Below W.heap.size W w') :
  Calls Tryz.prog 166 #[vl,.func (.func g) #[] cb] w (SelEnd p l w):=by
 obtain⟨ao,cap,rfl,hc1,hc2⟩:=hl.slice
 have HL:=hid hl
 have HK:=hid hk
 clear hl hk
 go_enter Tryz.func166,Tryz.ntmps166
 go_wp2
 go_loopw [5,10] (fun o i wr=>∃(k:Nat) (v:Value) (M:List RV),k≤l.length∧i=.int .i64 k∧o=v∧Hid (SelRel p l k w wr v M)) (fun _ i _=>l.length - (intOf i).toNat)
 case atStart=>exact⟨0,_,[],by omega,rfl,rfl,World.ownsRow_nil _ _ _ _,by simp,Below.refl _ _⟩
 case round=>
  obtain⟨k,v,M,hk,rfl,rfl,hr⟩:=hrel
  obtain⟨av,cv,rfl⟩:=own_slice hr.out.own
  by_cases hlt:k < l.length
  ·obtain⟨b1,o1,rfl,hb1,c0,c1,c2⟩:=(HL.out.below hr.out.bel).get hlt
   have hk':(k:Int) < (l.length:Int):=by omega
   have hmem:l[k]∈l:=List.getElem_mem hlt
   obtain⟨ak,nk,ck,hvk⟩:∃a n c,l[k].2=.slice a n c:=by
    obtain⟨a,c,h,-⟩:=RowAt.slice (HL.out.offs _ hmem)
    exact⟨a,_,c,h⟩
   have HC:Hid (∀W,Below w.heap.size w W→Calls Tryz.prog g (#[.agg #[.int .i64 l[k].1.step,.slice ak nk ck,.int .i64 l[k].1.first]]++cb) W fun e w'=>e=.returned (.bool (p l[k].1))∧Below W.heap.size W w'):=hid (fun W hW=>by
    have:=HK.out _ hmem W hW
    unfold rval at this
    rw[hvk] at this
    exact this)
   rw[hvk] at c1
   have HX:=hid (And.intro hvk hlt)
   obtain⟨x,hx⟩:∃x,l[k]=x:=⟨_,rfl⟩
   rw[hx] at c0 c2 HC
   have HXX:=hid hx
   clear hx hvk hmem
   by_cases hp:p x.1=true
   ·rw[hp] at HC
    have HP:=hid hp
    clear hp
    go_wp2
    have hal:=(Below.refl wr.heap.size wr).alloc (Nat.le_refl _) (.cells #[.int .i64 x.1.step,.slice ak nk ck,.int .i64 x.1.first] 164)
    have ha:(wr.alloc (.cells #[.int .i64 x.1.step,.slice ak nk ck,.int .i64 x.1.first] 164)).heap[wr.heap.size]?=some (.cells #[.int .i64 x.1.step,.slice ak nk ck,.int .i64 x.1.first] 164 (0,0)):=heap_alloc_new wr _
    refine (HC.out _ (hr.out.bel.alloc hr.out.bel.size _)).mono ?_
    rintro e w1 ⟨rfl,hb1⟩
    have hw1:=(hb1.block _ (lt_of_block ha)).trans ha
    have y0:w1.cell? ⟨wr.heap.size,0,none⟩=some (.int .i64 x.1.step):=by simp[World.cell?,hw1]
    have y1:w1.cell? ⟨wr.heap.size,1,none⟩=some (.slice ak nk ck):=by simp[World.cell?,hw1]
    have y2:w1.cell? ⟨wr.heap.size,2,none⟩=some (.int .i64 x.1.first):=by simp[World.cell?,hw1]
    have H1:=hid (hal.trans (hb1.mono hal.size))
    clear hb1 hw1 ha hal c0 c1 c2
    obtain⟨i0,hi0,hz0,hz1,hz2⟩:=info_parts Tryz.infoPRun
    have hMl:=hr.out.len
    go_wp2_with (at_builtin;refine wpList_append_row rfl _ _ 157 rfl w.heap.size 164 i0 (.agg #[.int .i64 0,.slice none 0 0,.int .i64 0]) 3 40 Tryz.underlying157 hi0 hz0 hz1 hz2 rfl (by decide) _ _ _ rfl ((own_below hr.out.own H1.out).alloc _) (fun _=>True) _ 1 [.int .i64 x.1.step,.slice ak nk ck,.int .i64 x.1.first] rfl (three_row (heap_alloc_new _ _)) (by intro u hu;simp at hu;rcases hu with rfl | rfl | rfl<;>rfl) (by unfold maxLen;omega) (by omega) (Nat.le_trans hr.out.bel.size (Nat.le_trans H1.out.size (by simp))) ?_)
    intro v5 w5 own5 gr5
    have HN:=hid (hr.out.more hlt (by rw[HXX.out];exact HP.out) H1.out (by rw[HX.out.1,HXX.out];exact own5) gr5)
    clear own5 gr5
    go_wp2
    go_roundw
    case rel=>exact⟨k+1,_,_,by omega,by go_num,rfl,HN⟩
    case measure=>simp[intOf];omega
   ·have hp':p x.1=false:=by simpa using hp
    rw[hp'] at HC
    have HP:=hid hp'
    clear hp hp'
    go_wp2
    have hal:=(Below.refl wr.heap.size wr).alloc (Nat.le_refl _) (.cells #[.int .i64 x.1.step,.slice ak nk ck,.int .i64 x.1.first] 164)
    refine (HC.out _ (hr.out.bel.alloc hr.out.bel.size _)).mono ?_
    rintro e w1 ⟨rfl,hb1⟩
    have H1:=hid (hal.trans (hb1.mono hal.size))
    clear hb1 hal c0 c1 c2
    go_wp2
    go_roundw
    case rel=>exact⟨k+1,_,_,by omega,by go_num,rfl,hr.out.skip hlt (by rw[HXX.out];exact HP.out) H1.out⟩
    case measure=>simp[intOf];omega
  ·have hk':decide ((k:Int) < (l.length:Int))=false:=decide_eq_false (by omega)
   go_wp2
   go_ret
   have hq:=hr.out.eq
   rw[List.take_of_length_le (by omega)] at hq
   exact⟨_,rfl,by rw[← hq];exact hr.out.own,hr.out.bel⟩
theorem far_wrap (t first:Int):IntKind.u64.wrap (IntKind.u64.wrap t - IntKind.u64.wrap first)=En.far t first:=by
 simp[IntKind.wrap,IntKind.bits,IntKind.signed,En.far]
theorem wrap_win {x:Int}(h1:0≤x)(h2:x≤9999):IntKind.u64.wrap x=x:=by
 simp[IntKind.wrap,IntKind.bits,IntKind.signed]
 omega
theorem age_any (s first t:Int)(ao:Option Addr)(n c:Nat)(w:World) :
  Calls Tryz.prog 168 #[.agg #[.int .i64 s,.slice ao n c,.int .i64 first],.int .i64 t] w fun e w'=>e=.returned (.int .u64 (En.far t first))∧Below w.heap.size w w':=by
 go_enter Tryz.func168,Tryz.ntmps168
 go_wp2
 go_ret
 exact⟨by rw[← far_wrap];rfl,(Below.refl _ _).alloc (Nat.le_refl _) _⟩
theorem inWindow1_any (s first t win:Int)(ao:Option Addr)(n c mb vb eb:Nat)(w:World)(hw0:0≤win)(hw1:win≤9999)
  (hm:w.cell? ⟨mb,0,none⟩=some (.int .i64 t)) (hv:w.cell? ⟨vb,0,none⟩=some (.pointer (some ⟨eb,0,none⟩))) (he:w.cell? ⟨eb,1,none⟩=some (.int .i64 win)) :
  Calls Tryz.prog 167 #[.agg #[.int .i64 s,.slice ao n c,.int .i64 first],.pointer (some ⟨mb,0,none⟩),.pointer (some ⟨vb,0,none⟩)] w fun e w'=>e=.returned (.bool (decide (En.far t first≤win)))∧Below w.heap.size w w':=by
 have lm:=World.block_lt_of_cell? w ⟨mb,0,none⟩ hm
 have lv:=World.block_lt_of_cell? w ⟨vb,0,none⟩ hv
 have le:=World.block_lt_of_cell? w ⟨eb,1,none⟩ he
 simp only at lm lv le
 have hal:=(Below.refl w.heap.size w).alloc (Nat.le_refl _) (.cells #[.int .i64 s,.slice ao n c,.int .i64 first] 164)
 have hnew:(w.alloc (.cells #[.int .i64 s,.slice ao n c,.int .i64 first] 164)).heap[w.heap.size]?=some (.cells #[.int .i64 s,.slice ao n c,.int .i64 first] 164 (0,0)):=heap_alloc_new w _
 generalize hW:w.alloc (.cells #[.int .i64 s,.slice ao n c,.int .i64 first] 164)=W at hal hnew
 have m1:=(cell_bel hal ⟨mb,0,none⟩ lm).trans hm
 have v1:=(cell_bel hal ⟨vb,0,none⟩ lv).trans hv
 have e1:=(cell_bel hal ⟨eb,1,none⟩ le).trans he
 have r0:W.cell? ⟨w.heap.size,0,none⟩=some (.int .i64 s):=by simp[World.cell?,hnew]
 have r1:W.cell? ⟨w.heap.size,1,none⟩=some (.slice ao n c):=by simp[World.cell?,hnew]
 have r2:W.cell? ⟨w.heap.size,2,none⟩=some (.int .i64 first):=by simp[World.cell?,hnew]
 have hsz:=lt_of_block hnew
 have HA:=hid (fun W'=>age_any s first t ao n c W')
 have HB:=hid (And.intro hal hsz)
 have hww:=wrap_win hw0 hw1
 have lm':mb < W.heap.size:=by have:=hal.size;omega
 have lv':vb < W.heap.size:=by have:=hal.size;omega
 have le':eb < W.heap.size:=by have:=hal.size;omega
 clear hal hnew hm hv he
 go_enter Tryz.func167,Tryz.ntmps167
 go_wp2
 go_region_held3 (fun W=>W.cell? ⟨w.heap.size,0,none⟩=some (.int .i64 s)∧W.cell? ⟨w.heap.size,1,none⟩=some (.slice ao n c)∧W.cell? ⟨w.heap.size,2,none⟩=some (.int .i64 first)∧W.cell? ⟨mb,0,none⟩=some (.int .i64 t)∧W.cell? ⟨vb,0,none⟩=some (.pointer (some ⟨eb,0,none⟩))∧W.cell? ⟨eb,1,none⟩=some (.int .i64 win)) (go_keep) ((go_at_call 168;refine (HA.out _).mono ?_;rintro e w1 ⟨rfl,hb1⟩;have z0:=(cell_bel hb1 ⟨w.heap.size,0,none⟩ hsz).trans r0;have z1:=(cell_bel hb1 ⟨w.heap.size,1,none⟩ hsz).trans r1;have z2:=(cell_bel hb1 ⟨w.heap.size,2,none⟩ hsz).trans r2;have z3:=(cell_bel hb1 ⟨mb,0,none⟩ lm').trans m1;have z4:=(cell_bel hb1 ⟨vb,0,none⟩ lv').trans v1;have z5:=(cell_bel hb1 ⟨eb,1,none⟩ le').trans e1;have H1:=hid hb1;clear hb1))
 have HB1:Hid (Below W.heap.size W w1):=hid (by first | exact H1.out | exact (bel_drewN (Below.refl _ _) _).trans H1.out | exact (Below.drew (Below.refl _ _)).trans H1.out)
 go_wp2
 go_ret
 exact⟨rfl,HB.out.1.trans (HB1.out.mono HB.out.1.size)⟩
def lastsP (win t:Int)(r:En.Rn):Bool:=decide (En.far t r.first < win)
theorem lasts_any (s first t win:Int)(ao:Option Addr)(n c eb:Nat)(w:World)(hw0:0≤win)(hw1:win≤9999)(he:w.cell? ⟨eb,1,none⟩=some (.int .i64 win)) :
  Calls Tryz.prog 182 #[.pointer (some ⟨eb,0,none⟩),.agg #[.int .i64 s,.slice ao n c,.int .i64 first],.int .i64 t] w fun e w'=>e=.returned (.bool (decide (En.far t first < win)))∧Below w.heap.size w w':=by
 have le:=World.block_lt_of_cell? w ⟨eb,1,none⟩ he
 simp only at le
 have hal:=(Below.refl w.heap.size w).alloc (Nat.le_refl _) (.cells #[.int .i64 s,.slice ao n c,.int .i64 first] 164)
 have hnew:(w.alloc (.cells #[.int .i64 s,.slice ao n c,.int .i64 first] 164)).heap[w.heap.size]?=some (.cells #[.int .i64 s,.slice ao n c,.int .i64 first] 164 (0,0)):=heap_alloc_new w _
 generalize hW:w.alloc (.cells #[.int .i64 s,.slice ao n c,.int .i64 first] 164)=W at hal hnew
 have e1:=(cell_bel hal ⟨eb,1,none⟩ le).trans he
 have r0:W.cell? ⟨w.heap.size,0,none⟩=some (.int .i64 s):=by simp[World.cell?,hnew]
 have r1:W.cell? ⟨w.heap.size,1,none⟩=some (.slice ao n c):=by simp[World.cell?,hnew]
 have r2:W.cell? ⟨w.heap.size,2,none⟩=some (.int .i64 first):=by simp[World.cell?,hnew]
 have hsz:=lt_of_block hnew
 have HA:=hid (fun W'=>age_any s first t ao n c W')
 have HB:=hid (And.intro hal hsz)
 have hww:=wrap_win hw0 hw1
 have le':eb < W.heap.size:=by have:=hal.size;omega
 clear hal hnew he
 go_enter Tryz.func182,Tryz.ntmps182
 go_wp2
 go_region_held3 (fun W=>W.cell? ⟨w.heap.size,0,none⟩=some (.int .i64 s)∧W.cell? ⟨w.heap.size,1,none⟩=some (.slice ao n c)∧W.cell? ⟨w.heap.size,2,none⟩=some (.int .i64 first)∧W.cell? ⟨eb,1,none⟩=some (.int .i64 win)) (go_keep) ((go_at_call 168;refine (HA.out _).mono ?_;rintro e w1 ⟨rfl,hb1⟩;have z0:=(cell_bel hb1 ⟨w.heap.size,0,none⟩ hsz).trans r0;have z1:=(cell_bel hb1 ⟨w.heap.size,1,none⟩ hsz).trans r1;have z2:=(cell_bel hb1 ⟨w.heap.size,2,none⟩ hsz).trans r2;have z3:=(cell_bel hb1 ⟨eb,1,none⟩ le').trans e1;have H1:=hid hb1;clear hb1))
 have HB1:Hid (Below W.heap.size W w1):=hid (by first | exact H1.out | exact (bel_drewN (Below.refl _ _) _).trans H1.out | exact (Below.drew (Below.refl _ _)).trans H1.out)
 go_wp2
 go_ret
 exact⟨rfl,HB.out.1.trans (HB1.out.mono HB.out.1.size)⟩
theorem lasting1_any (s first t win:Int)(ao:Option Addr)(n c mb vb eb:Nat)(w:World)(hw0:0≤win)(hw1:win≤9999)
  (hv:w.cell? ⟨vb,0,none⟩=some (.pointer (some ⟨eb,0,none⟩))) (hm:w.cell? ⟨mb,0,none⟩=some (.int .i64 t)) (he:w.cell? ⟨eb,1,none⟩=some (.int .i64 win)) :
  Calls Tryz.prog 181 #[.agg #[.int .i64 s,.slice ao n c,.int .i64 first],.pointer (some ⟨vb,0,none⟩),.pointer (some ⟨mb,0,none⟩)] w fun e w'=>e=.returned (.bool (decide (En.far t first < win)))∧Below w.heap.size w w':=by
 have lm:=World.block_lt_of_cell? w ⟨mb,0,none⟩ hm
 have lv:=World.block_lt_of_cell? w ⟨vb,0,none⟩ hv
 have le:=World.block_lt_of_cell? w ⟨eb,1,none⟩ he
 simp only at lm lv le
 have hal:=(Below.refl w.heap.size w).alloc (Nat.le_refl _) (.cells #[.int .i64 s,.slice ao n c,.int .i64 first] 164)
 have hnew:(w.alloc (.cells #[.int .i64 s,.slice ao n c,.int .i64 first] 164)).heap[w.heap.size]?=some (.cells #[.int .i64 s,.slice ao n c,.int .i64 first] 164 (0,0)):=heap_alloc_new w _
 generalize hW:w.alloc (.cells #[.int .i64 s,.slice ao n c,.int .i64 first] 164)=W at hal hnew
 have m1:=(cell_bel hal ⟨mb,0,none⟩ lm).trans hm
 have v1:=(cell_bel hal ⟨vb,0,none⟩ lv).trans hv
 have e1:=(cell_bel hal ⟨eb,1,none⟩ le).trans he
 have r0:W.cell? ⟨w.heap.size,0,none⟩=some (.int .i64 s):=by simp[World.cell?,hnew]
 have r1:W.cell? ⟨w.heap.size,1,none⟩=some (.slice ao n c):=by simp[World.cell?,hnew]
 have r2:W.cell? ⟨w.heap.size,2,none⟩=some (.int .i64 first):=by simp[World.cell?,hnew]
 have HA:=hid (lasts_any s first t win ao n c eb W hw0 hw1 e1)
 have HB:=hid hal
 clear hal hnew hm hv he
 go_enter Tryz.func181,Tryz.ntmps181
 go_wp2_with (go_at_call 182;refine HA.out.mono ?_;rintro e w1 ⟨rfl,hb1⟩;have H1:=hid hb1;clear hb1)
 go_ret
 exact⟨rfl,HB.out.trans (H1.out.mono HB.out.size)⟩
theorem ableToGoOn1_any (F:Nat→Prop)(l:List (Int × Bool))(s:Nat)(first win:Int)(vs:Value)(ao:Option Addr)(n c vb eb:Nat)(w:World)(hS:StepsAt F w vs l)(hl:l.length≤1000)(hs:s < l.length)
  (hv:w.cell? ⟨vb,0,none⟩=some (.pointer (some ⟨eb,0,none⟩))) (he0:w.cell? ⟨eb,0,none⟩=some vs) (he:w.cell? ⟨eb,1,none⟩=some (.int .i64 win)) :
  Calls Tryz.prog 177 #[.agg #[.int .i64 s,.slice ao n c,.int .i64 first],.pointer (some ⟨vb,0,none⟩)] w fun e w'=>e=.returned (.bool (goesOn l s))∧Below w.heap.size w w':=by
 have lv:=World.block_lt_of_cell? w ⟨vb,0,none⟩ hv
 have le:=World.block_lt_of_cell? w ⟨eb,1,none⟩ he
 simp only at lv le
 have hal:=(Below.refl w.heap.size w).alloc (Nat.le_refl _) (.cells #[.int .i64 s,.slice ao n c,.int .i64 first] 164)
 have hnew:(w.alloc (.cells #[.int .i64 s,.slice ao n c,.int .i64 first] 164)).heap[w.heap.size]?=some (.cells #[.int .i64 s,.slice ao n c,.int .i64 first] 164 (0,0)):=heap_alloc_new w _
 generalize hW:w.alloc (.cells #[.int .i64 s,.slice ao n c,.int .i64 first] 164)=W at hal hnew
 have v1:=(cell_bel hal ⟨vb,0,none⟩ lv).trans hv
 have e0:=(cell_bel hal ⟨eb,0,none⟩ le).trans he0
 have e1:=(cell_bel hal ⟨eb,1,none⟩ le).trans he
 have r0:W.cell? ⟨w.heap.size,0,none⟩=some (.int .i64 s):=by simp[World.cell?,hnew]
 have HA:=hid (fun W' (hW':Below W.heap.size W W')=>pGoesOn_any F vs l win s W' ((hS.below hal).below hW') hl hs)
 have hsz:=lt_of_block hnew
 have lv':vb < W.heap.size:=by have:=hal.size;omega
 have le':eb < W.heap.size:=by have:=hal.size;omega
 obtain⟨ap,cp,rfl,-,-⟩:=RowAt.slice hS
 have HB:=hid hal
 clear hal hnew hv he he0 hS
 go_enter Tryz.func177,Tryz.ntmps177
 go_wp2
 go_region_held3 (fun W=>W.cell? ⟨w.heap.size,0,none⟩=some (.int .i64 s)∧W.cell? ⟨vb,0,none⟩=some (.pointer (some ⟨eb,0,none⟩))∧W.cell? ⟨eb,0,none⟩=some (.slice ap l.length cp)∧W.cell? ⟨eb,1,none⟩=some (.int .i64 win)) (go_keep) ((go_at_call 178;refine (HA.out _ (by first | exact bel_drewN (Below.refl _ _) _ | exact Below.drew (Below.refl _ _) | exact Below.refl _ _)).mono ?_;rintro e w1 ⟨rfl,hb1⟩;have z0:=(cell_bel hb1 ⟨w.heap.size,0,none⟩ hsz).trans r0;have z1:=(cell_bel hb1 ⟨vb,0,none⟩ lv').trans v1;have z2:=(cell_bel hb1 ⟨eb,0,none⟩ le').trans e0;have z3:=(cell_bel hb1 ⟨eb,1,none⟩ le').trans e1;have H1:=hid hb1;clear hb1))
 have HB1:Hid (Below W.heap.size W w1):=hid (by first | exact H1.out | exact (bel_drewN (Below.refl _ _) _).trans H1.out | exact (Below.drew (Below.refl _ _)).trans H1.out)
 go_wp2
 go_ret
 exact⟨rfl,HB.out.trans (HB1.out.mono HB.out.size)⟩
theorem SelEnd.up {p:En.Rn→Bool}{l:List RV}{w w1:World}{e:Ending}{w':World}(h:SelEnd p l w1 e w')(hb:Below w.heap.size w w1):SelEnd p l w e w':=by
 obtain⟨v',h1,h2,h3⟩:=h
 exact⟨v',h1,own_mono h2 hb.size,hb.trans (h3.mono hb.size)⟩
theorem one_of {w:World}{N:Nat}{x:Value}{t:TypeId}(h:w.heap[N]?=some (.cells #[x] t (0,0))):w.cell? ⟨N,0,none⟩=some x:=by simp[World.cell?,h]
theorem rval_eq {F:Nat→Prop}{w:World}{x:RV}(h:IntsAt F w x.2 x.1.offs):∃a n c,rval x=.agg #[.int .i64 x.1.step,.slice a n c,.int .i64 x.1.first]:=by
 obtain⟨a,c,e,-⟩:=RowAt.slice h
 exact⟨a,_,c,by unfold rval;rw[e]⟩
def inWinP (win t:Int)(r:En.Rn):Bool:=decide (En.far t r.first≤win)
theorem two_new (w:World)(x y:Value)(t u:TypeId):Below w.heap.size w ((w.alloc (.cells #[x] t)).alloc (.cells #[y] u))∧((w.alloc (.cells #[x] t)).alloc (.cells #[y] u)).cell? ⟨w.heap.size,0,none⟩=some x∧((w.alloc (.cells #[x] t)).alloc (.cells #[y] u)).cell? ⟨w.heap.size+1,0,none⟩=some y:=
 ⟨((Below.refl _ _).alloc (Nat.le_refl _) _).alloc (by simp) _,one_of ((Below.heap_alloc _ _ _ (by simp)).trans (heap_alloc_new w _)),one_of (new_at (by simp))⟩
theorem inWindow_any (F:Nat→Prop)(vl:Value)(l:List RV)(eb:Nat)(t win:Int)(w:World)(hl:RunsAt F w vl l)(hn:l.length≤1000000)(hw0:0≤win)(hw1:win≤9999)(he:w.cell? ⟨eb,1,none⟩=some (.int .i64 win)) :
  Calls Tryz.prog 104 #[.pointer (some ⟨eb,0,none⟩),vl,.int .i64 t] w (SelEnd (inWinP win t) l w):=by
 have le:=World.block_lt_of_cell? w ⟨eb,1,none⟩ he
 simp only at le
 obtain⟨ao,cap,rfl,-,-⟩:=hl.slice
 have hmf:∀(fn:Fn) (first cap:Array Value) (w:World),(Instr.makeFunc fn first cap).run Tryz.prog w=.ok (.func fn first cap) w:=fun _ _ _ _=>rfl
 obtain⟨h1,h2,h3⟩:=two_new w (.pointer (some ⟨eb,0,none⟩)) (.int .i64 t) 67 2
 generalize hW:(w.alloc (.cells #[.pointer (some ⟨eb,0,none⟩)] 67)).alloc (.cells #[.int .i64 t] 2)=W at h1 h2 h3
 have he':=(cell_bel h1 ⟨eb,1,none⟩ le).trans he
 have HC:=hid ((selected_any F (inWinP win t) (.slice ao l.length cap) l 167 #[.pointer (some ⟨w.heap.size+1,0,none⟩),.pointer (some ⟨w.heap.size,0,none⟩)] W (enters_of Tryz.func167 (by kernel_rfl) rfl) (hl.below h1) hn (fun x hx W' hW'=>by
  obtain⟨a,n,c,e⟩:=rval_eq (hl.offs x hx)
  rw[e]
  exact inWindow1_any x.1.step x.1.first t win a n c (w.heap.size+1) w.heap.size eb W' hw0 hw1 ((cell_bel hW' _ (World.block_lt_of_cell? W _ h3)).trans h3) ((cell_bel hW' _ (World.block_lt_of_cell? W _ h2)).trans h2) ((cell_bel hW' _ (World.block_lt_of_cell? W _ he')).trans he'))).mono (fun e w' h=>h.up h1))
 clear hl he h1 h2 h3 he'
 go_enter Tryz.func104,Tryz.ntmps104
 go_wp2_with (go_at_call 166;refine HC.out.mono ?_;rintro e w1 ⟨v',rfl,hr1⟩;have H1:=hid hr1;clear hr1)
 go_ret
 exact⟨_,rfl,H1.out⟩
theorem lasting_any (F:Nat→Prop)(vl:Value)(l:List RV)(eb:Nat)(t win:Int)(w:World)(hl:RunsAt F w vl l)(hn:l.length≤1000000)(hw0:0≤win)(hw1:win≤9999)(he:w.cell? ⟨eb,1,none⟩=some (.int .i64 win)) :
  Calls Tryz.prog 110 #[.pointer (some ⟨eb,0,none⟩),vl,.int .i64 t] w (SelEnd (lastsP win t) l w):=by
 have le:=World.block_lt_of_cell? w ⟨eb,1,none⟩ he
 simp only at le
 obtain⟨ao,cap,rfl,-,-⟩:=hl.slice
 have hmf:∀(fn:Fn) (first cap:Array Value) (w:World),(Instr.makeFunc fn first cap).run Tryz.prog w=.ok (.func fn first cap) w:=fun _ _ _ _=>rfl
 obtain⟨h1,h2,h3⟩:=two_new w (.pointer (some ⟨eb,0,none⟩)) (.int .i64 t) 67 2
 generalize hW:(w.alloc (.cells #[.pointer (some ⟨eb,0,none⟩)] 67)).alloc (.cells #[.int .i64 t] 2)=W at h1 h2 h3
 have he':=(cell_bel h1 ⟨eb,1,none⟩ le).trans he
 have HC:=hid ((selected_any F (lastsP win t) (.slice ao l.length cap) l 181 #[.pointer (some ⟨w.heap.size,0,none⟩),.pointer (some ⟨w.heap.size+1,0,none⟩)] W (enters_of Tryz.func181 (by kernel_rfl) rfl) (hl.below h1) hn (fun x hx W' hW'=>by
  obtain⟨a,n,c,e⟩:=rval_eq (hl.offs x hx)
  rw[e]
  exact lasting1_any x.1.step x.1.first t win a n c (w.heap.size+1) w.heap.size eb W' hw0 hw1 ((cell_bel hW' _ (World.block_lt_of_cell? W _ h2)).trans h2) ((cell_bel hW' _ (World.block_lt_of_cell? W _ h3)).trans h3) ((cell_bel hW' _ (World.block_lt_of_cell? W _ he')).trans he'))).mono (fun e w' h=>h.up h1))
 clear hl he h1 h2 h3 he'
 go_enter Tryz.func110,Tryz.ntmps110
 go_wp2_with (go_at_call 166;refine HC.out.mono ?_;rintro e w1 ⟨v',rfl,hr1⟩;have H1:=hid hr1;clear hr1)
 go_ret
 exact⟨_,rfl,H1.out⟩
theorem ableToGoOn_any (F G:Nat→Prop)(vl:Value)(l:List RV)(eb:Nat)(win:Int)(vs:Value)(st:List (Int × Bool))(w:World)(hl:RunsAt F w vl l)(hn:l.length≤1000000)(hS:StepsAt G w vs st)(hsl:st.length≤1000)(hst:∀x∈l,x.1.step < st.length)
  (he0:w.cell? ⟨eb,0,none⟩=some vs) (he:w.cell? ⟨eb,1,none⟩=some (.int .i64 win)) :
  Calls Tryz.prog 108 #[.pointer (some ⟨eb,0,none⟩),vl] w (SelEnd (fun r=>goesOn st r.step) l w):=by
 have le:=World.block_lt_of_cell? w ⟨eb,1,none⟩ he
 simp only at le
 obtain⟨ao,cap,rfl,-,-⟩:=hl.slice
 have hmf:∀(fn:Fn) (first cap:Array Value) (w:World),(Instr.makeFunc fn first cap).run Tryz.prog w=.ok (.func fn first cap) w:=fun _ _ _ _=>rfl
 have h1:=(Below.refl w.heap.size w).alloc (Nat.le_refl _) (.cells #[.pointer (some ⟨eb,0,none⟩)] 67)
 have h2:(w.alloc (.cells #[.pointer (some ⟨eb,0,none⟩)] 67)).cell? ⟨w.heap.size,0,none⟩=some (.pointer (some ⟨eb,0,none⟩)):=one_of (heap_alloc_new w _)
 generalize hW:w.alloc (.cells #[.pointer (some ⟨eb,0,none⟩)] 67)=W at h1 h2
 have he':=(cell_bel h1 ⟨eb,1,none⟩ le).trans he
 have he0':=(cell_bel h1 ⟨eb,0,none⟩ le).trans he0
 have HC:=hid ((selected_any F (fun r=>goesOn st r.step) (.slice ao l.length cap) l 177 #[.pointer (some ⟨w.heap.size,0,none⟩)] W (enters_of Tryz.func177 (by kernel_rfl) rfl) (hl.below h1) hn (fun x hx W' hW'=>by
  obtain⟨a,n,c,e⟩:=rval_eq (hl.offs x hx)
  rw[e]
  exact ableToGoOn1_any G st x.1.step x.1.first win vs a n c w.heap.size eb W' ((hS.below h1).below hW') hsl (hst x hx) ((cell_bel hW' _ (World.block_lt_of_cell? W _ h2)).trans h2) ((cell_bel hW' _ (World.block_lt_of_cell? W _ he0')).trans he0') ((cell_bel hW' _ (World.block_lt_of_cell? W _ he')).trans he'))).mono (fun e w' h=>h.up h1))
 clear hl he h1 h2 he' he0 he0' hS hst
 go_enter Tryz.func108,Tryz.ntmps108
 go_wp2_with (go_at_call 166;refine HC.out.mono ?_;rintro e w1 ⟨v',rfl,hr1⟩;have H1:=hid hr1;clear hr1)
 go_ret
 exact⟨_,rfl,H1.out⟩
end Go.Proofs.YtfldcmdhneegmaaGreatDoor

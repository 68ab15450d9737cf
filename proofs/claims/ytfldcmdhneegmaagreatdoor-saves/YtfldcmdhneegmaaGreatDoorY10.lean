import Derived.Test.YtfldcmdhneegmaaGreatDoorY02
import Derived.Test.YtfldcmdhneegmaaGreatDoorY09
set_option maxHeartbeats 4000000
set_option maxRecDepth 1000000
namespace Go.Proofs.YtfldcmdhneegmaaGreatDoor
open Go.RowKit Go.Lib
theorem three_cl {w:World}{N:Nat}{x y z:Value}{t:TypeId}(h:w.heap[N]?=some (.cells #[x,y,z] t (0,0))):w.cell? ⟨N,0,none⟩=some x∧w.cell? ⟨N,1,none⟩=some y∧w.cell? ⟨N,2,none⟩=some z∧w.frozen? ⟨N,0,none⟩=false∧w.frozen? ⟨N,1,none⟩=false∧w.frozen? ⟨N,2,none⟩=false:=by
 simp[World.cell?,World.frozen?,h]
theorem two_cl {w:World}{N:Nat}{x y:Value}{t:TypeId}(h:w.heap[N]?=some (.cells #[x,y] t (0,0))):w.cell? ⟨N,0,none⟩=some x∧w.cell? ⟨N,1,none⟩=some y∧w.frozen? ⟨N,0,none⟩=false∧w.frozen? ⟨N,1,none⟩=false:=by
 simp[World.cell?,World.frozen?,h]
theorem set2 {w:World}{N:Nat}{a b x y:Value}{t:TypeId}(h:w.heap[N]?=some (.cells #[a,b] t (0,0))) :
  ((w.setCell ⟨N,0,none⟩ x).setCell ⟨N,1,none⟩ y).heap[N]?=some (.cells #[x,y] t (0,0))∧w.grownBy ((w.setCell ⟨N,0,none⟩ x).setCell ⟨N,1,none⟩ y) (some N):=by
 have one:∀(w:World) (i:Nat) (u:Value) (cs:Array Value),w.heap[N]?=some (.cells cs t (0,0))→(w.setCell ⟨N,i,none⟩ u).heap[N]?=some (.cells (cs.setIfInBounds i u) t (0,0)):=by
  intro w i u cs h
  show (w.heap.modify N _)[N]?=_
  rw[Array.getElem?_modify,if_pos rfl,h]
  rfl
 refine⟨?_,grown_trans (grown_set w N 0 x) (grown_set _ N 1 y)⟩
 have h1:=one _ 0 x _ h
 have h2:=one _ 1 y _ h1
 simpa using h2
theorem set3 {w:World}{N:Nat}{a b c x y z:Value}{t:TypeId}(h:w.heap[N]?=some (.cells #[a,b,c] t (0,0))) :
  (((w.setCell ⟨N,0,none⟩ x).setCell ⟨N,1,none⟩ y).setCell ⟨N,2,none⟩ z).heap[N]?=some (.cells #[x,y,z] t (0,0))∧w.grownBy (((w.setCell ⟨N,0,none⟩ x).setCell ⟨N,1,none⟩ y).setCell ⟨N,2,none⟩ z) (some N):=by
 have one:∀(w:World) (i:Nat) (u:Value) (cs:Array Value),w.heap[N]?=some (.cells cs t (0,0))→(w.setCell ⟨N,i,none⟩ u).heap[N]?=some (.cells (cs.setIfInBounds i u) t (0,0)):=by
  intro w i u cs h
  show (w.heap.modify N _)[N]?=_
  rw[Array.getElem?_modify,if_pos rfl,h]
  rfl
 refine⟨?_,grown_trans (grown_trans (grown_set w N 0 x) (grown_set _ N 1 y)) (grown_set _ N 2 z)⟩
 have h1:=one _ 0 x _ h
 have h2:=one _ 1 y _ h1
 have h3:=one _ 2 z _ h2
 simpa using h3
theorem beginning_any (ev:En.Ev)(w:World) :
  Calls Tryz.prog 169 #[.agg #[.int .i64 ev.off,.int .i32 ev.kind,.int .i64 ev.time]] w fun e w'=>e=.returned (.agg #[.int .i64 (-1),.slice none 0 0,.int .i64 ev.time])∧Below w.heap.size w w':=by
 go_enter Tryz.func169,Tryz.ntmps169
 go_wp2
 exact bodyPost_ret (v:=.agg #[.int .i64 (-1),.slice none 0 0,.int .i64 ev.time]) (by simp[results,Tryz.results169,go_sem]) rfl ⟨rfl,by repeat (first | exact Below.refl _ _ | refine Below.drew ?_ | refine Below.alloc ?_ (by simp;try omega) _)⟩
theorem rWith_any (F:Nat→Prop)(s first:Int)(v:Value)(xs:List Int)(ev:En.Ev)(step:Nat)(w:World)(h:IntsAt F w v xs)(hl:xs.length≤1000000) :
  Calls Tryz.prog 171 #[.agg #[.int .i64 s,v,.int .i64 first],.agg #[.int .i64 ev.off,.int .i32 ev.kind,.int .i64 ev.time],.int .i64 step] w fun e w'=>∃v',e=.returned (.agg #[.int .i64 step,v',.int .i64 first])∧w'.ownsRow w.heap.size 3 1 v' (xs++[ev.off]).length (intCells (xs++[ev.off]))∧Below w.heap.size w w':=by
 obtain⟨ao,cap,rfl,-,-⟩:=RowAt.slice h
 obtain⟨off,kind,time⟩:=ev
 simp only
 obtain⟨W,hW⟩:∃W,((w.alloc (.cells #[.int .i64 s,.slice ao xs.length cap,.int .i64 first] 164)).alloc (.cells #[.int .i64 off,.int .i32 kind,.int .i64 time] 194)).alloc (.cells #[.int .i64 0,.slice none 0 0,.int .i64 0] 164)=W:=⟨_,rfl⟩
 have hb:Below w.heap.size w W:=by rw[← hW];repeat (first | exact Below.refl _ _ | refine Below.drew ?_ | refine Below.alloc ?_ (by simp;try omega) _)
 have kA:W.heap[w.heap.size]?=some (.cells #[.int .i64 s,.slice ao xs.length cap,.int .i64 first] 164 (0,0)):=by rw[← hW];exact (Below.heap_alloc _ _ _ (by simp;omega)).trans ((Below.heap_alloc _ _ _ (by simp)).trans (heap_alloc_new w _))
 have kB:W.heap[w.heap.size+1]?=some (.cells #[.int .i64 off,.int .i32 kind,.int .i64 time] 194 (0,0)):=by rw[← hW];exact (Below.heap_alloc _ _ _ (by simp)).trans (new_at (by simp))
 have kC:W.heap[w.heap.size+1+1]?=some (.cells #[.int .i64 0,.slice none 0 0,.int .i64 0] 164 (0,0)):=by rw[← hW];exact new_at (by simp)
 have r1:W.cell? ⟨w.heap.size,1,none⟩=some (.slice ao xs.length cap):=by simp[World.cell?,kA]
 have r2:W.cell? ⟨w.heap.size,2,none⟩=some (.int .i64 first):=by simp[World.cell?,kA]
 have e0:W.cell? ⟨w.heap.size+1,0,none⟩=some (.int .i64 off):=by simp[World.cell?,kB]
 have q0:W.cell? ⟨w.heap.size+1+1,0,none⟩=some (.int .i64 0):=by simp[World.cell?,kC]
 have H:=hid (And.intro (h.below hb) (And.intro hb kC))
 have l1:=lt_of_block kA
 have l2:=lt_of_block kB
 have l3:=lt_of_block kC
 have n1:¬ (w.heap.size+1+1=w.heap.size):=by omega
 have n2:¬ (w.heap.size=w.heap.size+1+1):=by omega
 clear h hb kA kB kC
 go_enter Tryz.func171,Tryz.ntmps171
 go_wp2
 go_region_held3 (fun W=>W.cell? ⟨w.heap.size,1,none⟩=some (.slice ao xs.length cap)∧W.cell? ⟨w.heap.size,2,none⟩=some (.int .i64 first)∧W.cell? ⟨w.heap.size+1,0,none⟩=some (.int .i64 off)) (go_keep) ((go_at_call 221;refine (concatI_two F (fun _=>True) (W.heap.size+1) (.slice ao xs.length cap) (.slice (some ⟨W.heap.size,0,none⟩) 1 1) xs.length 1 (intCells xs) [.int .i64 off] _ (by first | exact new_at (by simp;done)) (H.out.1.below (by repeat (first | exact Below.refl _ _ | refine Below.drew ?_ | refine Below.alloc ?_ (by simp;try omega) _))) (one_row (by first | exact (Below.heap_alloc _ _ _ (by simp;done)).trans (new_at (by simp;done)) | exact (Below.heap_alloc _ _ _ (by simp;omega)).trans (new_at (by simp;done)))) (oneCell_ints _) (by intro u hu;simp at hu;subst hu;rfl) (by omega)).mono ?_;rintro e w1 ⟨v1,rfl,ho1,hb1⟩;obtain⟨a1,c1,rfl⟩:=own_slice ho1;have B1:Below W.heap.size W w1:=Below.trans (by repeat (first | exact Below.refl _ _ | refine Below.drew ?_ | refine Below.alloc ?_ (by simp;try omega) _)) (hb1.mono (by simp;try omega));have z1:=(cell_bel B1 ⟨w.heap.size,1,none⟩ l1).trans r1;have z2:=(cell_bel B1 ⟨w.heap.size,2,none⟩ l1).trans r2;have z3:=(cell_bel B1 ⟨w.heap.size+1,0,none⟩ l2).trans e0;obtain⟨s0,s1,s2,f0,f1,f2⟩:=three_cl ((B1.block _ l3).trans H.out.2.2);have H1:=hid (And.intro (own_mono ho1 (base':=W.heap.size) (by simp;try omega)) B1);clear hb1 ho1 B1))
 obtain⟨k1,k2⟩:=set3 (x:=.int .i64 step) (y:=.slice a1 (xs.length+1) c1) (z:=.int .i64 first) ((H1.out.2.block _ l3).trans H.out.2.2)
 obtain⟨t0,t1,t2,-⟩:=three_cl k1
 have hne:(Value.slice a1 (xs.length+1) c1).ownBlock≠some (w.heap.size+1+1):=fun e=>by
  have:=(own_block H1.out.1 _ e).1
  omega
 have hB2:Below w.heap.size w (((w1.setCell ⟨w.heap.size+1+1,0,none⟩ (.int .i64 step)).setCell ⟨w.heap.size+1+1,1,none⟩ (.slice a1 (xs.length+1) c1)).setCell ⟨w.heap.size+1+1,2,none⟩ (.int .i64 first)):=
  (H.out.2.1.trans (H1.out.2.mono H.out.2.1.size)).grown k2 (by have:=H.out.2.1.size;have:=H1.out.2.size;omega) (fun k hk=>by cases hk;omega)
 have HF:=hid (And.intro (World.ownsRow.kept H1.out.1 k2 (Or.inr hne)) hB2)
 clear k1 k2 hne hB2
 go_wp2
 refine bodyPost_ret (v:=.agg #[.int .i64 step,.slice a1 (xs.length+1) c1,.int .i64 first]) (by simp[results,Tryz.results171,go_sem,t0,t1,t2]) rfl ?_
 refine⟨_,rfl,?_,HF.out.2⟩
 have hf:=own_mono HF.out.1 H.out.2.1.size
 simpa [intCells] using hf
theorem cloneI_any (F:Nat→Prop)(v:Value)(xs:List Int)(w:World)(h:IntsAt F w v xs)(hne:xs≠[])(hl:xs.length≤1000000) :
  Calls Tryz.prog 226 #[v] w fun e w'=>∃v',e=.returned v'∧w'.ownsRow w.heap.size 3 1 v' xs.length (intCells xs)∧Below w.heap.size w w':=by
 have hp:0 < xs.length:=List.length_pos_iff.2 hne
 obtain⟨b,o,cap,rfl,-⟩:=RowAt.at h hp
 obtain⟨i0,hi,hz0,hz1,hz2⟩:=info_parts Tryz.infoCcI
 have hq:∀w,(binOp .eql 90 (.slice (some ⟨b,o,none⟩) xs.length cap) (.slice none 0 0)).run Tryz.prog w=.ok (.bool false) w:=fun w=>run_eql_slice_nil w 90 3 _ _ _ _ _ Tryz.underlying90
 have H:=hid h
 clear h
 go_enter Tryz.func226,Tryz.ntmps226
 go_wp2_with (at_builtin;refine wpList_append_row rfl _ _ 90 rfl w.heap.size 3 i0 (.int .i64 0) 1 8 Tryz.underlying90 hi hz0 hz1 hz2 rfl (by decide) _ _ _ rfl (own_empty (heap_alloc_new w _) (Nat.le_refl _)) F _ xs.length (intCells xs) rfl (H.out.below ((Below.refl _ _).alloc (Nat.le_refl _) _)) (oneCell_ints _) (by unfold maxLen;omega) (by omega) (by simp) ?_)
 intro v2 w2 ho2 hg2
 have hb2:Below w.heap.size w w2:=((Below.refl w.heap.size w).alloc (Nat.le_refl _) _).grown hg2 (by simp) (fun k hk=>by cases hk;exact Nat.le_refl _)
 have HB2:=hid (And.intro ho2 hb2)
 clear ho2 hg2 hb2
 go_wp2
 go_ret
 refine⟨_,rfl,?_,HB2.out.2⟩
 have h:=HB2.out.1
 simpa using h
theorem rMatch_any (F:Nat→Prop)(s first t:Int)(v:Value)(xs:List Int)(w:World)(h:IntsAt F w v xs)(hne:xs≠[])(hl:xs.length≤1000000) :
  Calls Tryz.prog 180 #[.agg #[.int .i64 s,v,.int .i64 first],.int .i64 t] w fun e w'=>∃v',e=.returned (.agg #[v',.int .i64 t])∧w'.ownsRow w.heap.size 3 1 v' xs.length (intCells xs)∧Below w.heap.size w w':=by
 obtain⟨ao,cap,rfl,-,-⟩:=RowAt.slice h
 obtain⟨W,hW⟩:∃W,(w.alloc (.cells #[.int .i64 s,.slice ao xs.length cap,.int .i64 first] 164)).alloc (.cells #[.slice none 0 0,.int .i64 0] 109)=W:=⟨_,rfl⟩
 have hb:Below w.heap.size w W:=by rw[← hW];repeat (first | exact Below.refl _ _ | refine Below.drew ?_ | refine Below.alloc ?_ (by simp;try omega) _)
 have kA:W.heap[w.heap.size]?=some (.cells #[.int .i64 s,.slice ao xs.length cap,.int .i64 first] 164 (0,0)):=by rw[← hW];exact (Below.heap_alloc _ _ _ (by simp)).trans (heap_alloc_new w _)
 have kC:W.heap[w.heap.size+1]?=some (.cells #[.slice none 0 0,.int .i64 0] 109 (0,0)):=by rw[← hW];exact new_at (by simp)
 have r1:W.cell? ⟨w.heap.size,1,none⟩=some (.slice ao xs.length cap):=by simp[World.cell?,kA]
 have H:=hid (And.intro (h.below hb) (And.intro hb kC))
 have l1:=lt_of_block kA
 have l3:=lt_of_block kC
 clear h hb kA kC
 go_enter Tryz.func180,Tryz.ntmps180
 go_wp2_with (go_at_call 226;refine (cloneI_any F (.slice ao xs.length cap) xs _ H.out.1 hne hl).mono ?_;rintro e w1 ⟨v1,rfl,ho1,hb1⟩;obtain⟨a1,c1,rfl⟩:=own_slice ho1;obtain⟨s0,s1,f0,f1⟩:=two_cl ((hb1.block _ l3).trans H.out.2.2);have H1:=hid (And.intro ho1 hb1);clear hb1 ho1)
 obtain⟨k1,k2⟩:=set2 (x:=.slice a1 xs.length c1) (y:=.int .i64 t) ((H1.out.2.block _ l3).trans H.out.2.2)
 obtain⟨t0,t1,-⟩:=two_cl k1
 have hne2:(Value.slice a1 xs.length c1).ownBlock≠some (w.heap.size+1):=fun e=>by
  have:=(own_block H1.out.1 _ e).1
  omega
 have hB2:Below w.heap.size w ((w1.setCell ⟨w.heap.size+1,0,none⟩ (.slice a1 xs.length c1)).setCell ⟨w.heap.size+1,1,none⟩ (.int .i64 t)):=
  (H.out.2.1.trans (H1.out.2.mono H.out.2.1.size)).grown k2 (by have:=H.out.2.1.size;have:=H1.out.2.size;omega) (fun k hk=>by cases hk;omega)
 refine bodyPost_ret (v:=.agg #[.slice a1 xs.length c1,.int .i64 t]) (by simp[results,Tryz.results180,go_sem,t0,t1]) rfl ?_
 exact⟨_,rfl,own_mono (World.ownsRow.kept H1.out.1 k2 (Or.inr hne2)) H.out.2.1.size,hB2⟩
theorem Tryz.infoMatch:(Tryz.prog.info? 109).map (fun i=>(i.zero,i.size,i.bytes))=some (some (.agg #[.slice none 0 0,.int .i64 0]),2,32):=by kernel_rfl
abbrev MV:=(List Int × Int) × Value
def mCells (L:List MV):List Value:=L.flatMap fun x=>[x.2,.int .i64 x.1.2]
theorem mCells_append (L M:List MV):mCells (L++M)=mCells L++mCells M:=by simp[mCells]
theorem mCells_get (L:List MV)(i:Nat)(h:i < L.length):(mCells L)[i * 2]?=some L[i].2∧(mCells L)[i * 2+1]?=some (.int .i64 L[i].1.2):=by
 induction L generalizing i with
 | nil=>simp at h
 | cons x t ih=>
  cases i with
  | zero=>simp[mCells]
  | succ i=>
   have:=ih i (by simpa using h)
   have e1:(i+1) * 2=i * 2+1+1:=by omega
   simp only[mCells,List.flatMap_cons] at this ⊢
   rw[e1]
   simpa using this
structure MOwn (base:Nat)(w:World)(v:Value)(L:List MV):Prop where
 row:w.ownsRow base 109 2 v L.length (mCells L)
 offs:∀x∈L,w.ownsRow base 3 1 x.2 x.1.1.length (intCells x.1.1)∧x.1.1≠[]
 dist:L.Pairwise fun x y=>x.2.ownBlock≠y.2.ownBlock
theorem MOwn.nil (base:Nat)(w:World):MOwn base w (.slice none 0 0) []:=⟨World.ownsRow_nil _ _ _ _,fun _ h=>(by cases h),List.Pairwise.nil⟩
theorem MOwn.below {base:Nat}{w w':World}{v:Value}{L:List MV}(h:MOwn base w v L)(hb:Below w.heap.size w w'):MOwn base w' v L:=
 ⟨own_below h.row hb,fun x hx=>⟨own_below (h.offs x hx).1 hb,(h.offs x hx).2⟩,h.dist⟩
theorem MOwn.mono {base base':Nat}{w:World}{v:Value}{L:List MV}(h:MOwn base w v L)(hb:base'≤base):MOwn base' w v L:=
 ⟨own_mono h.row hb,fun x hx=>⟨own_mono (h.offs x hx).1 hb,(h.offs x hx).2⟩,h.dist⟩
theorem MOwn.len {base:Nat}{w:World}{v:Value}{L:List MV}(h:MOwn base w v L):∃ao cap,v=.slice ao L.length cap:=own_slice h.row
theorem own_some {base:Nat}{w:World}{v:Value}{xs:List Int}(h:w.ownsRow base 3 1 v xs.length (intCells xs))(hne:xs≠[]):∃g,v.ownBlock=some g∧base≤g∧g < w.heap.size:=by
 rcases h.2 with ⟨-,h0⟩ | ⟨g,cap,cur,rfl,h1,h2,-⟩
 ·exact absurd (List.eq_nil_of_length_eq_zero h0) hne
 ·exact⟨g,rfl,h1,lt_of_block h2⟩
theorem MOwn.snoc {base:Nat}{w w2 w5:World}{v v5:Value}{L:List MV}{x:MV}{o:Obj}(h:MOwn base w v L)(hb:Below w.heap.size w w2)(hx:w2.ownsRow w.heap.size 3 1 x.2 x.1.1.length (intCells x.1.1))(hne:x.1.1≠[])(hbase:base≤w.heap.size)
  (own5:w5.ownsRow base 109 2 v5 (L.length+1) (mCells L++[x.2,.int .i64 x.1.2])) (gr5:(w2.alloc o).grownBy w5 v.ownBlock):MOwn base w5 v5 (L++[x]):=by
 have keep:∀(v':Value) (n':Nat) (xs':List Value) (base':Nat),w2.ownsRow base' 3 1 v' n' xs'→w5.ownsRow base' 3 1 v' n' xs':=fun v' n' xs' base' h'=>
  (h'.alloc o).kept gr5 (own_other h' (own_below h.row hb) (by decide))
 refine⟨by simpa [mCells] using own5,fun y hy=>?_,?_⟩
 ·rcases List.mem_append.1 hy with hy | hy
  ·exact⟨keep _ _ _ _ (own_below (h.offs y hy).1 hb),(h.offs y hy).2⟩
  ·obtain rfl:=List.mem_singleton.1 hy
   exact⟨own_mono (keep _ _ _ _ hx) hbase,hne⟩
 ·refine List.pairwise_append.2 ⟨h.dist,List.pairwise_singleton _ _,fun y hy z hz=>?_⟩
  obtain rfl:=List.mem_singleton.1 hz
  obtain⟨g,h1,-,h3⟩:=own_some (h.offs y hy).1 (h.offs y hy).2
  intro e
  rw[h1] at e
  have:=(own_block hx g e.symm).1
  omega
theorem two_row {W:World}{g:Nat}{e:TypeId}{x y:Value}(h:W.heap[g]?=some (.cells #[x,y] e (0,0))):RowAt (fun _=>True) W (.slice (some ⟨g,0,none⟩) 1 1) 2 1 [x,y]:=by
 refine⟨rfl,Or.inr ⟨g,0,1,rfl,trivial,lt_of_block h,Nat.le_refl _,by unfold maxLen;omega,fun j u hj=>?_⟩⟩
 match j,hj with
 | 0,hj=>simp at hj;subst hj;simp[World.cell?,h]
 | 1,hj=>simp at hj;subst hj;simp[World.cell?,h]
 | j+2,hj=>simp at hj
structure MtRel (n:Nat)(t:Int)(l:List RV)(k:Nat)(w wr:World)(v:Value)(L:List MV):Prop where
 own:MOwn w.heap.size wr v L
 eq:L.map Prod.fst=((l.take k).filter fun x=>decide (x.1.step+1=n)).map fun x=>(x.1.offs,t)
 bel:Below w.heap.size w wr
theorem MtRel.len {n:Nat}{t:Int}{l:List RV}{k:Nat}{w wr:World}{v:Value}{L:List MV}(h:MtRel n t l k w wr v L):L.length≤l.length:=by
 have:=congrArg List.length h.eq
 rw[List.length_map,List.length_map] at this
 rw[this]
 refine Nat.le_trans (List.length_filter_le _ _) ?_
 rw[List.length_take]
 omega
theorem MtRel.skip {n:Nat}{t:Int}{l:List RV}{k:Nat}{w wr w2:World}{v:Value}{L:List MV}(h:MtRel n t l k w wr v L)(hk:k < l.length)(hp:¬ (l[k].1.step+1=n))(hb:Below wr.heap.size wr w2):MtRel n t l (k+1) w w2 v L:=
 ⟨h.own.below hb,by rw[h.eq,List.take_succ_eq_append_getElem hk,List.filter_append];simp[hp],h.bel.trans (hb.mono h.bel.size)⟩
theorem MtRel.more {n:Nat}{t:Int}{l:List RV}{k:Nat}{w wr w2 w5:World}{v v2 v5:Value}{L:List MV}{o:Obj}(h:MtRel n t l k w wr v L)(hk:k < l.length)(hp:l[k].1.step+1=n)(hb:Below wr.heap.size wr w2)(hx:w2.ownsRow wr.heap.size 3 1 v2 l[k].1.offs.length (intCells l[k].1.offs))(hne:l[k].1.offs≠[])
  (own5:w5.ownsRow w.heap.size 109 2 v5 (L.length+1) (mCells L++[v2,.int .i64 t])) (gr5:(w2.alloc o).grownBy w5 v.ownBlock):MtRel n t l (k+1) w w5 v5 (L++[((l[k].1.offs,t),v2)]):=by
 have hB:=h.bel.trans (hb.mono h.bel.size)
 refine⟨h.own.snoc (x:=((l[k].1.offs,t),v2)) hb hx hne h.bel.size own5 gr5,?_,(hB.alloc hB.size o).grown gr5 (Nat.le_trans hB.size (by simp)) (fun k hk=>(own_block h.own.row k hk).1)⟩
 rw[List.map_append,h.eq,List.take_succ_eq_append_getElem hk,List.filter_append]
 simp[hp]
def MtEnd (n:Nat)(t:Int)(l:List RV)(w:World)(e:Ending)(w':World):Prop:=
 ∃v' L,e=.returned v'∧MOwn w.heap.size w' v' L∧L.map Prod.fst=(l.filter fun x=>decide (x.1.step+1=n)).map (fun x=>(x.1.offs,t))∧Below w.heap.size w w'
theorem matches_any (F G:Nat→Prop)(vl:Value)(l:List RV)(eb:Nat)(t win:Int)(vs:Value)(st:List (Int × Bool))(w:World)(hl:RunsAt F w vl l)(hn:l.length≤1000000)(ho:∀x∈l,x.1.offs.length≤1000000∧x.1.offs≠[])(hS:StepsAt G w vs st)(hsl:st.length≤1000)
  (he0:w.cell? ⟨eb,0,none⟩=some vs) (he:w.cell? ⟨eb,1,none⟩=some (.int .i64 win)) :
  Calls Tryz.prog 109 #[.pointer (some ⟨eb,0,none⟩),vl,.int .i64 t] w (MtEnd st.length t l w):=by
 obtain⟨ao,cap,rfl,hc1,hc2⟩:=hl.slice
 obtain⟨ss,cs,rfl,-,-⟩:=RowAt.slice hS
 have le:=World.block_lt_of_cell? w ⟨eb,1,none⟩ he
 simp only at le
 have HL:=hid (And.intro hl (And.intro hS (And.intro ho (And.intro he0 he))))
 clear hl hS ho he0 he
 go_enter Tryz.func109,Tryz.ntmps109
 go_wp2
 go_loopw [7,12] (fun o i wr=>∃(k:Nat) (v:Value) (L:List MV),k≤l.length∧i=.int .i64 k∧o=v∧Hid (MtRel st.length t l k w wr v L)) (fun _ i _=>l.length - (intOf i).toNat)
 case atStart=>exact⟨0,_,[],by omega,rfl,rfl,MOwn.nil _ _,by simp,Below.refl _ _⟩
 case round=>
  obtain⟨k,v,L,hk,rfl,rfl,hr⟩:=hrel
  obtain⟨av,cv,rfl⟩:=hr.out.own.len
  by_cases hlt:k < l.length
  ·obtain⟨b1,o1,rfl,hb1,c0,c1,c2⟩:=(HL.out.1.below hr.out.bel).get hlt
   have hk':(k:Int) < (l.length:Int):=by omega
   have hmem:l[k]∈l:=List.getElem_mem hlt
   obtain⟨ak,nk,ck,hvk⟩:∃a n c,l[k].2=.slice a n c:=by
    obtain⟨a,c,h,-⟩:=RowAt.slice (HL.out.1.offs _ hmem)
    exact⟨a,_,c,h⟩
   have hO:=(HL.out.1.below hr.out.bel).offs _ hmem
   have hol:=HL.out.2.2.1 _ hmem
   rw[hvk] at c1 hO
   obtain⟨x,hx⟩:∃x,l[k]=x:=⟨_,rfl⟩
   rw[hx] at c0 c2 hO hol
   have hal:=(Below.refl wr.heap.size wr).alloc (Nat.le_refl _) (.cells #[.int .i64 x.1.step,.slice ak nk ck,.int .i64 x.1.first] 164)
   have ha:(wr.alloc (.cells #[.int .i64 x.1.step,.slice ak nk ck,.int .i64 x.1.first] 164)).heap[wr.heap.size]?=some (.cells #[.int .i64 x.1.step,.slice ak nk ck,.int .i64 x.1.first] 164 (0,0)):=heap_alloc_new wr _
   generalize hW1:wr.alloc (.cells #[.int .i64 x.1.step,.slice ak nk ck,.int .i64 x.1.first] 164)=W1 at hal ha
   have hbl:=hr.out.bel.trans (hal.mono hr.out.bel.size)
   have e0:=(cell_bel hbl ⟨eb,0,none⟩ le).trans HL.out.2.2.2.1
   have e1:=(cell_bel hbl ⟨eb,1,none⟩ le).trans HL.out.2.2.2.2
   obtain⟨r0,r1,r2,-⟩:=three_cl ha
   have hsz:=lt_of_block ha
   have le1:eb < W1.heap.size:=Nat.lt_of_lt_of_le le hbl.size
   have HC:=hid (fun W (hW:Below W1.heap.size W1 W)=>pIsLast_any G (.slice ss st.length cs) st win x.1.step W ((HL.out.2.1.below hbl).below hW) hsl)
   have HO:=hid (And.intro (hO.below hal) (And.intro hol (And.intro hx (And.intro hal ha))))
   clear hmem hO hol hvk hx hal ha hbl
   by_cases hp:x.1.step+1=st.length
   ·rw[decide_eq_true hp] at HC
    have HP:=hid hp
    clear hp
    go_wp2
    go_region_held3 (fun W=>W.cell? ⟨eb,0,none⟩=some (.slice ss st.length cs)∧W.cell? ⟨eb,1,none⟩=some (.int .i64 win)∧W.cell? ⟨wr.heap.size,0,none⟩=some (.int .i64 x.1.step)) (go_keep) ((go_at_call 179;refine (HC.out _ (by first | exact bel_drewN (Below.refl _ _) _ | exact Below.drew (Below.refl _ _) | exact Below.refl _ _)).mono ?_;rintro e w1 ⟨rfl,hb1⟩;have z0:=(cell_bel hb1 ⟨eb,0,none⟩ le1).trans e0;have z1:=(cell_bel hb1 ⟨eb,1,none⟩ le1).trans e1;have z2:=(cell_bel hb1 ⟨wr.heap.size,0,none⟩ hsz).trans r0;have H1:=hid hb1;clear hb1))
    have HB1:Hid (Below W1.heap.size W1 w1):=hid (by first | exact H1.out | exact (bel_drewN (Below.refl _ _) _).trans H1.out | exact (Below.drew (Below.refl _ _)).trans H1.out)
    obtain⟨y0,y1,y2,-⟩:=three_cl ((HB1.out.block _ hsz).trans HO.out.2.2.2.2)
    clear c0 c1 c2 r0 r1 r2 e0 e1 z0 z1 z2
    obtain⟨i0,hi0,hz0,hz1,hz2⟩:=info_parts Tryz.infoMatch
    have hLl:=hr.out.len
    go_wp2_with (first | (go_at_call 180;refine (rMatch_any F _ _ t (.slice ak nk ck) x.1.offs _ (HO.out.1.below HB1.out) HO.out.2.1.2 HO.out.2.1.1).mono ?_;rintro e w2 ⟨v2,rfl,ho2,hb2⟩;obtain⟨a2,c2,rfl⟩:=own_slice ho2;have H2:=hid (And.intro ho2 hb2);clear ho2 hb2) | (at_builtin;refine wpList_append_row rfl _ _ 35 rfl w.heap.size 109 i0 (.agg #[.slice none 0 0,.int .i64 0]) 2 32 Tryz.underlying35 hi0 hz0 hz1 hz2 rfl (by decide) _ _ _ rfl (World.ownsRow.alloc (own_below (own_below (own_below hr.out.own.row HO.out.2.2.2.1) HB1.out) H2.out.2) _) (fun _=>True) _ 1 [.slice a2 x.1.offs.length c2,.int .i64 t] rfl (two_row (heap_alloc_new _ _)) (by intro u hu;simp at hu;rcases hu with rfl | rfl<;>rfl) (by unfold maxLen;omega) (by omega) (by have:=hr.out.bel.size;have:=HO.out.2.2.2.1.size;have:=HB1.out.size;have:=H2.out.2.size;simp;omega) ?_))
    intro v5 w5 own5 gr5
    have hB2:Below wr.heap.size wr w2:=(HO.out.2.2.2.1.trans (HB1.out.mono HO.out.2.2.2.1.size)).trans (H2.out.2.mono (by have:=HO.out.2.2.2.1.size;have:=HB1.out.size;omega))
    have HN:=hid (hr.out.more hlt (by rw[HO.out.2.2.1];exact HP.out) hB2 (by rw[HO.out.2.2.1];exact own_mono H2.out.1 (by have:=HO.out.2.2.2.1.size;have:=HB1.out.size;omega)) (by rw[HO.out.2.2.1];exact HO.out.2.1.2) own5 gr5)
    clear own5 gr5 hB2
    go_wp2
    go_roundw
    case rel=>exact⟨k+1,_,_,by omega,by go_num,rfl,HN⟩
    case measure=>simp[intOf];omega
   ·rw[decide_eq_false hp] at HC
    have HP:=hid hp
    clear hp
    go_wp2
    go_region_held3 (fun W=>W.cell? ⟨eb,0,none⟩=some (.slice ss st.length cs)∧W.cell? ⟨eb,1,none⟩=some (.int .i64 win)∧W.cell? ⟨wr.heap.size,0,none⟩=some (.int .i64 x.1.step)) (go_keep) ((go_at_call 179;refine (HC.out _ (by first | exact bel_drewN (Below.refl _ _) _ | exact Below.drew (Below.refl _ _) | exact Below.refl _ _)).mono ?_;rintro e w1 ⟨rfl,hb1⟩;have z0:=(cell_bel hb1 ⟨eb,0,none⟩ le1).trans e0;have z1:=(cell_bel hb1 ⟨eb,1,none⟩ le1).trans e1;have z2:=(cell_bel hb1 ⟨wr.heap.size,0,none⟩ hsz).trans r0;have H1:=hid hb1;clear hb1))
    have HB1:Hid (Below W1.heap.size W1 w1):=hid (by first | exact H1.out | exact (bel_drewN (Below.refl _ _) _).trans H1.out | exact (Below.drew (Below.refl _ _)).trans H1.out)
    go_wp2
    go_roundw
    case rel=>exact⟨k+1,_,_,by omega,by go_num,rfl,hr.out.skip hlt (by rw[HO.out.2.2.1];exact HP.out) (HO.out.2.2.2.1.trans (HB1.out.mono HO.out.2.2.2.1.size))⟩
    case measure=>simp[intOf];omega
  ·have hk':decide ((k:Int) < (l.length:Int))=false:=decide_eq_false (by omega)
   go_wp2
   go_ret
   have hq:=hr.out.eq
   rw[List.take_of_length_le (by omega)] at hq
   exact⟨_,L,rfl,hr.out.own,hq,hr.out.bel⟩
abbrev GE:=(Int × List Int × Int) × Value
def geCells (G:List GE):List Value:=G.flatMap fun x=>[.int .i64 x.1.1,x.2,.int .i64 x.1.2.2]
def geOf (x:RV):GE:=((x.1.step,x.1.offs,x.1.first),x.2)
def geAll (live:List RV)(ev:En.Ev):List GE:=live.map geOf++[((-1,[],ev.time),.slice none 0 0)]
theorem geCells_all (live:List RV)(ev:En.Ev):geCells (geAll live ev)=runCells live++[.int .i64 (-1),.slice none 0 0,.int .i64 ev.time]:=by
 unfold geAll geCells runCells
 rw[List.flatMap_append,List.flatMap_map]
 rfl
theorem geAll_length (live:List RV)(ev:En.Ev):(geAll live ev).length=live.length+1:=by simp[geAll]
theorem geCells_get (G:List GE)(i:Nat)(h:i < G.length):(geCells G)[i * 3+0]?=some (.int .i64 G[i].1.1)∧(geCells G)[i * 3+1]?=some G[i].2∧(geCells G)[i * 3+2]?=some (.int .i64 G[i].1.2.2):=by
 induction G generalizing i with
 | nil=>simp at h
 | cons x t ih=>
  cases i with
  | zero=>simp[geCells]
  | succ i=>
   have:=ih i (by simpa using h)
   have e1:(i+1) * 3=i * 3+1+1+1:=by omega
   simp only[geCells,List.flatMap_cons] at this ⊢
   rw[e1]
   simpa using this
theorem GE.get {F:Nat→Prop}{w:World}{ao:Option Addr}{n cap:Nat}{G:List GE}(h:RowAt F w (.slice ao n cap) 3 G.length (geCells G)){i:Nat}(hi:i < G.length) :
  ∃b o,ao=some ⟨b,o,none⟩∧b < w.heap.size∧w.cell? ⟨b,o+i * 3,none⟩=some (.int .i64 G[i].1.1)∧w.cell? ⟨b,o+i * 3+1,none⟩=some G[i].2∧w.cell? ⟨b,o+i * 3+2,none⟩=some (.int .i64 G[i].1.2.2):=by
 rcases h.2 with ⟨_,h0⟩ | ⟨b,o,cap',he,_,hb,_,_,r⟩
 ·omega
 ·cases he
  obtain⟨g0,g1,g2⟩:=geCells_get G i hi
  refine⟨b,o,rfl,hb,?_,?_,?_⟩
  ·simpa using r _ _ g0
  ·have:=r _ _ g1;rwa [← Nat.add_assoc] at this
  ·have:=r _ _ g2;rwa [← Nat.add_assoc] at this
def extsG (st:List (Int × Bool))(ev:En.Ev)(g:GE)(j:Nat):List En.Rn:=((List.range j).filter fun s=>leads st g.1.1 s ev.kind).map fun s=>{ step:=s,offs:=g.1.2.1++[ev.off],first:=g.1.2.2 }
def grownG (st:List (Int × Bool))(ev:En.Ev)(G:List GE):List En.Rn:=G.flatMap fun g=>extsG st ev g st.length
theorem extsG_succ (st:List (Int × Bool))(ev:En.Ev)(g:GE)(j:Nat):extsG st ev g (j+1)=extsG st ev g j++if leads st g.1.1 j ev.kind=true then [{ step:=j,offs:=g.1.2.1++[ev.off],first:=g.1.2.2 }] else []:=by
 unfold extsG
 rw[List.range_succ,List.filter_append,List.map_append]
 congr 1
 by_cases h:leads st g.1.1 j ev.kind=true<;>simp[h]
theorem extsG_len (st:List (Int × Bool))(ev:En.Ev)(g:GE)(j:Nat):(extsG st ev g j).length≤j:=by
 unfold extsG
 rw[List.length_map]
 refine Nat.le_trans (List.length_filter_le _ _) ?_
 simp
theorem grownG_len (st:List (Int × Bool))(ev:En.Ev)(G:List GE):(grownG st ev G).length≤G.length * st.length:=by
 induction G with
 | nil=>simp[grownG]
 | cons g t ih=>
  have:=extsG_len st ev g st.length
  simp only[grownG,List.flatMap_cons,List.length_append,List.length_cons,Nat.add_mul] at ih ⊢
  omega
theorem grownG_take (st:List (Int × Bool))(ev:En.Ev)(G:List GE)(k:Nat)(h:k < G.length):grownG st ev (G.take (k+1))=grownG st ev (G.take k)++extsG st ev G[k] st.length:=by
 unfold grownG
 rw[List.take_succ_eq_append_getElem h,List.flatMap_append]
 simp
structure GrRel (R:List En.Rn)(w wr:World)(v:Value)(M:List RV):Prop where
 own:wr.ownsRow w.heap.size 164 3 v M.length (runCells M)
 offs:∀x∈M,wr.ownsRow w.heap.size 3 1 x.2 x.1.offs.length (intCells x.1.offs)
 eq:M.map Prod.fst=R
 bel:Below w.heap.size w wr
theorem GrRel.len {R:List En.Rn}{w wr:World}{v:Value}{M:List RV}(h:GrRel R w wr v M):M.length=R.length:=by rw[← h.eq,List.length_map]
theorem GrRel.below {R:List En.Rn}{w wr w2:World}{v:Value}{M:List RV}(h:GrRel R w wr v M)(hb:Below wr.heap.size wr w2):GrRel R w w2 v M:=
 ⟨own_below h.own hb,fun x hx=>own_below (h.offs x hx) hb,h.eq,h.bel.trans (hb.mono h.bel.size)⟩
theorem GrRel.more {R:List En.Rn}{w wr w5:World}{v v2 v5:Value}{M:List RV}{o:Obj}(r:En.Rn)(h:GrRel R w wr v M)(hx:wr.ownsRow w.heap.size 3 1 v2 r.offs.length (intCells r.offs))
  (own5:w5.ownsRow w.heap.size 164 3 v5 (M.length+1) (runCells M++[.int .i64 r.step,v2,.int .i64 r.first])) (gr5:(wr.alloc o).grownBy w5 v.ownBlock):GrRel (R++[r]) w w5 v5 (M++[(r,v2)]):=by
 have keep:∀(v':Value) (n':Nat) (xs':List Value) (base':Nat),wr.ownsRow base' 3 1 v' n' xs'→w5.ownsRow base' 3 1 v' n' xs':=fun v' n' xs' base' h'=>
  (h'.alloc o).kept gr5 (own_other h' h.own (by decide))
 refine⟨by simpa [runCells] using own5,fun y hy=>?_,by rw[List.map_append,h.eq];rfl,(h.bel.alloc h.bel.size o).grown gr5 (Nat.le_trans h.bel.size (by simp)) (fun k hk=>(own_block h.own k hk).1)⟩
 rcases List.mem_append.1 hy with hy | hy
 ·exact keep _ _ _ _ (h.offs y hy)
 ·obtain rfl:=List.mem_singleton.1 hy
  exact keep _ _ _ _ hx
theorem own_not {w:World}{base rb n:Nat}{e t:TypeId}{v:Value}{xs:List Value}{a b c a0 b0 c0:Value}{fz:Nat × Nat}(h:w.ownsRow base e 3 v (n+1) (xs++[a,b,c]))(hl:xs.length=n * 3)(hr:w.heap[rb]?=some (.cells #[a0,b0,c0] t fz))(hne:b≠b0):v.ownBlock≠some rb:=by
 intro e1
 rcases h.2 with ⟨-,h0⟩ | ⟨g,cap,cur,rfl,-,h2,h3,-,h5,h6⟩
 ·omega
 ·have:g=rb:=by simpa [Value.ownBlock] using e1
  subst this
  rw[hr] at h2
  cases h2
  simp at h5
  obtain rfl:n=0:=by omega
  obtain rfl:xs=[]:=List.eq_nil_of_length_eq_zero (by omega)
  simp at h6
  exact hne h6.2.1.symm
theorem own_I64 {w:World}{base:Nat}{v:Value}{xs:List Int}(h:w.ownsRow base 3 1 v xs.length (intCells xs)):IntsAt (I64 w) w v xs:=by
 have hr:=RowAt.ofOwn h
 rcases h.2 with ⟨rfl,h0⟩ | ⟨g,cap,cur,rfl,h1,h2,-⟩
 ·exact⟨hr.1,Or.inl ⟨rfl,h0⟩⟩
 ·rcases hr.2 with ⟨he,-⟩ | ⟨b,o,cap',he,-,k2,k3,k4,k5⟩
  ·cases he
  ·cases he
   exact⟨hr.1,Or.inr ⟨g,0,cap,rfl,⟨cur,_,h2⟩,k2,k3,k4,k5⟩⟩
theorem new_ne {F:Nat→Prop}{w w2:World}{base:Nat}{v v2:Value}{xs ys:List Int}(h:IntsAt F w v xs)(h2:w2.ownsRow base 3 1 v2 ys.length (intCells ys))(hb:w.heap.size≤base)(hne:ys≠[]):v2≠v:=by
 intro e
 subst e
 obtain⟨g,h3,h4,-⟩:=own_some h2 hne
 rcases h.2 with ⟨rfl,-⟩ | ⟨b,o,cap,rfl,-,hlt,-⟩
 ·cases h3
 ·have:b=g:=by simpa [Value.ownBlock] using h3
  omega
def GrEnd (st:List (Int × Bool))(ev:En.Ev)(live:List RV)(w:World)(e:Ending)(w':World):Prop:=
 ∃v' S M,e=.returned v'∧S.Perm M∧Sm.Srt ltR S∧M.map Prod.fst=grownG st ev (geAll live ev)∧w'.ownsRow w.heap.size 164 3 v' (cmpctR S).length (runCells (cmpctR S))∧(∀x∈M,w'.ownsRow w.heap.size 3 1 x.2 x.1.offs.length (intCells x.1.offs))∧Below w.heap.size w w'
theorem GrEnd.of {st:List (Int × Bool)}{ev:En.Ev}{live:List RV}{w w4 wr w':World}{v:Value}{M:List RV}{e:Ending}(h:GrRel (grownG st ev (geAll live ev)) w4 wr v M)(hb:Below w.heap.size w w4)(ha:ArrEnd w4.heap.size v M wr e w'):GrEnd st ev live w e w':=by
 obtain⟨v',S,he,hp,hs,hO,hg,hvb⟩:=ha
 have hB:Below w4.heap.size w4 w':=h.bel.grown hg h.bel.size (fun k hk=>(own_block h.own k hk).1)
 exact⟨v',S,M,he,hp,hs,h.eq,own_mono hO.row hb.size,fun x hx=>own_mono ((h.offs x hx).kept hg (own_other (h.offs x hx) h.own (by decide))) hb.size,hb.trans (hB.mono hb.size)⟩
theorem grown_any (F G:Nat→Prop)(vl:Value)(live:List RV)(ev:En.Ev)(eb:Nat)(win:Int)(vs:Value)(st:List (Int × Bool))(w:World)(hl:RunsAt F w vl live)(hn:live.length≤500)(ho:∀x∈live,x.1.offs.length≤100000∧x.1.step≤1000)(hS:StepsAt G w vs st)(hsl:st.length≤100)
  (he0:w.cell? ⟨eb,0,none⟩=some vs) (he:w.cell? ⟨eb,1,none⟩=some (.int .i64 win)) :
  Calls Tryz.prog 105 #[.pointer (some ⟨eb,0,none⟩),vl,.agg #[.int .i64 ev.off,.int .i32 ev.kind,.int .i64 ev.time]] w (GrEnd st ev live w):=by
 obtain⟨ao,cap,rfl,hc1,hc2⟩:=hl.slice
 obtain⟨ss,cs,rfl,-,-⟩:=RowAt.slice hS
 have le:=World.block_lt_of_cell? w ⟨eb,1,none⟩ he
 simp only at le
 obtain⟨off,kind,time⟩:=ev
 have hal:=(Below.refl w.heap.size w).alloc (Nat.le_refl _) (.cells #[.int .i64 off,.int .i32 kind,.int .i64 time] 194)
 have ha:(w.alloc (.cells #[.int .i64 off,.int .i32 kind,.int .i64 time] 194)).heap[w.heap.size]?=some (.cells #[.int .i64 off,.int .i32 kind,.int .i64 time] 194 (0,0)):=heap_alloc_new w _
 generalize hW1:w.alloc (.cells #[.int .i64 off,.int .i32 kind,.int .i64 time] 194)=W1 at hal ha
 obtain⟨r0,r1,r2,-⟩:=three_cl ha
 have HL:=hid (And.intro (hl.below hal) (And.intro (hS.below hal) (And.intro ho (And.intro ((cell_bel hal ⟨eb,0,none⟩ le).trans he0) (And.intro ((cell_bel hal ⟨eb,1,none⟩ le).trans he) (And.intro hal ha))))))
 clear hl hS ho he0 he hal ha
 go_enter Tryz.func105,Tryz.ntmps105
 go_wp2_with (first | (go_at_call 169;refine (beginning_any ⟨off,kind,time⟩ _).mono ?_;rintro e w2 ⟨rfl,hb2⟩;have H2:=hid hb2;clear hb2) | (go_at_call 107;fail))
 have hy2:RowAt (fun _=>True) ((w2.alloc (.cells #[.int .i64 (-1),.slice none 0 0,.int .i64 time] 164)).alloc (.cells #[.slice ao live.length cap,.slice (some ⟨w2.heap.size,0,none⟩) 1 1] 157)) (.slice (some ⟨w2.heap.size,0,none⟩) 1 1) 3 1 [.int .i64 (-1),.slice none 0 0,.int .i64 time]:=three_row ((Below.heap_alloc _ _ _ (by simp)).trans (heap_alloc_new _ _))
 have hB3:Below w2.heap.size w2 ((w2.alloc (.cells #[.int .i64 (-1),.slice none 0 0,.int .i64 time] 164)).alloc (.cells #[.slice ao live.length cap,.slice (some ⟨w2.heap.size,0,none⟩) 1 1] 157)):=(by repeat (first | exact Below.refl _ _ | refine Below.drew ?_ | refine Below.alloc ?_ (by simp;try omega) _))
 refine (concatR_two F (fun _=>True) (w2.heap.size+1) (.slice ao live.length cap) (.slice (some ⟨w2.heap.size,0,none⟩) 1 1) live.length 1 (runCells live) [.int .i64 (-1),.slice none 0 0,.int .i64 time] _ (new_at (by simp)) (RowAt.below (RowAt.below HL.out.1.row H2.out) hB3) hy2 (oneCell_runs live HL.out.1.offs) (by intro u hu;simp at hu;rcases hu with rfl | rfl | rfl<;>rfl) (by omega)).mono ?_
 rintro e w4 ⟨v4,rfl,ho4,hb4⟩
 obtain⟨a4,c4,rfl⟩:=own_slice ho4
 have B4:Below W1.heap.size W1 w4:=H2.out.trans ((hB3.trans (hb4.mono hB3.size)).mono H2.out.size)
 have H4:=hid (And.intro ho4 B4)
 clear ho4 hb4 B4 hB3 hy2
 go_wp2
 have hG:geCells (geAll live ⟨off,kind,time⟩)=runCells live++[.int .i64 (-1),.slice none 0 0,.int .i64 time]:=geCells_all live ⟨off,kind,time⟩
 have hGl:(geAll live ⟨off,kind,time⟩).length=live.length+1:=geAll_length live _
 obtain⟨E,hE⟩:∃E,geAll live ⟨off,kind,time⟩=E:=⟨_,rfl⟩
 rw[hE] at hG hGl
 have hrow:RowAt (fun _=>True) w4 (.slice a4 (live.length+1) c4) 3 E.length (geCells E):=by
  rw[hG,hGl]
  exact (RowAt.ofOwn H4.out.1).mono (fun _ _ _=>trivial)
 have hent:∀g∈E,IntsAt (fun b=>b < w4.heap.size) w4 g.2 g.1.2.1∧g.1.2.1.length≤100000∧-1≤g.1.1∧g.1.1≤1000:=by
  intro g hg
  rw[← hE] at hg
  rcases List.mem_append.1 hg with hg | hg
  ·obtain⟨x,hx,rfl⟩:=List.mem_map.1 hg
   have hx2:=HL.out.2.2.1 x hx
   exact⟨RowAt.mono ((HL.out.1.offs x hx).below H4.out.2) (fun b hb _=>hb),hx2.1,by show -1≤(x.1.step:Int);omega,by show (x.1.step:Int)≤1000;omega⟩
  ·obtain rfl:=List.mem_singleton.1 hg
   exact⟨⟨rfl,Or.inl ⟨rfl,rfl⟩⟩,by simp,by simp,by simp⟩
 have HH:=hid (And.intro hrow (And.intro hent (And.intro hE (And.intro (HL.out.2.1.below H4.out.2) (HL.out.2.2.2.2.2.1.trans (H4.out.2.mono HL.out.2.2.2.2.2.1.size))))))
 have l1:w.heap.size < W1.heap.size:=lt_of_block HL.out.2.2.2.2.2.2
 have l2:eb < W1.heap.size:=by have:=HL.out.2.2.2.2.2.1.size;omega
 have HE:=hid (And.intro ((cell_bel H4.out.2 ⟨eb,0,none⟩ l2).trans HL.out.2.2.2.1) (And.intro ((cell_bel H4.out.2 ⟨eb,1,none⟩ l2).trans HL.out.2.2.2.2.1) (And.intro ((cell_bel H4.out.2 ⟨w.heap.size,0,none⟩ l1).trans r0) (And.intro ((cell_bel H4.out.2 ⟨w.heap.size,1,none⟩ l1).trans r1) ((cell_bel H4.out.2 ⟨w.heap.size,2,none⟩ l1).trans r2)))))
 have l3:w.heap.size < w4.heap.size:=by have:=H4.out.2.size;omega
 have l4:eb < w4.heap.size:=by have:=H4.out.2.size;omega
 clear hG hrow hent hE r0 r1 r2 HL H2 H4 hW1
 go_loopw [7,18] (fun o i wr=>∃(k:Nat) (v:Value) (M:List RV),k≤live.length+1∧i=.int .i64 k∧o=v∧Hid (GrRel (grownG st ⟨off,kind,time⟩ (E.take k)) w4 wr v M)) (fun _ i _=>live.length+1 - (intOf i).toNat)
 case atStart=>exact⟨0,_,[],by omega,rfl,rfl,World.ownsRow_nil _ _ _ _,(by intro x hx;cases hx),by simp[grownG],Below.refl _ _⟩
 case round=>
  obtain⟨k,v,M,hk,rfl,rfl,hr⟩:=hrel
  obtain⟨av,cv,rfl⟩:=own_slice hr.out.own
  by_cases hlt:k < live.length+1
  ·have hkE:k < E.length:=by omega
   obtain⟨b1,o1,rfl,hb1,c0,c1,c2⟩:=GE.get (RowAt.below HH.out.1 hr.out.bel) hkE
   have hk':(k:Int) < (live.length:Int)+1:=by omega
   have hk'':(k:Int) < ((live.length+1:Nat):Int):=by omega
   have hent:=HH.out.2.1 _ (List.getElem_mem hkE)
   obtain⟨ak,ck,hvk,-,-⟩:=RowAt.slice hent.1
   obtain⟨g,hg⟩:∃g,E[k]=g:=⟨_,rfl⟩
   rw[hg] at c0 c1 c2 hent hvk
   rw[hvk] at c1
   have HX:=hid (And.intro hent (And.intro hg hvk))
   clear hent hg hvk
   obtain⟨rb,hrb⟩:∃rb,wr.heap.size=rb:=⟨_,rfl⟩
   have hal:=(Below.refl wr.heap.size wr).alloc (Nat.le_refl _) (.cells #[.int .i64 g.1.1,.slice ak g.1.2.1.length ck,.int .i64 g.1.2.2] 164)
   have ha:(wr.alloc (.cells #[.int .i64 g.1.1,.slice ak g.1.2.1.length ck,.int .i64 g.1.2.2] 164)).heap[wr.heap.size]?=some (.cells #[.int .i64 g.1.1,.slice ak g.1.2.1.length ck,.int .i64 g.1.2.2] 164 (0,0)):=heap_alloc_new wr _
   generalize hW5:wr.alloc (.cells #[.int .i64 g.1.1,.slice ak g.1.2.1.length ck,.int .i64 g.1.2.2] 164)=W5 at hal ha
   have k0:=(cell_bel (hr.out.bel.trans (hal.mono hr.out.bel.size)) ⟨eb,0,none⟩ l4).trans HE.out.1
   have hvr:(Value.slice av M.length cv).ownBlock≠some rb:=fun e=>by
    obtain⟨-,c,fz,h⟩:=own_block hr.out.own _ e
    have:=lt_of_block h
    omega
   rw[hrb] at ha
   have HR:=hid (And.intro (hr.out.below hal) (And.intro ha hvr))
   clear hal ha hvr
   go_wp2
   go_loopw [7,28] (fun o i wq=>∃(j:Nat) (v:Value) (M:List RV),j≤st.length∧i=.int .i64 j∧o=v∧Hid (GrRel (grownG st ⟨off,kind,time⟩ (E.take k)++extsG st ⟨off,kind,time⟩ g j) w4 wq v M∧wq.heap[rb]?=some (.cells #[.int .i64 g.1.1,.slice ak g.1.2.1.length ck,.int .i64 g.1.2.2] 164 (0,0))∧v.ownBlock≠some rb)) (fun _ i _=>st.length - (intOf i).toNat)
   case atStart=>exact⟨0,_,M,by omega,rfl,rfl,by simpa [extsG] using HR.out.1,HR.out.2.1,HR.out.2.2⟩
   case round=>
    obtain⟨j,v6,M6,hj,rfl,rfl,hq⟩:=hrel
    obtain⟨av6,cv6,rfl⟩:=own_slice hq.out.1.own
    by_cases hjl:j < st.length
    ·have hj':(j:Int) < (st.length:Int):=by omega
     have k0':=(cell_bel hq.out.1.bel ⟨eb,0,none⟩ l4).trans HE.out.1
     have k1:=(cell_bel hq.out.1.bel ⟨eb,1,none⟩ l4).trans HE.out.2.1
     have k2:=(cell_bel hq.out.1.bel ⟨w.heap.size,1,none⟩ l3).trans HE.out.2.2.2.1
     obtain⟨q0,q1,q2,-⟩:=three_cl hq.out.2.1
     have leb:eb < wr.heap.size:=Nat.lt_of_lt_of_le l4 hq.out.1.bel.size
     have lev:w.heap.size < wr.heap.size:=Nat.lt_of_lt_of_le l3 hq.out.1.bel.size
     have lrb:rb < wr.heap.size:=lt_of_block hq.out.2.1
     have HC:=hid (fun W (hW:Below wr.heap.size wr W)=>pLeads_any G (.slice ss st.length cs) st win g.1.1 kind j W ((HH.out.2.2.2.1.below hq.out.1.bel).below hW) hjl HX.out.1.2.2.1 HX.out.1.2.2.2)
     cases hL:leads st g.1.1 j kind
     ·rw[hL] at HC
      have HLd:=hid hL
      clear hL
      go_wp2
      go_region_held3 (fun W=>W.cell? ⟨eb,0,none⟩=some (.slice ss st.length cs)∧W.cell? ⟨eb,1,none⟩=some (.int .i64 win)∧W.cell? ⟨rb,0,none⟩=some (.int .i64 g.1.1)∧W.cell? ⟨w.heap.size,1,none⟩=some (.int .i32 kind)) (go_keep) ((go_at_call 170;refine (HC.out _ (by first | exact bel_drewN (Below.refl _ _) _ | exact Below.drew (Below.refl _ _) | exact Below.refl _ _)).mono ?_;rintro e w6 ⟨rfl,hb6⟩;have z0:=(cell_bel hb6 ⟨eb,0,none⟩ leb).trans k0';have z1:=(cell_bel hb6 ⟨eb,1,none⟩ leb).trans k1;have z2:=(cell_bel hb6 ⟨rb,0,none⟩ lrb).trans q0;have z3:=(cell_bel hb6 ⟨w.heap.size,1,none⟩ lev).trans k2;have H6:=hid hb6;clear hb6))
      have HB6:Hid (Below wr.heap.size wr w6):=hid (by first | exact H6.out | exact (bel_drewN (Below.refl _ _) _).trans H6.out | exact (Below.drew (Below.refl _ _)).trans H6.out)
      go_wp2
      go_roundw
      case rel=>
       refine⟨j+1,_,M6,by omega,by go_num,rfl,?_,(HB6.out.block _ lrb).trans hq.out.2.1,hq.out.2.2⟩
       rw[extsG_succ,if_neg (by rw[HLd.out];simp),List.append_nil]
       exact hq.out.1.below HB6.out
      case measure=>simp[intOf];omega
     ·rw[hL] at HC
      have HLd:=hid hL
      clear hL
      go_wp2
      go_region_held3 (fun W=>W.cell? ⟨eb,0,none⟩=some (.slice ss st.length cs)∧W.cell? ⟨eb,1,none⟩=some (.int .i64 win)∧W.cell? ⟨rb,0,none⟩=some (.int .i64 g.1.1)∧W.cell? ⟨w.heap.size,1,none⟩=some (.int .i32 kind)) (go_keep) ((go_at_call 170;refine (HC.out _ (by first | exact bel_drewN (Below.refl _ _) _ | exact Below.drew (Below.refl _ _) | exact Below.refl _ _)).mono ?_;rintro e w6 ⟨rfl,hb6⟩;have z0:=(cell_bel hb6 ⟨eb,0,none⟩ leb).trans k0';have z1:=(cell_bel hb6 ⟨eb,1,none⟩ leb).trans k1;have z2:=(cell_bel hb6 ⟨rb,0,none⟩ lrb).trans q0;have z3:=(cell_bel hb6 ⟨w.heap.size,1,none⟩ lev).trans k2;have H6:=hid hb6;clear hb6))
      have HB6:Hid (Below wr.heap.size wr w6):=hid (by first | exact H6.out | exact (bel_drewN (Below.refl _ _) _).trans H6.out | exact (Below.drew (Below.refl _ _)).trans H6.out)
      have hg6:=hq.out.1.below HB6.out
      have hr6:=(HB6.out.block _ lrb).trans hq.out.2.1
      obtain⟨y0,y1,y2,-⟩:=three_cl hr6
      have x0:=(cell_bel hg6.bel ⟨w.heap.size,0,none⟩ l3).trans HE.out.2.2.1
      have x1:=(cell_bel hg6.bel ⟨w.heap.size,1,none⟩ l3).trans HE.out.2.2.2.1
      have x2:=(cell_bel hg6.bel ⟨w.heap.size,2,none⟩ l3).trans HE.out.2.2.2.2
      have HG6:=hid (And.intro hg6 hr6)
      clear hg6 hr6 q0 q1 q2 k0' k1 k2 z0 z1 z2 z3
      obtain⟨i0,hi0,hz0,hz1,hz2⟩:=info_parts Tryz.infoPRun
      have hM6:M6.length≤60000:=by
       rw[hq.out.1.len,List.length_append]
       have h1:=grownG_len st ⟨off,kind,time⟩ (E.take k)
       have h2:=extsG_len st ⟨off,kind,time⟩ g j
       have h3:(E.take k).length≤501:=by rw[List.length_take];omega
       have h4:(E.take k).length * st.length≤501 * 100:=Nat.mul_le_mul h3 hsl
       omega
      go_wp2_with (first | (go_at_call 171;refine (rWith_any (fun b=>b < w4.heap.size) g.1.1 g.1.2.2 (.slice ak g.1.2.1.length ck) g.1.2.1 ⟨off,kind,time⟩ j _ (by have hh:=HX.out.1.1;rw[HX.out.2.2] at hh;exact hh.below HG6.out.1.bel) (by have:=HX.out.1.2.1;omega)).mono ?_;rintro e w7 ⟨v7,rfl,ho7,hb7⟩;rw[show (g.1.2.1++[off]).length=g.1.2.1.length+1 by simp] at ho7;obtain⟨a7,c7,rfl⟩:=own_slice ho7;have H7:=hid (And.intro ho7 hb7);clear ho7 hb7) | (at_builtin;refine wpList_append_row rfl _ _ 157 rfl w4.heap.size 164 i0 (.agg #[.int .i64 0,.slice none 0 0,.int .i64 0]) 3 40 Tryz.underlying157 hi0 hz0 hz1 hz2 rfl (by decide) _ _ _ rfl (World.ownsRow.alloc (own_below HG6.out.1.own H7.out.2) _) (fun _=>True) _ 1 [.int .i64 j,.slice a7 (g.1.2.1.length+1) c7,.int .i64 g.1.2.2] rfl (three_row (heap_alloc_new _ _)) (by intro u hu;simp at hu;rcases hu with rfl | rfl | rfl<;>rfl) (by unfold maxLen;omega) (by omega) (by have:=HG6.out.1.bel.size;have:=H7.out.2.size;simp;omega) ?_))
      intro v8 w8 own8 gr8
      have hN:=GrRel.more ⟨j,g.1.2.1++[off],g.1.2.2⟩ (HG6.out.1.below H7.out.2) (v2:=.slice a7 (g.1.2.1.length+1) c7) (by show World.ownsRow _ _ _ _ _ (g.1.2.1++[off]).length _;rw[show (g.1.2.1++[off]).length=g.1.2.1.length+1 by simp];exact own_mono H7.out.1 HG6.out.1.bel.size) own8 gr8
      have hr7:=(H7.out.2.block _ (lt_of_block HG6.out.2)).trans HG6.out.2
      have hr8:w8.heap[rb]?=some (.cells #[.int .i64 g.1.1,.slice ak g.1.2.1.length ck,.int .i64 g.1.2.2] 164 (0,0)):=by
       refine (gr8.block rb ?_ (fun e=>hq.out.2.2 e.symm)).trans ((Below.heap_alloc _ _ _ (lt_of_block hr7)).trans hr7)
       have:=lt_of_block hr7
       simp
       omega
      have hvn:(Value.slice a7 (g.1.2.1.length+1) c7)≠.slice ak g.1.2.1.length ck:=by
       have hh:=HX.out.1.1
       rw[HX.out.2.2] at hh
       exact new_ne hh (ys:=g.1.2.1++[off]) (by rw[show (g.1.2.1++[off]).length=g.1.2.1.length+1 by simp];exact H7.out.1) HG6.out.1.bel.size (by simp)
      have hv8:=own_not own8 (by rw[runCells_length]) hr8 hvn
      have HN:=hid (And.intro hN (And.intro hr8 hv8))
      clear own8 gr8 hN hr8 hr7 hvn hv8
      go_wp2
      go_roundw
      case rel=>
       refine⟨j+1,_,M6++[(⟨j,g.1.2.1++[off],g.1.2.2⟩,.slice a7 (g.1.2.1.length+1) c7)],by omega,by go_num,rfl,?_,HN.out.2.1,HN.out.2.2⟩
       rw[extsG_succ,if_pos HLd.out,← List.append_assoc]
       exact HN.out.1
      case measure=>simp[intOf];omega
    ·obtain rfl:j=st.length:=by omega
     have hj':decide ((st.length:Int) < (st.length:Int))=false:=decide_eq_false (by omega)
     go_wp2
     go_roundw
     case rel=>
      refine⟨k+1,_,M6,by omega,by go_num,rfl,?_⟩
      rw[grownG_take st _ E k hkE,HX.out.2.1]
      exact hq.out.1
     case measure=>simp[intOf];omega
  ·have hk':decide ((k:Int) < (live.length:Int)+1)=false:=decide_eq_false (by omega)
   have hk'':decide ((k:Int) < ((live.length+1:Nat):Int))=false:=decide_eq_false (by omega)
   have hfull:E.take k=E:=List.take_of_length_le (by omega)
   have hrf:=hr.out
   rw[hfull,← HH.out.2.2.1] at hrf
   have hMl:M.length≤1000000:=by
    rw[hrf.len]
    have h1:=grownG_len st ⟨off,kind,time⟩ (geAll live ⟨off,kind,time⟩)
    have h3:(geAll live ⟨off,kind,time⟩).length≤501:=by rw[geAll_length];omega
    have h4:(geAll live ⟨off,kind,time⟩).length * st.length≤501 * 100:=Nat.mul_le_mul h3 hsl
    omega
   have HF:=hid (And.intro hrf hMl)
   clear hrf hMl hfull
   go_wp2_with (go_at_call 106;refine (arranged_any w4.heap.size _ M _ ⟨HF.out.1.own,fun x hx=>own_I64 (HF.out.1.offs x hx)⟩ HF.out.2).mono ?_;intro e w9 h9;have h10:=GrEnd.of HF.out.1 HH.out.2.2.2.2 h9;obtain⟨v9,S9,M9,rfl,h11⟩:=h10;have H9:=hid h11;clear h9 h11)
   go_ret
   exact⟨_,S9,M9,rfl,H9.out⟩
theorem mem_extsG {st:List (Int × Bool)}{ev:En.Ev}{g:GE}{j:Nat}{x:En.Rn}:x∈extsG st ev g j↔∃s,s < j∧leads st g.1.1 s ev.kind=true∧x={ step:=s,offs:=g.1.2.1++[ev.off],first:=g.1.2.2 }:=by
 unfold extsG
 rw[List.mem_map]
 constructor
 ·rintro⟨s,hs,rfl⟩
  obtain⟨h1,h2⟩:=List.mem_filter.1 hs
  exact⟨s,List.mem_range.1 h1,h2,rfl⟩
 ·rintro⟨s,h1,h2,rfl⟩
  exact⟨s,List.mem_filter.2 ⟨List.mem_range.2 h1,h2⟩,rfl⟩
theorem mem_grownG {st:List (Int × Bool)}{ev:En.Ev}{live:List RV}{x:En.Rn}:x∈grownG st ev (geAll live ev)↔∃s,s < st.length∧((∃q∈live.map Prod.fst,leads st q.step s ev.kind=true∧x=En.ext q ev s)∨(leads st (-1) s ev.kind=true∧x={ step:=s,offs:=[ev.off],first:=ev.time })):=by
 unfold grownG
 rw[List.mem_flatMap]
 constructor
 ·rintro⟨g,hg,hx⟩
  obtain⟨s,h1,h2,rfl⟩:=mem_extsG.1 hx
  rcases List.mem_append.1 hg with hg | hg
  ·obtain⟨y,hy,rfl⟩:=List.mem_map.1 hg
   exact⟨s,h1,Or.inl ⟨y.1,List.mem_map.2 ⟨y,hy,rfl⟩,h2,rfl⟩⟩
  ·obtain rfl:=List.mem_singleton.1 hg
   exact⟨s,h1,Or.inr ⟨h2,rfl⟩⟩
 ·rintro⟨s,h1,⟨q,hq,h2,rfl⟩ | ⟨h2,rfl⟩⟩
  ·obtain⟨y,hy,rfl⟩:=List.mem_map.1 hq
   exact⟨geOf y,List.mem_append_left _ (List.mem_map.2 ⟨y,hy,rfl⟩),mem_extsG.2 ⟨s,h1,h2,rfl⟩⟩
  ·exact⟨_,List.mem_append_right _ (List.mem_singleton.2 rfl),mem_extsG.2 ⟨s,h1,h2,rfl⟩⟩
theorem leads_iff {P:En.Pat}{s:Nat}(hs:s < P.steps.length)(frm kind:Int):leads P.steps frm s kind=true↔En.kindAt P s=some kind∧((s:Int)=frm+1∨((s:Int)=frm∧En.plusAt P s=true)):=by
 unfold leads En.kindAt En.plusAt
 have hg:P.steps.getD s (0,false)=P.steps[s]:=by simp[hs]
 rw[hg]
 simp[List.getElem?_eq_getElem hs]
theorem goesOn_eq {P:En.Pat}{s:Nat}(hs:s < P.steps.length):goesOn P.steps s=En.goes P s:=by
 unfold goesOn En.goes En.plusAt
 have hg:P.steps.getD s (0,false)=P.steps[s]:=by simp[hs]
 rw[hg,List.getElem?_eq_getElem hs]
 simp
 rw[show (!decide (s+1=P.steps.length))=decide (s+1 < P.steps.length) by
  rw[← decide_not,decide_eq_decide];omega]
theorem ended_mem {P:En.Pat}{A:List En.Rn}{live:List RV}{ev:En.Ev}{ψ:Int→Int}(hA:∀q∈A,En.Det ψ q)(hev:ev.time=ψ ev.off)(hl:live.map Prod.fst=A.filter (En.inWin P ev))(x:En.Rn) :
  x∈grownG P.steps ev (geAll live ev)↔∃s,s < P.steps.length∧x∈En.news P A ev s:=by
 rw[mem_grownG,hl]
 constructor
 ·rintro⟨s,hs,h⟩
  refine⟨s,hs,(En.mem_news hA hev s x).2 ?_⟩
  rcases h with ⟨q,hq,h2,rfl⟩ | ⟨h2,rfl⟩
  ·obtain⟨h3,h4⟩:=List.mem_filter.1 hq
   obtain⟨h5,h6⟩:=(leads_iff hs _ _).1 h2
   refine⟨h5,Or.inr ⟨q,h3,?_,of_decide_eq_true h4,rfl⟩⟩
   rcases h6 with h6 | ⟨h6,h7⟩
   ·exact Or.inl (by omega)
   ·exact Or.inr ⟨by omega,h7⟩
  ·obtain⟨h5,h6⟩:=(leads_iff hs _ _).1 h2
   refine⟨h5,Or.inl ?_⟩
   have:s=0:=by omega
   subst this
   exact⟨rfl,rfl⟩
 ·rintro⟨s,hs,h⟩
  refine⟨s,hs,?_⟩
  obtain⟨h5,⟨rfl,rfl⟩ | ⟨q,hq,hc,hf,rfl⟩⟩:=(En.mem_news hA hev s x).1 h
  ·exact Or.inr ⟨(leads_iff hs _ _).2 ⟨h5,Or.inl (by simp)⟩,rfl⟩
  ·refine Or.inl ⟨q,List.mem_filter.2 ⟨hq,decide_eq_true hf⟩,(leads_iff hs _ _).2 ⟨h5,?_⟩,rfl⟩
   rcases hc with hc | ⟨hc,hp⟩
   ·exact Or.inl (by omega)
   ·exact Or.inr ⟨by omega,hp⟩
theorem event_step {P:En.Pat}{A:List En.Rn}{live M S Mn Sn:List RV}{ev:En.Ev}{ψ:Int→Int}(hP:0 < P.steps.length)(hA:∀q∈A,En.Det ψ q)(hOA:En.Ord A)(hev:ev.time=ψ ev.off)(hl:live.map Prod.fst=A.filter (En.inWin P ev))
  (hM:M.map Prod.fst=grownG P.steps ev (geAll live ev)) (hp:S.Perm M) (hs:Sm.Srt ltR S)
  (hMn:Mn=live++(cmpctR S).filter (fun x=>goesOn P.steps x.1.step)) (hpn:Sn.Perm Mn) (hsn:Sm.Srt ltR Sn) :
  (cmpctR Sn).map Prod.fst=En.next P A ev∧((cmpctR S).filter fun x=>decide (x.1.step+1=P.steps.length)).map (fun x=>(x.1.offs,ev.time))=(En.news P A ev (P.steps.length - 1)).map (fun r=>(r.offs,ev.time))∧(∀x∈cmpctR Sn,x∈live∨x∈M)∧∀x∈cmpctR S,x∈M:=by
 have hmem:=ended_mem (P:=P) hA hev hl
 have hdM:∀x∈M,En.Det ψ x.1∧x.1.step < P.steps.length:=fun x hx=>by
  have h1:x.1∈M.map Prod.fst:=List.mem_map.2 ⟨x,hx,rfl⟩
  rw[hM] at h1
  obtain⟨s,hs,h2⟩:=(hmem x.1).1 h1
  have h3:=En.news_det hA hev s x.1 h2
  exact⟨h3.1,by rw[h3.2];exact hs⟩
 obtain⟨o1,o2,o3⟩:=arranged_ord (ψ:=ψ) hp hs (fun x hx=>(hdM x hx).1)
 have hE:∀x,x∈(cmpctR S).map Prod.fst↔∃s,s < P.steps.length∧x∈En.news P A ev s:=fun x=>by
  rw[o2 x,← hmem x,← hM]
 have hdn:∀x∈Mn,En.Det ψ x.1:=fun x hx=>by
  rw[hMn] at hx
  rcases List.mem_append.1 hx with hx | hx
  ·have h1:x.1∈live.map Prod.fst:=List.mem_map.2 ⟨x,hx,rfl⟩
   rw[hl] at h1
   exact hA _ (List.mem_filter.1 h1).1
  ·exact (hdM x (o3 x (List.mem_filter.1 hx).1)).1
 obtain⟨n1,n2,n3⟩:=arranged_ord (ψ:=ψ) hpn hsn hdn
 refine⟨?_,?_,fun x hx=>?_,o3⟩
 ·refine En.ended_next hA hev hOA hE n1 (fun x=>?_)
  rw[n2 x,hMn,List.map_append,List.mem_append,hl]
  refine or_congr Iff.rfl ?_
  rw[List.mem_map,List.mem_filter,List.mem_map]
  constructor
  ·rintro⟨y,hy,rfl⟩
   obtain⟨h1,h2⟩:=List.mem_filter.1 hy
   exact⟨⟨y,h1,rfl⟩,by rw[← goesOn_eq (hdM y (o3 y h1)).2];exact h2⟩
  ·rintro⟨⟨y,h1,rfl⟩,h2⟩
   exact⟨y,List.mem_filter.2 ⟨h1,by rw[goesOn_eq (hdM y (o3 y h1)).2];exact h2⟩,rfl⟩
 ·have h1:=En.ended_last hA hev o1 hE (P.steps.length - 1) (by omega)
  rw[← h1,List.filter_map,List.map_map]
  refine congrArg (List.map _) (List.filter_congr (fun x hx=>?_))
  have:=(hdM x (o3 x hx)).2
  show decide _=decide _
  rw[decide_eq_decide]
  show x.1.step+1=P.steps.length↔x.1.step=P.steps.length - 1
  omega
 ·have:=n3 x hx
  rw[hMn] at this
  rcases List.mem_append.1 this with h | h
  ·exact Or.inl h
  ·exact Or.inr (o3 x (List.mem_filter.1 h).1)
end Go.Proofs.YtfldcmdhneegmaaGreatDoor

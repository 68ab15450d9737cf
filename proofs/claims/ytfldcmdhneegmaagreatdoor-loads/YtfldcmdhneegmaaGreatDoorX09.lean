import Derived.Test.YtfldcmdhneegmaaGreatDoorX06
import Derived.Test.YtfldcmdhneegmaaGreatDoorX07
import Derived.Laws.EntriesVeiled
import Derived.Shelf.Abstract
import Derived.Test.YtfldcmdhneegmaaGreatDoorX08
set_option maxHeartbeats 4000000
set_option maxRecDepth 1000000
namespace Go.Proofs.YtfldcmdhneegmaaGreatDoor
open Go.RowKit Go.Lib
structure ROwn (base:Nat)(w:World)(v:Value)(l:List RV):Prop where
 row:w.ownsRow base 164 3 v l.length (runCells l)
 offs:∀x∈l,IntsAt (I64 w) w x.2 x.1.offs
theorem ROwn.nil (base:Nat)(w:World):ROwn base w (.slice none 0 0) []:=⟨⟨rfl,Or.inl ⟨rfl,rfl⟩⟩,fun _ h=>by cases h⟩
theorem ROwn.below {base:Nat}{w w':World}{v:Value}{l:List RV}(h:ROwn base w v l)(hb:Below w.heap.size w w'):ROwn base w' v l:=
 ⟨own_below h.row hb,fun x hx=>(h.offs x hx).onI (fun i ⟨_,_,hi⟩=>hb.block i (lt_of_block hi)) hb.size⟩
theorem ROwn.cases {base:Nat}{w:World}{v:Value}{l:List RV}(h:ROwn base w v l):(v=.slice none 0 0∧l=[])∨∃g cap,v=.slice (some ⟨g,0,none⟩) l.length cap∧base≤g:=by
 rcases h.row.2 with ⟨he,hn⟩ | ⟨g,cap,cur,he,hb,-⟩
 ·exact Or.inl ⟨he,List.eq_nil_of_length_eq_zero hn⟩
 ·exact Or.inr ⟨g,cap,he,hb⟩
def ArrEnd (base:Nat)(v:Value)(l:List RV)(w:World)(e:Ending)(w':World):Prop:=
 ∃v' S,e=.returned v'∧S.Perm l∧Sm.Srt ltR S∧ROwn base w' v' (cmpctR S)∧w.grownBy w' v.ownBlock∧v'.ownBlock=v.ownBlock
theorem var_set {W:World}{k:Nat}{z u:Value}{t:TypeId}(h:W.heap[k]?=some (.cells #[z] t (0,0))):(W.setCell ⟨k,0,none⟩ u).heap[k]?=some (.cells #[u] t (0,0))∧W.cell? ⟨k,0,none⟩=some z∧W.frozen? ⟨k,0,none⟩=false:=by
 refine⟨?_,by simp[World.cell?,h],by simp[World.frozen?,h]⟩
 show (W.heap.modify k _)[k]?=_
 rw[Array.getElem?_modify,if_pos rfl,h]
 rfl
theorem En.lt_cmp (r s:En.Rn):En.lt r s=decide (En.cmpR r s < 0):=by
 have key:∀a b:List Int,En.before a b=decide (En.cmpL a b < 0):=by
  intro a
  induction a with
  | nil=>intro b;cases b<;>simp[En.before,En.cmpL]
  | cons x a ih=>
   intro b
   cases b with
   | nil=>simp[En.before,En.cmpL]
   | cons y b=>
    unfold En.before En.cmpL
    rcases En.cmpI_cases x y with ⟨h,h'⟩ | ⟨h,h'⟩ | ⟨h,h'⟩
    ·rw[h];simp[show x≠y by omega,h']
    ·rw[h,if_pos rfl,← ih b];simp[h']
    ·rw[h];simp[show x≠y by omega,show ¬ x < y by omega]
 unfold En.lt En.cmpR
 rw[key]
 by_cases h:En.cmpL r.offs s.offs=0
 ·rw[if_pos h]
  have h':=En.cmpL_eq.1 h
  rw[h,h']
  rcases En.cmpI_cases (r.step:Int) s.step with ⟨e,k⟩ | ⟨e,k⟩ | ⟨e,k⟩<;>rw[e]<;>simp<;>omega
 ·rw[if_neg h]
  have h':r.offs≠s.offs:=fun e=>h (En.cmpL_eq.2 e)
  simp[h']
theorem srt_sorted {S:List RV}(h:Sm.Srt ltR S):En.Sorted (S.map (·.1)):=by
 induction S with
 | nil=>exact trivial
 | cons x t ih=>
  obtain⟨h1,h2⟩:=List.pairwise_cons.1 h
  refine⟨fun y hy=>?_,ih h2⟩
  obtain⟨z,hz,rfl⟩:=List.mem_map.1 hy
  rw[En.lt_cmp]
  exact h1 z hz
theorem cmpct_map {ψ:Int→Int}:∀(t:List RV) (x:RV),(∀y∈x::t,En.Det ψ y.1)→(cmpctR (x::t)).map (·.1)=En.compact ((x::t).map (·.1))
 | [],x,_=>by simp[cmpctR,upR,En.compact]
 | y::t,x,hd=>by
  have ih:=cmpct_map t y (fun z hz=>hd z (List.mem_cons_of_mem _ hz))
  simp only[cmpctR,upR,List.map_cons] at ih ⊢
  unfold En.compact
  by_cases h:En.cmpR y.1 x.1=0
  ·rw[if_pos h]
   have hk:En.sameKey x.1 y.1=true:=by
    obtain⟨h1,h2⟩:=En.cmpR_eq.1 h
    exact En.sameKey_iff.2 ⟨h1.symm,h2.symm⟩
   rw[if_pos hk]
   have e:x.1=y.1:=En.det_eq (hd x List.mem_cons_self) (hd y (List.mem_cons_of_mem _ List.mem_cons_self)) hk
   rw[e,← ih]
  ·rw[if_neg h]
   have hk:¬ En.sameKey x.1 y.1=true:=fun hk=>h (by
    obtain⟨h1,h2⟩:=En.sameKey_iff.1 hk
    exact En.cmpR_eq.2 ⟨h1.symm,h2.symm⟩)
   rw[if_neg hk,List.map_cons,ih]
theorem arranged_ord {ψ:Int→Int}{S l:List RV}(hp:S.Perm l)(hs:Sm.Srt ltR S)(hd:∀x∈l,En.Det ψ x.1):En.Ord ((cmpctR S).map (·.1))∧(∀r,r∈(cmpctR S).map (·.1)↔r∈l.map (·.1))∧∀x∈cmpctR S,x∈l:=by
 have hd':∀x∈S,En.Det ψ x.1:=fun x hx=>hd x (hp.mem_iff.1 hx)
 have hc:(cmpctR S).map (·.1)=En.compact (S.map (·.1)):=by
  cases S with
  | nil=>simp[cmpctR,En.compact]
  | cons x t=>exact cmpct_map t x hd'
 obtain⟨h1,h2⟩:=En.compact_ord (ψ:=ψ) (S.map (·.1)).length (S.map (·.1)) (Nat.le_refl _) (fun r hr=>by obtain⟨x,hx,rfl⟩:=List.mem_map.1 hr;exact hd' x hx) (srt_sorted hs)
 rw[hc]
 refine⟨h1,fun r=>?_,fun x hx=>hp.mem_iff.1 (cmpct_mem S x hx)⟩
 rw[h2]
 exact (hp.map (·.1)).mem_iff
theorem Tryz.infoPRun:(Tryz.prog.info? 164).map (fun i=>(i.zero,i.size,i.bytes))=some (some (.agg #[.int .i64 0,.slice none 0 0,.int .i64 0]),3,40):=by kernel_rfl
structure SelRel (p:En.Rn→Bool)(l:List RV)(k:Nat)(w wr:World)(v:Value)(M:List RV):Prop where
 own:wr.ownsRow w.heap.size 164 3 v M.length (runCells M)
 eq:M=(l.take k).filter fun x=>p x.1
 bel:Below w.heap.size w wr
theorem SelRel.len {p:En.Rn→Bool}{l:List RV}{k:Nat}{w wr:World}{v:Value}{M:List RV}(h:SelRel p l k w wr v M):M.length≤l.length:=by
 rw[h.eq]
 refine Nat.le_trans (List.length_filter_le _ _) ?_
 rw[List.length_take]
 omega
theorem SelRel.skip {p:En.Rn→Bool}{l:List RV}{k:Nat}{w wr w2:World}{v:Value}{M:List RV}(h:SelRel p l k w wr v M)(hk:k < l.length)(hp:p l[k].1=false)(hb:Below wr.heap.size wr w2):SelRel p l (k+1) w w2 v M:=
 ⟨own_below h.own hb,by rw[h.eq,List.take_succ_eq_append_getElem hk,List.filter_append];simp[hp],h.bel.trans (hb.mono h.bel.size)⟩
theorem SelRel.more {p:En.Rn→Bool}{l:List RV}{k:Nat}{w wr w2 w5:World}{v v5:Value}{M:List RV}{o:Obj}(h:SelRel p l k w wr v M)(hk:k < l.length)(hp:p l[k].1=true)(hb:Below wr.heap.size wr w2)
  (own5:w5.ownsRow w.heap.size 164 3 v5 (M.length+1) (runCells M++[.int .i64 l[k].1.step,l[k].2,.int .i64 l[k].1.first])) (gr5:(w2.alloc o).grownBy w5 v.ownBlock):SelRel p l (k+1) w w5 v5 (M++[l[k]]):=by
 have hB:=h.bel.trans (hb.mono h.bel.size)
 refine⟨by simpa [runCells] using own5,by rw[h.eq,List.take_succ_eq_append_getElem hk,List.filter_append];simp[hp],(hB.alloc hB.size o).grown gr5 (Nat.le_trans hB.size (by simp)) (fun k hk=>(own_block h.own k hk).1)⟩
def SelEnd (p:En.Rn→Bool)(l:List RV)(w:World)(e:Ending)(w':World):Prop:=
 ∃v',e=.returned v'∧w'.ownsRow w.heap.size 164 3 v' (l.filter fun x=>p x.1).length (runCells (l.filter fun x=>p x.1))∧Below w.heap.size w w'
theorem far_wrap (t first:Int):IntKind.u64.wrap (IntKind.u64.wrap t - IntKind.u64.wrap first)=En.far t first:=by
 simp[IntKind.wrap,IntKind.bits,IntKind.signed,En.far]
theorem wrap_win {x:Int}(h1:0≤x)(h2:x≤9999):IntKind.u64.wrap x=x:=by
 simp[IntKind.wrap,IntKind.bits,IntKind.signed]
 omega
theorem age_any (s first t:Int)(ao:Option Addr)(n c:Nat)(w:World) :
  Calls Tryz.prog 168 #[.agg #[.int .i64 s,.slice ao n c,.int .i64 first],.int .i64 t] w fun e w'=>e=.returned (.int .u64 (En.far t first))∧Below w.heap.size w w':=by
 go_enter Tryz.func168,Tryz.ntmps168
 go_wp2
 go_ret
 exact⟨by rw[← far_wrap];rfl,(Below.refl _ _).alloc (Nat.le_refl _) _⟩
def lastsP (win t:Int)(r:En.Rn):Bool:=decide (En.far t r.first < win)
theorem lasts_any (s first t win:Int)(ao:Option Addr)(n c eb:Nat)(w:World)(hw0:0≤win)(hw1:win≤9999)(he:w.cell? ⟨eb,1,none⟩=some (.int .i64 win)) :
  Calls Tryz.prog 182 #[.pointer (some ⟨eb,0,none⟩),.agg #[.int .i64 s,.slice ao n c,.int .i64 first],.int .i64 t] w fun e w'=>e=.returned (.bool (decide (En.far t first < win)))∧Below w.heap.size w w':=by
 have le:=World.block_lt_of_cell? w ⟨eb,1,none⟩ he
 simp only at le
 have hal:=(Below.refl w.heap.size w).alloc (Nat.le_refl _) (.cells #[.int .i64 s,.slice ao n c,.int .i64 first] 164)
 have hnew:(w.alloc (.cells #[.int .i64 s,.slice ao n c,.int .i64 first] 164)).heap[w.heap.size]?=some (.cells #[.int .i64 s,.slice ao n c,.int .i64 first] 164 (0,0)):=heap_alloc_new w _
 generalize hW:w.alloc (.cells #[.int .i64 s,.slice ao n c,.int .i64 first] 164)=W at hal hnew
 have e1:=(cell_bel hal ⟨eb,1,none⟩ le).trans he
 have r0:W.cell? ⟨w.heap.size,0,none⟩=some (.int .i64 s):=by simp[World.cell?,hnew]
 have r1:W.cell? ⟨w.heap.size,1,none⟩=some (.slice ao n c):=by simp[World.cell?,hnew]
 have r2:W.cell? ⟨w.heap.size,2,none⟩=some (.int .i64 first):=by simp[World.cell?,hnew]
 have hsz:=lt_of_block hnew
 have HA:=hid (fun W'=>age_any s first t ao n c W')
 have HB:=hid (And.intro hal hsz)
 have hww:=wrap_win hw0 hw1
 have le':eb < W.heap.size:=by have:=hal.size;omega
 clear hal hnew he
 go_enter Tryz.func182,Tryz.ntmps182
 go_wp2
 go_region_held3 (fun W=>W.cell? ⟨w.heap.size,0,none⟩=some (.int .i64 s)∧W.cell? ⟨w.heap.size,1,none⟩=some (.slice ao n c)∧W.cell? ⟨w.heap.size,2,none⟩=some (.int .i64 first)∧W.cell? ⟨eb,1,none⟩=some (.int .i64 win)) (go_keep) ((go_at_call 168;refine (HA.out _).mono ?_;rintro e w1 ⟨rfl,hb1⟩;have z0:=(cell_bel hb1 ⟨w.heap.size,0,none⟩ hsz).trans r0;have z1:=(cell_bel hb1 ⟨w.heap.size,1,none⟩ hsz).trans r1;have z2:=(cell_bel hb1 ⟨w.heap.size,2,none⟩ hsz).trans r2;have z3:=(cell_bel hb1 ⟨eb,1,none⟩ le').trans e1;have H1:=hid hb1;clear hb1))
 have HB1:Hid (Below W.heap.size W w1):=hid (by first | exact H1.out | exact (bel_drewN (Below.refl _ _) _).trans H1.out | exact (Below.drew (Below.refl _ _)).trans H1.out)
 go_wp2
 go_ret
 exact⟨rfl,HB.out.1.trans (HB1.out.mono HB.out.1.size)⟩
theorem one_of {w:World}{N:Nat}{x:Value}{t:TypeId}(h:w.heap[N]?=some (.cells #[x] t (0,0))):w.cell? ⟨N,0,none⟩=some x:=by simp[World.cell?,h]
def inWinP (win t:Int)(r:En.Rn):Bool:=decide (En.far t r.first≤win)
end Go.Proofs.YtfldcmdhneegmaaGreatDoor

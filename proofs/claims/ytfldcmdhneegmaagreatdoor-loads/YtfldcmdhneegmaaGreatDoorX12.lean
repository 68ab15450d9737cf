import Derived.Test.YtfldcmdhneegmaaGreatDoorX11
import Derived.OneCell
import Derived.Deep.RegionLaw
import Derived.Deep.AppendLies
set_option maxHeartbeats 4000000
set_option maxRecDepth 1000000
namespace Go.Proofs.YtfldcmdhneegmaaGreatDoor
open Go.RowKit Go.Lib
theorem Tryz.infoEvent:(Tryz.prog.info? 194).map (fun i=>(i.zero,i.size,i.bytes))=some (some (.agg #[.int .i64 0,.int .i32 0,.int .i64 0]),3,24):=by kernel_rfl
theorem Tryz.assertEv (v:Value)(w:World):(Instr.typeAssert (.iface 194 v) 20 194 false).run Tryz.prog w=.ok v w:=by kernel_rfl
theorem evCells_snoc (l:List En.Ev)(x:En.Ev):evCells (l++[x])=evCells l++[.int .i64 x.off,.int .i32 x.kind,.int .i64 x.time]:=by simp[evCells]
structure Tch (qb qo:Nat)(v':Value)(own:Option Nat)(w w':World):Prop where
 os:w'.os=w.os
 tape:w'.tape=w.tape
 output:w'.output=w.output
 size:w.heap.size≤w'.heap.size
 block:∀k,k < w.heap.size→k≠qb→some k≠own→w'.heap[k]?=w.heap[k]?
 self:w'.heap[qb]?=(w.setCell ⟨qb,qo,none⟩ v').heap[qb]?
theorem heap_set_congr {w w2:World}{b o:Nat}{v:Value}(h:w2.heap[b]?=w.heap[b]?):(w2.setCell ⟨b,o,none⟩ v).heap[b]?=(w.setCell ⟨b,o,none⟩ v).heap[b]?:=by
 show (w2.heap.modify b _)[b]?=(w.heap.modify b _)[b]?
 rw[Array.getElem?_modify,Array.getElem?_modify,if_pos rfl,if_pos rfl,h]
theorem Tch.grown {qb qo g:Nat}{v':Value}{own:Option Nat}{w w1 w2:World}(h:Tch qb qo v' own w w1)(hg:w1.grownBy w2 (some g))(hne:qb≠g)(hlt:qb < w.heap.size)(ho:own=some g∨w.heap.size≤g):Tch qb qo v' own w w2:=by
 refine⟨hg.os.trans h.os,hg.tape.trans h.tape,hg.output.trans h.output,Nat.le_trans h.size hg.size,fun k hk hkq hko=>?_,?_⟩
 ·rw[hg.block k (Nat.lt_of_lt_of_le hk h.size) (by intro e;cases e;rcases ho with ho | ho;exact hko ho.symm;omega)]
  exact h.block k hk hkq hko
 ·rw[hg.block qb (Nat.lt_of_lt_of_le hlt h.size) (by intro e;cases e;exact hne rfl)]
  exact h.self
def PushEnd (base qb qo:Nat)(own:Option Nat)(l:List En.Ev)(w:World)(e:Ending)(w':World):Prop:=
 e=.returned (.tuple #[])∧∃g cap' l',QAt base w' qb qo g l.length cap' l'∧l'.Perm l∧En.Hp l' l'.length∧Tch qb qo (.slice (some ⟨g,0,none⟩) l.length cap') own w w'∧(own=some g∨w.heap.size≤g)
theorem Tryz.elemQueue:Tryz.prog.elem 156=194:=by kernel_rfl
theorem QRow.short {base:Nat}{w:World}{g n cap:Nat}{l:List En.Ev}(h:QRow base w (.slice (some ⟨g,0,none⟩) n cap) l)(k:Nat)(hk:k≤l.length):QRow base w (.slice (some ⟨g,0,none⟩) k cap) (l.take k):=by
 have hn:=h.len
 subst hn
 unfold QRow at h ⊢
 rw[← evCells_take,List.length_take,Nat.min_eq_left hk]
 refine⟨by rw[List.length_take,evCells_length];have:=Nat.mul_le_mul_right 3 hk;omega,?_⟩
 rcases h.2 with ⟨he,-⟩ | ⟨g',cap',cur,he,hb,hg,hn,hc,hs,ht⟩
 ·cases he
 ·cases he
  refine Or.inr ⟨g,cap,cur,rfl,hb,hg,by omega,hc,hs,?_⟩
  rw[← ht,List.take_take,Nat.min_eq_left (Nat.mul_le_mul_right 3 hk)]
theorem run_cutQ (g n cap k:Nat)(i:Int)(hi:i=k)(hk:k≤n)(hn:n≤cap)(h1:0 < n)(W:World):(Instr.slice 156 (.slice (some ⟨g,0,none⟩) n cap) none (some (.int .i64 i)) none).run Tryz.prog W=.ok (.slice (some ⟨g,0,none⟩) k cap) W:=by
 subst hi
 rw[run_slice_h W 156 (some ⟨g,0,none⟩) n cap (by rw[Tryz.elemQueue];exact Tryz.underlying156) .i64 k (by omega) (by omega),Tryz.elemQueue,Tryz.sizeOf194]
 have hc0:cap≠0:=by omega
 simp[Result.andThen,Go.sliced,hc0,Addr.add]
theorem qPop_any (base qb qo g n cap:Nat)(l:List En.Ev)(w:World)(h:QAt base w qb qo g n cap l)(hf:w.frozen? ⟨qb,qo,none⟩=false)(k:Nat)(hk:l.length=k+1)(hl:l.length≤1000) :
  Calls Tryz.prog 326 #[.pointer (some ⟨qb,qo,none⟩)] w fun e w'=>e=.returned (.iface 194 (.agg #[.int .i64 (En.nth l k).off,.int .i32 (En.nth l k).kind,.int .i64 (En.nth l k).time]))∧∃o,w'=(w.setCell ⟨qb,qo,none⟩ (.slice (some ⟨g,0,none⟩) k cap)).alloc o:=by
 have c0:=h.cell
 have hn:=h.row.len
 obtain⟨ao2,cap2,he2,hnc,-⟩:=RowAt.slice h.row.evs
 cases he2
 obtain⟨b1,o1,hb,-,d0,d1,d2⟩:=EvsAt.get h.row.evs (i:=k) (by omega)
 cases hb
 rw[En.nth_eq (by omega)]
 generalize l[k]=x at *
 simp only[Nat.zero_add] at d0 d1 d2
 have hcut:=fun W=>run_cutQ g l.length cap k ((l.length:Int) - 1) (by omega) (by omega) hnc (by omega) W
 have hk1:(0:Int)≤(l.length:Int) - 1:=by omega
 have ek:((l.length:Int) - 1).toNat=k:=by omega
 have hlt:qb < w.heap.size:=World.block_lt_of_cell? w ⟨qb,qo,none⟩ c0
 have ca:∀o,(w.alloc o).cell? ⟨qb,qo,none⟩=some (.slice (some ⟨g,0,none⟩) l.length cap):=fun o=>(World.cell?_alloc_lt w o ⟨qb,qo,none⟩ hlt).trans c0
 have fa:∀o,(w.alloc o).frozen? ⟨qb,qo,none⟩=false:=fun o=>(World.frozen?_alloc_old w o ⟨qb,qo,none⟩ (Nat.ne_of_lt hlt)).trans hf
 have hne:w.heap.size≠qb:=by omega
 clear hn h hk
 go_enter Tryz.func326,Tryz.ntmps326
 go_wp2
 go_ret
 exact⟨rfl,_,rfl⟩
namespace En
theorem Hp.take {l:List Ev}{k:Nat}(h:Hp l k)(hk:k≤l.length):Hp (l.take k) (l.take k).length:=by
 have hn:∀j,j < k→nth (l.take k) j=nth l j:=by
  intro j hj
  unfold nth
  simp[hj]
 intro j h0 hj
 rw[List.length_take] at hj
 rw[hn j (by omega),hn _ (by omega)]
 exact h j h0 (by omega)
theorem take_perm {l:List Ev}{k:Nat}(hk:l.length=k+1):(nth l k::l.take k).Perm l:=by
 have e:l=l.take k++[nth l k]:=by
  rw[nth_eq (by omega)]
  conv=>lhs;rw[← List.take_append_drop k l]
  congr 1
  rw[List.drop_eq_getElem_cons (by omega),List.drop_eq_nil_of_le (by omega)]
 conv=>rhs;rw[e]
 exact (List.perm_append_comm (l₁:=[nth l k]) (l₂:=l.take k)).trans (List.Perm.refl _)
end En
def PopEnd (base qb qo g cap:Nat)(l:List En.Ev)(w:World)(e:Ending)(w':World):Prop:=
 ∃rest,(En.nth l 0::rest).Perm l∧En.Hp rest rest.length∧e=.returned (.iface 194 (.agg #[.int .i64 (En.nth l 0).off,.int .i32 (En.nth l 0).kind,.int .i64 (En.nth l 0).time])) ∧
  QAt base w' qb qo g rest.length cap rest∧Tch qb qo (.slice (some ⟨g,0,none⟩) rest.length cap) (some g) w w'
theorem pop_at {base qb qo g n cap:Nat}{l l2:List En.Ev}{w w2:World}(h:QAt base w qb qo g n cap l)(hr:QRow base w2 (.slice (some ⟨g,0,none⟩) n cap) l2)(hg:w.grownBy w2 (some g)):QAt base w2 qb qo g n cap l2:=by
 have hlt:qb < w.heap.size:=World.block_lt_of_cell? w ⟨qb,qo,none⟩ h.cell
 refine⟨?_,hr,h.ne⟩
 rw[World.cell?_of_block (a:=⟨qb,qo,none⟩) (hg.block qb hlt (by intro e;cases e;exact h.ne rfl))]
 exact h.cell
theorem pop_frozen {base qb qo g n cap:Nat}{l:List En.Ev}{w w2 w3:World}(h:QAt base w qb qo g n cap l)(hf:w.frozen? ⟨qb,qo,none⟩=false)(hg:w.grownBy w2 (some g))(hg':w2.grownBy w3 (some g)):w3.frozen? ⟨qb,qo,none⟩=false:=by
 have hlt:qb < w.heap.size:=World.block_lt_of_cell? w ⟨qb,qo,none⟩ h.cell
 rw[World.frozen?_of_block (a:=⟨qb,qo,none⟩) ((grown_trans hg hg').block qb hlt (by intro e;cases e;exact h.ne rfl))]
 exact hf
theorem pop_ends {base qb qo g n cap:Nat}{l l3:List En.Ev}{w w3:World}{o:Obj}(h:QAt base w qb qo g n cap l)(h3:QAt base w3 qb qo g n cap l3)(hg:w.grownBy w3 (some g))(k:Nat)(hk:k≤l3.length) :
  QAt base ((w3.setCell ⟨qb,qo,none⟩ (.slice (some ⟨g,0,none⟩) k cap)).alloc o) qb qo g k cap (l3.take k)∧Tch qb qo (.slice (some ⟨g,0,none⟩) k cap) (some g) w ((w3.setCell ⟨qb,qo,none⟩ (.slice (some ⟨g,0,none⟩) k cap)).alloc o):=by
 have hlt:qb < w.heap.size:=World.block_lt_of_cell? w ⟨qb,qo,none⟩ h.cell
 have hne:some qb≠some g:=by intro e;cases e;exact h.ne rfl
 have hsz:(w3.setCell ⟨qb,qo,none⟩ (.slice (some ⟨g,0,none⟩) k cap)).heap.size=w3.heap.size:=by
  show (w3.heap.modify qb _).size=_
  rw[Array.size_modify]
 have hlt3:qb < w3.heap.size:=Nat.lt_of_lt_of_le hlt hg.size
 refine⟨⟨?_,?_,h.ne⟩,hg.os,hg.tape,hg.output,?_,?_,?_⟩
 ·rw[World.cell?_alloc_lt _ o ⟨qb,qo,none⟩ (by rw[hsz];exact hlt3)]
  exact World.cell?_setCell_same _ _ _ h3.cell
 ·have h4:=h3.row.short k hk
  have h5:(w3.setCell ⟨qb,qo,none⟩ (.slice (some ⟨g,0,none⟩) k cap)).ownsRow base 194 3 (.slice (some ⟨g,0,none⟩) k cap) (l3.take k).length (evCells (l3.take k)):=ownsRow_setCell_other h4 (a:=⟨qb,qo,none⟩) (fun e=>h.ne (by cases e;rfl)) _
  exact h5.alloc o
 ·have:=hg.size
  have h2:((w3.setCell ⟨qb,qo,none⟩ (.slice (some ⟨g,0,none⟩) k cap)).alloc o).heap.size=w3.heap.size+1:=by
   show ((w3.setCell ⟨qb,qo,none⟩ (.slice (some ⟨g,0,none⟩) k cap)).heap.push o).size=_
   rw[Array.size_push,hsz]
  omega
 ·intro j hj hjq hjg
  rw[Below.heap_alloc _ _ _ (by rw[hsz];exact Nat.lt_of_lt_of_le hj hg.size)]
  show (w3.heap.modify qb _)[j]?=_
  rw[Array.getElem?_modify,if_neg (fun e=>hjq e.symm)]
  exact hg.block j hj hjg
 ·rw[Below.heap_alloc _ _ _ (by rw[hsz];exact hlt3)]
  exact heap_set_congr (hg.block qb hlt hne)
theorem hPop_any (base qb qo g n cap:Nat)(l:List En.Ev)(w:World)(h:QAt base w qb qo g n cap l)(hf:w.frozen? ⟨qb,qo,none⟩=false)(k:Nat)(hk:l.length=k+1)(hl:l.length≤900)(hh:En.Hp l l.length) :
  Calls Tryz.prog 165 #[.iface 282 (.pointer (some ⟨qb,qo,none⟩))] w (PopEnd base qb qo g cap l w):=by
 have c0:=h.cell
 have hn:=h.row.len
 have hlt:qb < w.heap.size:=World.block_lt_of_cell? w ⟨qb,qo,none⟩ c0
 have mLn:=Tryz.methodLen ⟨qb,qo,none⟩ w _ c0
 have mSw:=Tryz.methodSwap ⟨qb,qo,none⟩ w _ c0
 have mP:=fun W=>Tryz.methodPop ⟨qb,qo,none⟩ W
 have HS:Hid (∀x y:Int,x=(0:Nat)→y=(k:Nat)→Calls Tryz.prog 322 #[.slice (some ⟨g,0,none⟩) n cap,.int .i64 x,.int .i64 y] w fun e w'=>e=.returned (.tuple #[])∧QRow base w' (.slice (some ⟨g,0,none⟩) n cap) (En.swap l 0 k)∧w.grownBy w' (some g)):=qSwap_at (q:=0) h.row 0 k (by omega) (by omega)
 have HD:=hid (En.DownInv.start (n:=k) (by rw[← hk];exact hh) hk)
 have hkI:(n:Int) - 1=(k:Int):=by omega
 have hwk:wrap64 (k:Int)=(k:Int):=by unfold wrap64;omega
 have H:=hid (And.intro h (And.intro hf hk))
 clear h hf hn hk
 go_enter Tryz.func165,Tryz.ntmps165
 go_wp2_with (first
  | (go_at_call 321;refine (qLen_any _ _ _ _).mono ?_;rintro e w1 ⟨rfl,hw1⟩;have hw1':=hw1.symm;subst hw1')
  | (go_at_call 322;refine (HS.out _ _ (by rfl) (by omega)).mono ?_;rintro e w2 ⟨rfl,h2,h3⟩;have H2:=hid (And.intro (pop_at H.out.1 h2 h3) h3);clear h2 h3)
  | (go_at_call 220;refine (hDown_any base qb qo g n cap k (En.swap l 0 k) _ H2.out.1 HD.out (by rw[En.swap_length];omega)).mono ?_;rintro e w3 ⟨c3,l3,rfl,h4,h5,h6,h7,h8⟩;have H4:=hid (And.intro h4 (And.intro h5 (And.intro h6 (And.intro h7 h8))));clear h4 h5 h6 h7 h8)
  | (go_at_call 326;refine (qPop_any base qb qo g n cap l3 _ H4.out.1 (pop_frozen H.out.1 H.out.2.1 H2.out.2 H4.out.2.2.2.1) k (by rw[H4.out.2.1.length_eq,En.swap_length];exact H.out.2.2) (by rw[H4.out.2.1.length_eq,En.swap_length];omega)).mono ?_;rintro e w4 ⟨rfl,o4,hw4⟩;have HW4:=hid hw4;clear hw4))
 go_ret
 have hx:En.nth l3 k=En.nth l 0:=by
  rw[H4.out.2.2.2.2 k (Nat.le_refl _),En.nth_swap (by have:=H.out.2.2;omega) (by have:=H.out.2.2;omega),if_pos rfl]
 have hl3:l3.length=k+1:=by rw[H4.out.2.1.length_eq,En.swap_length];exact H.out.2.2
 have hp:(En.nth l 0::l3.take k).Perm l:=by
  rw[← hx]
  exact (En.take_perm hl3).trans (H4.out.2.1.trans (En.swap_perm (by have:=H.out.2.2;omega) (by have:=H.out.2.2;omega)))
 have hlen:(l3.take k).length=k:=by rw[List.length_take];omega
 have hends:=pop_ends (o:=o4) H.out.1 H4.out.1 (grown_trans H2.out.2 H4.out.2.2.2.1) k (by omega)
 refine⟨l3.take k,hp,H4.out.2.2.1.take (by omega),by rw[← hx];rfl,?_,?_⟩
 ·rw[HW4.out,hlen]
  exact hends.1
 ·rw[HW4.out,hlen]
  exact hends.2
theorem heap_old {w:World}{o:Obj}{k:Nat}(h:k < w.heap.size):(w.alloc o).heap[k]?=w.heap[k]?:=Below.heap_alloc _ _ _ h
theorem Tch.ofAlloc {qb qo:Nat}{v':Value}{own:Option Nat}{w w':World}{o:Obj}(h:Tch qb qo v' own (w.alloc o) w')(hlt:qb < w.heap.size):Tch qb qo v' own w w':=by
 have hs:(w.alloc o).heap.size=w.heap.size+1:=by simp
 refine⟨h.os,h.tape,h.output,by have:=h.size;omega,fun k hk h1 h2=>?_,?_⟩
 ·rw[h.block k (by omega) h1 h2,heap_old hk]
 ·rw[h.self]
  exact heap_set_congr (heap_old hlt)
theorem PushEnd.ofAlloc {base qb qo:Nat}{own:Option Nat}{l:List En.Ev}{w:World}{o:Obj}{e:Ending}{w':World}(h:PushEnd base qb qo own l (w.alloc o) e w')(hlt:qb < w.heap.size):PushEnd base qb qo own l w e w':=by
 obtain⟨h1,g,cap',l',h2,h3,h4,h5,h6⟩:=h
 have hs:(w.alloc o).heap.size=w.heap.size+1:=by simp
 exact⟨h1,g,cap',l',h2,h3,h4,h5.ofAlloc hlt,h6.imp id (fun h=>by omega)⟩
theorem QAt.setNew {base qb qo g n cap:Nat}{l:List En.Ev}{w:World}(h:QAt base w qb qo g n cap l){N:Nat}(h1:N≠qb)(h2:N≠g)(i:Nat)(u:Value):QAt base (w.setCell ⟨N,i,none⟩ u) qb qo g n cap l:=
 ⟨(World.cell?_setCell_other w ⟨N,i,none⟩ ⟨qb,qo,none⟩ u (fun e=>h1 (by cases e;rfl))).trans h.cell,ownsRow_setCell_other h.row (a:=⟨N,i,none⟩) (fun e=>h2 (by cases e;rfl)) _,h.ne⟩
theorem Tch.setNew {qb qo:Nat}{v':Value}{own:Option Nat}{w w':World}(h:Tch qb qo v' own w w'){N:Nat}(hN:w.heap.size≤N)(hlt:qb < w.heap.size)(i:Nat)(u:Value):Tch qb qo v' own w (w'.setCell ⟨N,i,none⟩ u):=by
 have e:∀k,k < w.heap.size→(w'.setCell ⟨N,i,none⟩ u).heap[k]?=w'.heap[k]?:=by
  intro k hk
  show (w'.heap.modify N _)[k]?=_
  rw[Array.getElem?_modify,if_neg (by omega)]
 refine⟨h.os,h.tape,h.output,?_,fun k hk h1 h2=>(e k hk).trans (h.block k hk h1 h2),(e qb hlt).trans h.self⟩
 show _≤(w'.heap.modify N _).size
 rw[Array.size_modify]
 exact h.size
theorem three_of {w:World}{N:Nat}{x y z:Value}{t:TypeId}(h:w.heap[N]?=some (.cells #[x,y,z] t (0,0))):w.cell? ⟨N,0,none⟩=some x∧w.cell? ⟨N,1,none⟩=some y∧w.cell? ⟨N,2,none⟩=some z∧∀i,w.frozen? ⟨N,i,none⟩=false:=by
 refine⟨by simp[World.cell?,h],by simp[World.cell?,h],by simp[World.cell?,h],fun i=>by simp[World.frozen?,h]⟩
def TakeEnd (base qb qo g cap:Nat)(l:List En.Ev)(w:World)(e:Ending)(w':World):Prop:=
 ∃rest,(En.nth l 0::rest).Perm l∧En.Hp rest rest.length∧e=.returned (.tuple #[.agg #[.int .i64 (En.nth l 0).off,.int .i32 (En.nth l 0).kind,.int .i64 (En.nth l 0).time],.bool true]) ∧
  QAt base w' qb qo g rest.length cap rest∧Tch qb qo (.slice (some ⟨g,0,none⟩) rest.length cap) (some g) w w'
theorem qTake_some (base qb qo g n cap:Nat)(l:List En.Ev)(t:Int)(w:World)(h:QAt base w qb qo g n cap l)(hf:w.frozen? ⟨qb,qo,none⟩=false)(k:Nat)(hk:l.length=k+1)(hl:l.length≤900)(hh:En.Hp l l.length)(ht:(En.nth l 0).time≤t) :
  Calls Tryz.prog 103 #[.pointer (some ⟨qb,qo,none⟩),.int .i64 t] w (TakeEnd base qb qo g cap l w):=by
 have hlt:qb < w.heap.size:=World.block_lt_of_cell? w ⟨qb,qo,none⟩ h.cell
 have hn:=h.row.len
 have hlp:0 < l.length:=by omega
 obtain⟨b1,o1,hb,hbz,d0,d1,d2⟩:=EvsAt.get h.row.evs hlp
 cases hb
 rw[En.nth_eq hlp] at ht
 have hx:l[0]=En.nth l 0:=(En.nth_eq hlp).symm
 rw[hx] at ht d0 d1 d2
 generalize hxx:En.nth l 0=x at *
 have hnI:((n:Int) == 0)=false:=by simp;omega
 have hn0:(0:Int) < (n:Int):=by omega
 simp only[Nat.zero_mul,Nat.add_zero] at d0 d1 d2
 have hca:∀o,(w.alloc o).cell? ⟨qb,qo,none⟩=some (.slice (some ⟨g,0,none⟩) n cap):=fun o=>(World.cell?_alloc_lt w o ⟨qb,qo,none⟩ hlt).trans h.cell
 have e2:∀o,(w.alloc o).cell? ⟨g,2,none⟩=some (.int .i64 x.time):=fun o=>(World.cell?_alloc_lt w o ⟨g,2,none⟩ hbz).trans d2
 have ht':decide (t < x.time)=false:=decide_eq_false (by omega)
 have HP:=hid (fun o=>hPop_any base qb qo g n cap l (w.alloc o) ⟨hca o,World.ownsRow.alloc h.row o,h.ne⟩ ((World.frozen?_alloc_old w o ⟨qb,qo,none⟩ (Nat.ne_of_lt hlt)).trans hf) k hk hl hh)
 have hta:=Tryz.assertEv (.agg #[.int .i64 x.off,.int .i32 x.kind,.int .i64 x.time])
 have HX:=hid hxx
 have H:=hid h
 clear h hxx hx hn
 go_enter Tryz.func103,Tryz.ntmps103
 go_wp2_with (go_at_call 165;refine (HP.out _).mono ?_;rintro e w1 ⟨rest,h1,h2,rfl,h3,h4⟩;rw[HX.out];obtain⟨r0,r1,r2,rf⟩:=three_of ((h4.block w.heap.size (by simp) (by omega) (by intro e;cases e;omega)).trans (new_at rfl));have rf0:=rf 0;have rf1:=rf 1;have rf2:=rf 2;have H1:=hid (And.intro h1 (And.intro h2 (And.intro h3 h4)));clear h1 h2 h3 h4 rf)
 have hends:TakeEnd base qb qo g cap l w (.returned (.tuple #[.agg #[.int .i64 x.off,.int .i32 x.kind,.int .i64 x.time],.bool true])) (((w1.setCell ⟨w.heap.size,0,none⟩ (.int .i64 x.off)).setCell ⟨w.heap.size,1,none⟩ (.int .i32 x.kind)).setCell ⟨w.heap.size,2,none⟩ (.int .i64 x.time)):=by
  refine⟨rest,?_,H1.out.2.1,by rw[HX.out],((H1.out.2.2.1.setNew (by omega) (by omega) _ _).setNew (by omega) (by omega) _ _).setNew (by omega) (by omega) _ _,(((H1.out.2.2.2.ofAlloc hlt).setNew (Nat.le_refl _) hlt _ _).setNew (Nat.le_refl _) hlt _ _).setNew (Nat.le_refl _) hlt _ _⟩
  exact H1.out.1
 exact bodyPost_ret (v:=.tuple #[.agg #[.int .i64 x.off,.int .i32 x.kind,.int .i64 x.time],.bool true]) (by simp[results,Tryz.results103,go_sem,r0,r1,r2]) rfl hends
theorem qHas1_any (x:En.Ev)(of0:Int)(kb:Nat)(w:World)(hc:w.cell? ⟨kb,0,none⟩=some (.int .i64 of0)) :
  Calls Tryz.prog 231 #[.agg #[.int .i64 x.off,.int .i32 x.kind,.int .i64 x.time],.pointer (some ⟨kb,0,none⟩)] w fun e w'=>e=.returned (.bool (x.off == of0))∧Below w.heap.size w w':=by
 have hlt:kb < w.heap.size:=World.block_lt_of_cell? w ⟨kb,0,none⟩ hc
 have hca:∀o,(w.alloc o).cell? ⟨kb,0,none⟩=some (.int .i64 of0):=fun o=>(World.cell?_alloc_lt w o ⟨kb,0,none⟩ hlt).trans hc
 go_enter Tryz.func231,Tryz.ntmps231
 go_wp2
 go_ret
 exact⟨rfl,(Below.refl _ _).alloc (Nat.le_refl _) _⟩
theorem indexQ_any (F:Nat→Prop)(v:Value)(l:List En.Ev)(of0:Int)(kb:Nat)(w:World)(h:EvsAt F w v l)(hl:l.length≤1000000)(hc:w.cell? ⟨kb,0,none⟩=some (.int .i64 of0)) :
  Calls Tryz.prog 259 #[v,.func (.func 231) #[] #[.pointer (some ⟨kb,0,none⟩)]] w fun e w'=>∃i:Int,e=.returned (.int .i64 i)∧decide (0≤i)=(l.any fun x=>x.off == of0)∧-1≤i∧i≤1000000∧Below w.heap.size w w':=by
 obtain⟨ao,cap,rfl,-,-⟩:=RowAt.slice h
 have hlt:kb < w.heap.size:=World.block_lt_of_cell? w ⟨kb,0,none⟩ hc
 have H:=hid h
 clear h
 go_enter Tryz.func259,Tryz.ntmps259
 go_wp2
 go_loopw [8] (fun i wr=>∃k:Nat,k≤l.length∧i=.int .i64 k∧Hid ((l.drop k).any (fun x=>x.off == of0)=(l.any fun x=>x.off == of0)∧Below w.heap.size w wr)) (fun i _=>l.length - (intOf i).toNat)
 case atStart=>exact⟨0,Nat.zero_le _,rfl,rfl,Below.refl _ _⟩
 case round=>
  obtain⟨k,hk,rfl,hr⟩:=hrel
  by_cases hlt2:k < l.length
  ·obtain⟨b1,o1,hb,hb1,d0,d1,d2⟩:=EvsAt.get (H.out.below hr.out.2) hlt2
   subst hb
   have hd:(l.drop k).any (fun x=>x.off == of0)=((l[k].off == of0) || (l.drop (k+1)).any fun x=>x.off == of0):=by rw[List.drop_eq_getElem_cons hlt2];rfl
   rw[hr.out.1] at hd
   have hk':(k:Int) < (l.length:Int):=by omega
   have HP:=hid (qHas1_any l[k] of0 kb wr ((cell_bel hr.out.2 ⟨kb,0,none⟩ hlt).trans hc))
   generalize l[k]=x at *
   cases he:(x.off == of0)
   ·rw[he] at HP hd
    have HD:=hid hd
    clear hd he
    go_wp2_with (go_at_call 231;refine HP.out.mono ?_;rintro e w1 ⟨rfl,hb⟩;have HB:=hid (hr.out.2.trans (hb.mono hr.out.2.size));clear hb)
    go_roundw
    case rel=>exact⟨k+1,by omega,by go_num,by rw[HD.out];rfl,HB.out⟩
    case measure=>simp[intOf];omega
   ·rw[he] at HP hd
    have HD:=hid hd
    clear hd he
    go_wp2_with (go_at_call 231;refine HP.out.mono ?_;rintro e w1 ⟨rfl,hb⟩;have HB:=hid (hr.out.2.trans (hb.mono hr.out.2.size));clear hb)
    go_ret
    exact⟨k,rfl,by rw[HD.out];simp,by omega,by omega,HB.out⟩
  ·go_wp2
   go_ret
   refine⟨-1,rfl,?_,by omega,by omega,hr.out.2⟩
   have:=hr.out.1
   rw[List.drop_eq_nil_of_le (by omega)] at this
   rw[← this]
   rfl
theorem containsQ_any (F:Nat→Prop)(v:Value)(l:List En.Ev)(of0:Int)(kb:Nat)(w:World)(h:EvsAt F w v l)(hl:l.length≤1000000)(hc:w.cell? ⟨kb,0,none⟩=some (.int .i64 of0)) :
  Calls Tryz.prog 230 #[v,.func (.func 231) #[] #[.pointer (some ⟨kb,0,none⟩)]] w fun e w'=>e=.returned (.bool (l.any fun x=>x.off == of0))∧Below w.heap.size w w':=by
 have HI:=hid (indexQ_any F v l of0 kb w h hl hc)
 clear h
 go_enter Tryz.func230,Tryz.ntmps230
 go_wp2_with (go_at_call 259;refine HI.out.mono ?_;rintro e w1 ⟨i,rfl,h1,h2,h3,h4⟩;have H1:=hid (And.intro h1 h4);clear h1 h4)
 go_ret
 exact⟨by rw[← H1.out.1];rfl,H1.out.2⟩
theorem qHas_any (F:Nat→Prop)(v:Value)(l:List En.Ev)(of0:Int)(w:World)(h:EvsAt F w v l)(hl:l.length≤1000000) :
  Calls Tryz.prog 187 #[v,.int .i64 of0] w fun e w'=>e=.returned (.bool (l.any fun x=>x.off == of0))∧Below w.heap.size w w':=by
 obtain⟨ao,cap,rfl,-,-⟩:=RowAt.slice h
 have hmf:∀(fn:Fn) (first cap:Array Value) (w:World),(Instr.makeFunc fn first cap).run Tryz.prog w=.ok (.func fn first cap) w:=fun _ _ _ _=>rfl
 have HC:=hid (fun o hc=>containsQ_any F (.slice ao l.length cap) l of0 w.heap.size (w.alloc o) (h.below ((Below.refl _ _).alloc (Nat.le_refl _) _)) hl hc)
 clear h
 go_enter Tryz.func187,Tryz.ntmps187
 go_wp2_with (go_at_call 230;refine (HC.out _ (by rw[World.cell?_alloc_at _ _ _ _ (by simp)];rfl)).mono ?_;rintro e w1 ⟨rfl,hb⟩;have HB:=hid hb;clear hb)
 go_ret
 exact⟨rfl,((Below.refl _ w).alloc (Nat.le_refl _) _).trans (HB.out.mono (by simp))⟩
end Go.Proofs.YtfldcmdhneegmaaGreatDoor

import Derived.Laws.AppendOwnNone
import Derived.BigQuiet
import Derived.Deep.QuietTactic
import Derived.Test.YtfldcmdhneegmaaGreatDoorX00
import Derived.BigRegion
set_option maxHeartbeats 4000000
set_option maxRecDepth 1000000
namespace Go.Proofs.YtfldcmdhneegmaaGreatDoor
open Go.RowKit Go.Lib
def RowAt (F:Nat→Prop)(w:World)(v:Value)(k n:Nat)(xs:List Value):Prop:=
 xs.length=n * k∧((v=.slice none 0 0∧n=0) ∨
  ∃b o cap,v=.slice (some ⟨b,o,none⟩) n cap∧F b∧b < w.heap.size∧n≤cap∧cap≤maxLen∧∀(j:Nat) (u:Value),xs[j]?=some u→w.cell? ⟨b,o+j,none⟩=some u)
theorem RowAt.mono {F G:Nat→Prop}{w:World}{v:Value}{k n:Nat}{xs:List Value}(h:RowAt F w v k n xs)(hFG:∀b,b < w.heap.size→F b→G b):RowAt G w v k n xs:=by
 obtain⟨h1,h2⟩:=h
 refine⟨h1,?_⟩
 rcases h2 with h2 | ⟨b,o,cap,hv,hF,hb,r⟩
 ·exact Or.inl h2
 ·exact Or.inr ⟨b,o,cap,hv,hFG b hb hF,hb,r⟩
theorem RowAt.frame {F:Nat→Prop}{w w':World}{v:Value}{k n:Nat}{xs:List Value}(h:RowAt F w v k n xs)(hs:w.heap.size≤w'.heap.size)(hF:∀b,b < w.heap.size→F b→w'.heap[b]?=w.heap[b]?):RowAt F w' v k n xs:=by
 obtain⟨h1,h2⟩:=h
 refine⟨h1,?_⟩
 rcases h2 with h2 | ⟨b,o,cap,hv,hFb,hb,hn,hc,r⟩
 ·exact Or.inl h2
 ·refine Or.inr ⟨b,o,cap,hv,hFb,by omega,hn,hc,fun j u hj=>?_⟩
  rw[World.cell?_of_block (w:=w) (w':=w') (a:=⟨b,o+j,none⟩) (hF b hb hFb)]
  exact r j u hj
theorem RowAt.below {F:Nat→Prop}{w w':World}{v:Value}{k n:Nat}{xs:List Value}(h:RowAt F w v k n xs)(hb:Below w.heap.size w w'):RowAt F w' v k n xs:=
 h.frame hb.size (fun b hb' _=>hb.block b hb')
theorem RowAt.slice {F:Nat→Prop}{w:World}{v:Value}{k n:Nat}{xs:List Value}(h:RowAt F w v k n xs):∃ao cap,v=.slice ao n cap∧n≤cap∧cap≤maxLen:=by
 rcases h.2 with ⟨rfl,rfl⟩ | ⟨b,o,cap,rfl,_,_,h1,h2,_⟩
 ·exact⟨_,_,rfl,by omega,by unfold maxLen;omega⟩
 ·exact⟨_,_,rfl,h1,h2⟩
theorem RowAt.ofOwn {base:Nat}{w:World}{e:TypeId}{v:Value}{k n:Nat}{xs:List Value}(h:w.ownsRow base e k v n xs):RowAt (fun b=>base≤b) w v k n xs:=by
 refine⟨h.1,?_⟩
 rcases h.2 with h2 | ⟨g,cap,cur,hv,hg,hb,hn,hc,hs,ht⟩
 ·exact Or.inl h2
 ·refine Or.inr ⟨g,0,cap,hv,hg,lt_of_block hb,hn,hc,fun j u hj=>?_⟩
  have:=h.cells (g:=g) (by rw[hv];rfl) j u hj
  by_cases h0:j=0
  ·subst h0;simpa [Addr.add] using this
  ·simpa [Addr.add,h0] using this
theorem RowAt.at {F:Nat→Prop}{w:World}{v:Value}{k n:Nat}{xs:List Value}(h:RowAt F w v k n xs){i:Nat}(hi:i < n):∃b o cap,v=.slice (some ⟨b,o,none⟩) n cap∧∀(j:Nat) (u:Value),j < k→xs[i * k+j]?=some u→w.cell? ⟨b,o+(i * k+j),none⟩=some u:=by
 rcases h.2 with ⟨rfl,rfl⟩ | ⟨b,o,cap,rfl,_,_,h1,h2,r⟩
 ·omega
 ·exact⟨b,o,cap,rfl,fun j u _ hu=>r _ u hu⟩
theorem bel_drewN {B:Nat}{a w:World}(h:Below B a w)(n:Nat):Below B a (w.drewN n):=h.trans ⟨rfl,rfl,rfl,Nat.le_refl _,fun _ _=>rfl⟩
theorem RowAt.sliced {F:Nat→Prop}{w:World}{ao:Option Addr}{k n cap:Nat}{xs:List Value}(h:RowAt F w (.slice ao n cap) k n xs)(lo hi:Nat)(h1:lo≤hi)(h2:hi≤n) :
  RowAt F w (Go.sliced ao lo hi cap k) k (hi - lo) ((xs.drop (lo * k)).take ((hi - lo) * k)):=by
 obtain⟨hl,hr⟩:=h
 have hle:(hi - lo) * k≤n * k - lo * k:=by
  rw[← Nat.sub_mul]
  exact Nat.mul_le_mul_right k (by omega)
 refine⟨by rw[List.length_take,List.length_drop,hl];omega,?_⟩
 rcases hr with ⟨he,-⟩ | ⟨b,o,cap',he,hF,hb,hn,hc,r⟩
 ·cases he
  left
  obtain rfl:hi=0:=by omega
  obtain rfl:lo=0:=by omega
  exact⟨rfl,rfl⟩
 ·cases he
  right
  unfold Go.sliced
  by_cases hcl:cap=lo
  ·rw[if_pos hcl]
   refine⟨b,o,_,rfl,hF,hb,by omega,by omega,fun j u hj=>?_⟩
   have:hi - lo=0:=by omega
   rw[this] at hj
   simp at hj
  ·rw[if_neg hcl]
   refine⟨b,o+lo * k,cap - lo,?_,hF,hb,by omega,by omega,fun j u hj=>?_⟩
   ·by_cases h0:lo * k=0
    ·simp[Addr.add,h0]
    ·simp[Addr.add,h0]
   ·have hj':xs[lo * k+j]?=some u:=by
     rw[List.getElem?_take] at hj
     split at hj
     ·rwa [List.getElem?_drop] at hj
     ·cases hj
    have:=r _ u hj'
    rwa [← Nat.add_assoc] at this
theorem wpList_append_row {P:Program}{w:World}{ops:Array Oper}{rest:List Oper}{o:Oper}{a:Act}{Q:Exit→Act→World→Prop}(hgd:o.guard=none)(s x:Operand)(t:TypeId)
  (ho:o.op=.call { callee:=.builtin .append,args:=#[s,x],argTypes:=#[t,t] })
  (base:Nat) (e:TypeId) (i:TypeInfo) (z:Value) (size bytes:Nat) (ht:P.underlying t=some (.slice e)) (hi:P.info? e=some i) (hz:i.zero=some z)
  (hsize:i.size=size) (hby:i.bytes=bytes) (hzs:z.cells.size=size) (hsz:0 < size)
  (v:Value) (n:Nat) (xs:List Value) (hs:a.eval s=v) (hown:w.ownsRow base e size v n xs)
  (F:Nat→Prop) (vx:Value) (m:Nat) (news:List Value) (hx:a.eval x=vx) (hrow:RowAt F w vx size m news) (h1:∀u∈news,u.oneCell'=true)
  (h63:n+m≤maxLen) (hbytes:(n+m) * bytes≤140737488355328) (hbase:base≤w.heap.size)
  (h:∀v' w',w'.ownsRow base e size v' (n+m) (xs++news)→w.grownBy w' v.ownBlock→wpList P ops Q rest (a.put o.dst v') w'):wpList P ops Q (o::rest) a w:=by
 obtain⟨hl,hr⟩:=hrow
 rcases hr with ⟨rfl,rfl⟩ | ⟨b,o',cap,rfl,_,_,_,_,r⟩
 ·have hn:news=[]:=List.eq_nil_of_length_eq_zero (by simpa using hl)
  subst hn
  refine wpList_append_own_none hgd s x t ho base e i size ht hi v n xs hs hown hx ?_
  exact h v w (by simpa using hown) ⟨rfl,rfl,rfl,Nat.le_refl _,fun _ _ _=>rfl⟩
 ·refine wpList_append_own w hgd s x t ho base e i z size bytes ht hi hz hsize hby hzs hsz v n xs hs hown ⟨b,o',none⟩ m cap news hx hl ?_ h1 h63 hbytes hbase (fun v' w' h2 h3 _=>h v' w' h2 h3)
  intro j u hj
  have:=r j u hj
  by_cases h0:j=0
  ·subst h0;simpa [Addr.add] using this
  ·simpa [Addr.add,h0] using this
theorem step_append_row {P:Program}{w:World}{ops:Array Oper}{o:Oper}{a:Act}{K:Act→World→Prop}{Q:Exit→Act→World→Prop}{E:Prop}(hgd:o.guard=none)(s x:Operand)(t:TypeId)
  (ho:o.op=.call { callee:=.builtin .append,args:=#[s,x],argTypes:=#[t,t] })
  (base:Nat) (e:TypeId) (i:TypeInfo) (z:Value) (size bytes:Nat) (ht:P.underlying t=some (.slice e)) (hi:P.info? e=some i) (hz:i.zero=some z)
  (hsize:i.size=size) (hby:i.bytes=bytes) (hzs:z.cells.size=size) (hsz:0 < size)
  (v:Value) (n:Nat) (xs:List Value) (hs:a.eval s=v) (hown:w.ownsRow base e size v n xs)
  (F:Nat→Prop) (vx:Value) (m:Nat) (news:List Value) (hx:a.eval x=vx) (hrow:RowAt F w vx size m news) (h1:∀u∈news,u.oneCell'=true)
  (h63:n+m≤maxLen) (hbytes:(n+m) * bytes≤140737488355328) (hbase:base≤w.heap.size)
  (h:∀v' w',w'.ownsRow base e size v' (n+m) (xs++news)→w.grownBy w' v.ownBlock→K (a.put o.dst v') w') :
  if Region.wanted o (yielded ops a.tmps)=true then Oper.wp P o a w K Q else E:=by
 have hw:Region.wanted o (yielded ops a.tmps)=true:=by simp[Region.wanted,hgd]
 rw[if_pos hw]
 obtain⟨hl,hr⟩:=hrow
 rcases hr with ⟨rfl,rfl⟩ | ⟨b,o',cap,rfl,_,_,_,_,r⟩
 ·have hn:news=[]:=List.eq_nil_of_length_eq_zero (by simpa using hl)
  subst hn
  have hrun:=run_append_owned_none (P:=P) (w:=w) base t o.type e i size ht hi v n xs hown
  unfold Oper.wp
  simp[execOp,ho,resolve,invoke,builtin,hs,hx,hrun,Result.andThen]
  exact h v w (by simpa using hown) ⟨rfl,rfl,rfl,Nat.le_refl _,fun _ _ _=>rfl⟩
 ·refine wp_append_own w s x t ho base e i z size bytes ht hi hz hsize hby hzs hsz v n xs hs hown ⟨b,o',none⟩ m cap news hx hl ?_ h1 h63 hbytes hbase (fun v' w' h2 h3 _=>h v' w' h2 h3)
  intro j u hj
  have:=r j u hj
  by_cases h0:j=0
  ·subst h0;simpa [Addr.add] using this
  ·simpa [Addr.add,h0] using this
theorem new_at {w:World}{o:Obj}{g:Nat}(h:g=w.heap.size):(w.alloc o).heap[g]?=some o:=by subst h;exact heap_alloc_new w o
theorem cell_bel {B:Nat}{a w:World}(h:Below B a w)(x:Addr)(hx:x.block < B):w.cell? x=a.cell? x:=World.cell?_of_block (h.block _ hx)
theorem own_empty {W:World}{g base:Nat}{e:TypeId}{size:Nat}(h:W.heap[g]?=some (.cells #[] e (0,0)))(hb:base≤g):W.ownsRow base e size (.slice (some ⟨g,0,none⟩) 0 0) 0 []:=
 ⟨by simp,Or.inr ⟨g,0,#[],rfl,hb,h,Nat.le_refl _,by unfold maxLen;omega,by simp,by simp⟩⟩
theorem one_row {W:World}{g:Nat}{e:TypeId}{x:Value}(h:W.heap[g]?=some (.cells #[x] e (0,0))):RowAt (fun _=>True) W (.slice (some ⟨g,0,none⟩) 1 1) 1 1 [x]:=by
 refine⟨rfl,Or.inr ⟨g,0,1,rfl,trivial,lt_of_block h,Nat.le_refl _,by unfold maxLen;omega,fun j u hj=>?_⟩⟩
 match j,hj with
 | 0,hj=>simp at hj;subst hj;simp[World.cell?,h]
theorem three_row {W:World}{g:Nat}{e:TypeId}{x y z:Value}(h:W.heap[g]?=some (.cells #[x,y,z] e (0,0))):RowAt (fun _=>True) W (.slice (some ⟨g,0,none⟩) 1 1) 3 1 [x,y,z]:=by
 refine⟨rfl,Or.inr ⟨g,0,1,rfl,trivial,lt_of_block h,Nat.le_refl _,by unfold maxLen;omega,fun j u hj=>?_⟩⟩
 match j,hj with
 | 0,hj=>simp at hj;subst hj;simp[World.cell?,h]
 | 1,hj=>simp at hj;subst hj;simp[World.cell?,h]
 | 2,hj=>simp at hj;subst hj;simp[World.cell?,h]
def intCells (xs:List Int):List Value:=xs.map (Value.int .i64)
def IntsAt (F:Nat→Prop)(w:World)(v:Value)(xs:List Int):Prop:=RowAt F w v 1 xs.length (intCells xs)
theorem IntsAt.below {F:Nat→Prop}{w w':World}{v:Value}{xs:List Int}(h:IntsAt F w v xs)(hb:Below w.heap.size w w'):IntsAt F w' v xs:=RowAt.below h hb
theorem IntsAt.get {F:Nat→Prop}{w:World}{ao:Option Addr}{n cap:Nat}{xs:List Int}(h:IntsAt F w (.slice ao n cap) xs){i:Nat}(hi:i < xs.length):∃b o,ao=some ⟨b,o,none⟩∧w.cell? ⟨b,o+i,none⟩=some (.int .i64 xs[i]):=by
 rcases h.2 with ⟨_,h0⟩ | ⟨b,o,cap',he,_,_,_,_,r⟩
 ·omega
 ·cases he
  refine⟨b,o,rfl,?_⟩
  apply r i
  simp[intCells,hi]
theorem IntsAt.len {F:Nat→Prop}{w:World}{ao:Option Addr}{n cap:Nat}{xs:List Int}(h:IntsAt F w (.slice ao n cap) xs):n=xs.length:=by
 rcases h.2 with ⟨he,h0⟩ | ⟨b,o,cap',he,_⟩
 ·cases he;exact h0.symm
 ·cases he;rfl
theorem IntsAt.maxLen {F:Nat→Prop}{w:World}{v:Value}{xs:List Int}(h:IntsAt F w v xs):xs.length≤9223372036854775807:=by
 obtain⟨ao,cap,_,h1,h2⟩:=RowAt.slice h
 unfold Go.maxLen at h2
 omega
abbrev RV:=En.Rn × Value
def runCells (l:List RV):List Value:=l.flatMap fun x=>[.int .i64 x.1.step,x.2,.int .i64 x.1.first]
theorem runCells_length (l:List RV):(runCells l).length=l.length * 3:=by
 induction l with
 | nil=>rfl
 | cons x r ih=>simp[runCells] at ih ⊢;omega
theorem runCells_append (l m:List RV):runCells (l++m)=runCells l++runCells m:=by simp[runCells]
theorem runCells_drop (l:List RV)(n:Nat):(runCells l).drop (n * 3)=runCells (l.drop n):=by
 induction n generalizing l with
 | zero=>simp
 | succ n ih=>
  cases l with
  | nil=>simp[runCells]
  | cons x r=>
   have:=ih r
   simp only[runCells,List.flatMap_cons,List.drop_succ_cons] at this ⊢
   rw[show (n+1) * 3=n * 3+3 by omega,← this]
   rfl
theorem runCells_take (l:List RV)(n:Nat):(runCells l).take (n * 3)=runCells (l.take n):=by
 induction n generalizing l with
 | zero=>simp[runCells]
 | succ n ih=>
  cases l with
  | nil=>simp[runCells]
  | cons x r=>
   have:=ih r
   simp only[runCells,List.flatMap_cons,List.take_succ_cons] at this ⊢
   rw[show (n+1) * 3=n * 3+3 by omega,← this]
   rfl
theorem runCells_get (l:List RV)(i:Nat)(h:i < l.length):(runCells l)[i * 3+0]?=some (.int .i64 l[i].1.step)∧(runCells l)[i * 3+1]?=some l[i].2∧(runCells l)[i * 3+2]?=some (.int .i64 l[i].1.first):=by
 have hd:(runCells l).drop (i * 3)=runCells (l[i]::l.drop (i+1)):=by rw[runCells_drop,List.drop_eq_getElem_cons h]
 refine⟨?_,?_,?_⟩
 all_goals
  rw[← List.getElem?_drop,hd]
  rfl
structure RunsAt (F:Nat→Prop)(w:World)(v:Value)(l:List RV):Prop where
 row:RowAt F w v 3 l.length (runCells l)
 offs:∀x∈l,IntsAt F w x.2 x.1.offs
theorem RunsAt.mono {F G:Nat→Prop}{w:World}{v:Value}{l:List RV}(h:RunsAt F w v l)(hFG:∀b,b < w.heap.size→F b→G b):RunsAt G w v l:=
 ⟨h.row.mono hFG,fun x hx=>RowAt.mono (h.offs x hx) hFG⟩
theorem RunsAt.frame {F:Nat→Prop}{w w':World}{v:Value}{l:List RV}(h:RunsAt F w v l)(hs:w.heap.size≤w'.heap.size)(hF:∀b,b < w.heap.size→F b→w'.heap[b]?=w.heap[b]?):RunsAt F w' v l:=
 ⟨h.row.frame hs hF,fun x hx=>RowAt.frame (h.offs x hx) hs hF⟩
theorem RunsAt.below {F:Nat→Prop}{w w':World}{v:Value}{l:List RV}(h:RunsAt F w v l)(hb:Below w.heap.size w w'):RunsAt F w' v l:=
 h.frame hb.size (fun b hb' _=>hb.block b hb')
theorem RunsAt.get {F:Nat→Prop}{w:World}{ao:Option Addr}{n cap:Nat}{l:List RV}(h:RunsAt F w (.slice ao n cap) l){i:Nat}(hi:i < l.length) :
  ∃b o,ao=some ⟨b,o,none⟩∧b < w.heap.size∧w.cell? ⟨b,o+i * 3,none⟩=some (.int .i64 l[i].1.step)∧w.cell? ⟨b,o+i * 3+1,none⟩=some l[i].2∧w.cell? ⟨b,o+i * 3+2,none⟩=some (.int .i64 l[i].1.first):=by
 rcases h.row.2 with ⟨_,h0⟩ | ⟨b,o,cap',he,_,hb,_,_,r⟩
 ·omega
 ·cases he
  obtain⟨g0,g1,g2⟩:=runCells_get l i hi
  exact⟨b,o,rfl,hb,r _ _ g0,r _ _ g1,r _ _ g2⟩
theorem RunsAt.slice {F:Nat→Prop}{w:World}{v:Value}{l:List RV}(h:RunsAt F w v l):∃ao cap,v=.slice ao l.length cap∧l.length≤cap∧cap≤maxLen:=RowAt.slice h.row
theorem oneCell_runs {F:Nat→Prop}{w:World}(l:List RV)(h:∀x∈l,IntsAt F w x.2 x.1.offs):∀u∈runCells l,u.oneCell'=true:=by
 intro u hu
 simp only[runCells,List.mem_flatMap] at hu
 obtain⟨x,hx,hu⟩:=hu
 obtain⟨ao,cap,hv,_⟩:=RowAt.slice (h x hx)
 rw[hv] at hu
 simp at hu
 rcases hu with rfl | rfl | rfl<;>rfl
def evCells (l:List En.Ev):List Value:=l.flatMap fun x=>[.int .i64 x.off,.int .i32 x.kind,.int .i64 x.time]
theorem evCells_length (l:List En.Ev):(evCells l).length=l.length * 3:=by
 induction l with
 | nil=>rfl
 | cons x r ih=>simp[evCells] at ih ⊢;omega
theorem evCells_drop (l:List En.Ev)(n:Nat):(evCells l).drop (n * 3)=evCells (l.drop n):=by
 induction n generalizing l with
 | zero=>simp
 | succ n ih=>
  cases l with
  | nil=>simp[evCells]
  | cons x r=>
   have:=ih r
   simp only[evCells,List.flatMap_cons,List.drop_succ_cons] at this ⊢
   rw[show (n+1) * 3=n * 3+3 by omega,← this]
   rfl
theorem evCells_take (l:List En.Ev)(n:Nat):(evCells l).take (n * 3)=evCells (l.take n):=by
 induction n generalizing l with
 | zero=>simp[evCells]
 | succ n ih=>
  cases l with
  | nil=>simp[evCells]
  | cons x r=>
   have:=ih r
   simp only[evCells,List.flatMap_cons,List.take_succ_cons] at this ⊢
   rw[show (n+1) * 3=n * 3+3 by omega,← this]
   rfl
theorem evCells_get (l:List En.Ev)(i:Nat)(h:i < l.length):(evCells l)[i * 3+0]?=some (.int .i64 l[i].off)∧(evCells l)[i * 3+1]?=some (.int .i32 l[i].kind)∧(evCells l)[i * 3+2]?=some (.int .i64 l[i].time):=by
 have hd:(evCells l).drop (i * 3)=evCells (l[i]::l.drop (i+1)):=by rw[evCells_drop,List.drop_eq_getElem_cons h]
 refine⟨?_,?_,?_⟩
 all_goals
  rw[← List.getElem?_drop,hd]
  rfl
theorem oneCell_evs (l:List En.Ev):∀u∈evCells l,u.oneCell'=true:=by
 intro u hu
 simp only[evCells,List.mem_flatMap] at hu
 obtain⟨x,hx,hu⟩:=hu
 simp at hu
 rcases hu with rfl | rfl | rfl<;>rfl
theorem oneCell_ints (l:List Int):∀u∈intCells l,u.oneCell'=true:=by
 intro u hu
 simp only[intCells,List.mem_map] at hu
 obtain⟨x,hx,rfl⟩:=hu
 rfl
def EvsAt (F:Nat→Prop)(w:World)(v:Value)(l:List En.Ev):Prop:=RowAt F w v 3 l.length (evCells l)
theorem EvsAt.below {F:Nat→Prop}{w w':World}{v:Value}{l:List En.Ev}(h:EvsAt F w v l)(hb:Below w.heap.size w w'):EvsAt F w' v l:=RowAt.below h hb
theorem EvsAt.get {F:Nat→Prop}{w:World}{ao:Option Addr}{n cap:Nat}{l:List En.Ev}(h:EvsAt F w (.slice ao n cap) l){i:Nat}(hi:i < l.length) :
  ∃b o,ao=some ⟨b,o,none⟩∧b < w.heap.size∧w.cell? ⟨b,o+i * 3,none⟩=some (.int .i64 l[i].off)∧w.cell? ⟨b,o+i * 3+1,none⟩=some (.int .i32 l[i].kind)∧w.cell? ⟨b,o+i * 3+2,none⟩=some (.int .i64 l[i].time):=by
 rcases h.2 with ⟨_,h0⟩ | ⟨b,o,cap',he,_,hb,_,_,r⟩
 ·omega
 ·cases he
  obtain⟨g0,g1,g2⟩:=evCells_get l i hi
  exact⟨b,o,rfl,hb,r _ _ g0,r _ _ g1,r _ _ g2⟩
theorem drews (w:World)(a b:Nat):∃q,(w.drewN a).drewN b=w.drewN q:=⟨a+b,by rw[World.drewN_drewN]⟩
theorem drews3 (w:World)(a b c:Nat):∃q,((w.drewN a).drewN b).drewN c=w.drewN q:=⟨a+(b+c),by rw[World.drewN_drewN,World.drewN_drewN]⟩
def Dr (a w:World):Prop:=∃q,w=a.drewN q
theorem Dr.refl (a:World):Dr a a:=⟨0,rfl⟩
theorem Dr.step {a w:World}(h:Dr a w)(n:Nat):Dr a (w.drewN n):=by obtain⟨q,rfl⟩:=h;exact⟨q+n,by rw[World.drewN_drewN]⟩
theorem Dr.below {a w:World}(h:Dr a w)(B:Nat):Below B a w:=by obtain⟨q,rfl⟩:=h;exact bel_drewN (Below.refl _ _) q
theorem Dr.cell {a w:World}(h:Dr a w)(x:Addr):w.cell? x=a.cell? x:=by obtain⟨q,rfl⟩:=h;rfl
theorem quiet_two {P:Program}{f:FuncId}{args:Array Value}{w:World}{q n:Nat}{v:Value}
  (h:Calls P f args (w.drewN (q+n)) fun e w'=>e=.returned v∧∃m,w'=(w.drewN (q+n)).drewN m):Calls P f args (w.drewN (q+n)) fun e w''=>e=.returned v∧∃m,w''=w.drewN (q+m):=
 h.mono fun _ _ ⟨he,m,hm⟩=>⟨he,n+m,by rw[hm,World.drewN_drewN,Nat.add_assoc]⟩
theorem rFar_any (t f:Int)(w:World) :
  Calls Tryz.prog 71 #[.int .i64 t,.int .i64 f] w fun e w'=>e=.returned (.int .u64 (En.far t f))∧w'=w:=by
 go_enter Tryz.func71,Tryz.ntmps71
 go_wp2
 go_ret
 refine⟨?_,rfl⟩
 unfold En.far
 congr 2
 simp[IntKind.wrap,IntKind.bits,IntKind.signed]
theorem rSame_any (F:Nat→Prop)(va vb:Value)(a b:List Int)(w:World)(ha:IntsAt F w va a)(hb:IntsAt F w vb b) :
  Calls Tryz.prog 50 #[va,vb] w fun e w'=>e=.returned (.bool (decide (a=b)))∧∃q,w'=w.drewN q:=by
 obtain⟨aa,ca,rfl,-,-⟩:=RowAt.slice ha
 obtain⟨ab,cb,rfl,-,-⟩:=RowAt.slice hb
 have hma:=ha.maxLen
 have hmb:=hb.maxLen
 have HA:=hid ha
 have HB:=hid hb
 clear ha hb
 by_cases hl:a.length=b.length
 ·have hl':((a.length:Int) != (b.length:Int))=false:=by simp;omega
  have HL:=hid hl
  clear hl
  go_enter Tryz.func50,Tryz.ntmps50
  go_wp2
  go_loopw [5] (fun i wr=>∃k:Nat,k≤a.length∧i=.int .i64 k∧Hid (a.take k=b.take k∧∃q,wr=w.drewN q)) (fun i _=>a.length - (intOf i).toNat)
  case atStart=>exact⟨0,by omega,rfl,rfl,0,rfl⟩
  case round=>
   obtain⟨k,hk,rfl,hr⟩:=hrel
   obtain⟨q,rfl⟩:=hr.out.2
   by_cases hlt:k < a.length
   ·obtain⟨b1,o1,rfl,c1⟩:=HA.out.get hlt
    obtain⟨b2,o2,rfl,c2⟩:=HB.out.get (i:=k) (by rw[← HL.out];exact hlt)
    have hkb:k < b.length:=by rw[← HL.out];exact hlt
    by_cases he:a[k]=b[k]
    ·have he':(a[k] != b[k])=false:=by simpa using he
     have HE:=hid he
     clear he
     go_wp2
     go_quiet (fail)
     go_wp2
     go_roundw
     case rel=>
      refine⟨k+1,by omega,by go_num,?_,by first | exact drews3 _ _ _ _ | exact drews _ _ _ | exact⟨_,rfl⟩⟩
      rw[List.take_add_one,List.take_add_one,hr.out.1,List.getElem?_eq_getElem hlt,List.getElem?_eq_getElem hkb,HE.out]
     case measure=>simp[intOf];omega
    ·have he':(a[k] != b[k])=true:=by simpa using he
     have HE:=hid he
     clear he
     go_wp2
     go_quiet (fail)
     go_wp2
     go_ret
     refine⟨?_,by first | exact drews3 _ _ _ _ | exact drews _ _ _ | exact⟨_,rfl⟩⟩
     have:a≠b:=fun e=>HE.out (by subst e;rfl)
     simp[this]
   ·go_wp2
    go_ret
    refine⟨?_,q,rfl⟩
    have h1:=hr.out.1
    rw[List.take_of_length_le (by omega),List.take_of_length_le (by have:=HL.out;omega)] at h1
    simp[h1]
 ·have hl':((a.length:Int) != (b.length:Int))=true:=by simp;omega
  have HL:=hid hl
  clear hl
  go_enter Tryz.func50,Tryz.ntmps50
  go_wp2
  go_ret
  refine⟨?_,0,rfl⟩
  have:a≠b:=fun e=>HL.out (by rw[e])
  simp[this]
theorem before_split (p a b:List Int):En.before (p++a) (p++b)=En.before a b:=by
 induction p with
 | nil=>rfl
 | cons x p ih=>simp[En.before,ih]
theorem split_at (a:List Int)(k:Nat)(h:k < a.length):a=a.take k++a[k]::a.drop (k+1):=by
 rw[← List.drop_eq_getElem_cons h,List.take_append_drop]
theorem before_ne {a b:List Int}{k:Nat}(ht:a.take k=b.take k)(ha:k < a.length)(hb:k < b.length)(h:a[k]≠b[k]):En.before a b=decide (a[k] < b[k]):=by
 have e:En.before a b=En.before (a.take k++a[k]::a.drop (k+1)) (b.take k++b[k]::b.drop (k+1)):=by rw[← split_at a k ha,← split_at b k hb]
 rw[e,ht,before_split]
 simp[En.before,h]
theorem before_end {a b:List Int}{k:Nat}(ht:a.take k=b.take k)(h:k=a.length∧k≤b.length∨k≤a.length∧k=b.length):En.before a b=decide (a.length < b.length):=by
 have ea:a=a.take k++a.drop k:=(List.take_append_drop k a).symm
 have eb:b=b.take k++b.drop k:=(List.take_append_drop k b).symm
 have hq:En.before a b=En.before (a.drop k) (b.drop k):=by
  conv=>lhs;rw[ea,eb,ht]
  exact before_split _ _ _
 rw[hq]
 rcases h with ⟨h1,h2⟩ | ⟨h1,h2⟩
 ·rw[show a.drop k=[] from List.drop_eq_nil_of_le (by omega)]
  cases hb:b.drop k with
  | nil=>
   have:=congrArg List.length hb
   simp at this
   simp[En.before];omega
  | cons y t=>
   have:=congrArg List.length hb
   simp at this
   simp[En.before];omega
 ·rw[show b.drop k=[] from List.drop_eq_nil_of_le (by omega)]
  cases a.drop k<;>(simp[En.before];omega)
theorem rBefore_any (F:Nat→Prop)(va vb:Value)(a b:List Int)(w:World)(ha:IntsAt F w va a)(hb:IntsAt F w vb b) :
  Calls Tryz.prog 153 #[va,vb] w fun e w'=>e=.returned (.bool (En.before a b))∧∃q,w'=w.drewN q:=by
 obtain⟨aa,ca,rfl,-,-⟩:=RowAt.slice ha
 obtain⟨ab,cb,rfl,-,-⟩:=RowAt.slice hb
 have hma:=ha.maxLen
 have hmb:=hb.maxLen
 have HA:=hid ha
 have HB:=hid hb
 clear ha hb
 go_enter Tryz.func153,Tryz.ntmps153
 go_wp2
 go_loopw [5] (fun i wr=>∃k:Nat,k≤a.length∧k≤b.length∧i=.int .i64 k∧Hid (a.take k=b.take k∧∃q,wr=w.drewN q)) (fun i _=>a.length - (intOf i).toNat)
 case atStart=>exact⟨0,by omega,by omega,rfl,rfl,0,rfl⟩
 case round=>
  obtain⟨k,hk,hk2,rfl,hr⟩:=hrel
  obtain⟨q,rfl⟩:=hr.out.2
  by_cases hlt:k < a.length
  ·by_cases hlb:k < b.length
   ·obtain⟨b1,o1,rfl,c1⟩:=HA.out.get hlt
    obtain⟨b2,o2,rfl,c2⟩:=HB.out.get hlb
    by_cases he:a[k]=b[k]
    ·have he':(a[k] != b[k])=false:=by simpa using he
     have HE:=hid he
     clear he
     go_wp2
     go_quiet (fail)
     go_wp2
     go_roundw
     case rel=>
      refine⟨k+1,by omega,by omega,by go_num,?_,by first | exact drews3 _ _ _ _ | exact drews _ _ _ | exact⟨_,rfl⟩⟩
      rw[List.take_add_one,List.take_add_one,hr.out.1,List.getElem?_eq_getElem hlt,List.getElem?_eq_getElem hlb,HE.out]
     case measure=>simp[intOf];omega
    ·have he':(a[k] != b[k])=true:=by simpa using he
     have HE:=hid he
     clear he
     go_wp2
     go_quiet (fail)
     go_wp2
     go_quiet (fail)
     go_wp2
     go_ret
     refine⟨?_,by first | exact drews3 _ _ _ _ | exact drews _ _ _ | exact⟨_,rfl⟩⟩
     rw[before_ne hr.out.1 hlt hlb HE.out]
     rfl
   ·go_wp2
    go_ret
    refine⟨?_,q,rfl⟩
    rw[before_end hr.out.1 (Or.inr ⟨hk,by omega⟩)]
    simp
  ·go_wp2
   go_ret
   refine⟨?_,q,rfl⟩
   rw[before_end hr.out.1 (Or.inl ⟨by omega,hk2⟩)]
   simp
theorem Tryz.infoRun:(Tryz.prog.info? 92).map (fun i=>(i.zero,i.size,i.bytes))=some (some (.agg #[.int .i64 0,.slice none 0 0,.int .i64 0]),3,40):=by kernel_rfl
theorem drop_of_get {α:Type}{l:List α}{k:Nat}{x:α}(h:l[k]?=some x):l.drop k=x::l.drop (k+1):=by
 obtain⟨hk,rfl⟩:=List.getElem?_eq_some_iff.1 h
 exact List.drop_eq_getElem_cons hk
theorem take_of_get {α:Type}{l:List α}{k:Nat}{x:α}(h:l[k]?=some x):l.take (k+1)=l.take k++[x]:=by
 rw[List.take_add_one,h];rfl
theorem put_skip {l:List En.Rn}{r x:En.Rn}{k:Nat}(hk:l[k]?=some x)(hs:En.sameKey x r=false)(hl:En.lt x r=true):l.take k++En.put (l.drop k) r=l.take (k+1)++En.put (l.drop (k+1)) r:=by
 rw[drop_of_get hk,take_of_get hk]
 simp[En.put,hs,hl]
theorem put_here {l:List En.Rn}{r x:En.Rn}{k:Nat}(hk:l[k]?=some x)(hs:En.sameKey x r=true):l.take k++En.put (l.drop k) r=l:=by
 conv=>rhs;rw[← List.take_append_drop k l,drop_of_get hk]
 rw[drop_of_get hk]
 simp[En.put,hs]
theorem put_there {l:List En.Rn}{r x:En.Rn}{k:Nat}(hk:l[k]?=some x)(hs:En.sameKey x r=false)(hl:En.lt x r=false):l.take k++En.put (l.drop k) r=l.take k++r::l.drop k:=by
 rw[drop_of_get hk]
 simp[En.put,hs,hl]
theorem put_last {l:List En.Rn}{r:En.Rn}{k:Nat}(hk:l.length≤k):l.take k++En.put (l.drop k) r=l.take k++r::l.drop k:=by
 rw[List.drop_eq_nil_of_le hk]
 rfl
theorem IntsAt.drewN {F:Nat→Prop}{w:World}{v:Value}{xs:List Int}(h:IntsAt F w v xs)(n:Nat):IntsAt F (w.drewN n) v xs:=h.below (bel_drewN (Below.refl _ _) n)
theorem RunsAt.drewN {F:Nat→Prop}{w:World}{v:Value}{l:List RV}(h:RunsAt F w v l)(n:Nat):RunsAt F (w.drewN n) v l:=h.below (bel_drewN (Below.refl _ _) n)
def Put (F:Nat→Prop)(l:List RV)(r:RV)(w:World)(e:Ending)(w':World):Prop:=
 ∃v' l',e=.returned v'∧RunsAt F w' v' l'∧l'.map Prod.fst=En.put (l.map Prod.fst) r.1∧Below w.heap.size w w'
theorem put_end {F:Nat→Prop}{w w1 w5:World}{vl v5:Value}{l:List RV}{r:RV}{k n':Nat}{xs':List Value}(hF:∀b,w.heap.size≤b→F b)(hw1:Below w.heap.size w w1)(hL:RunsAt F w1 vl l)(hO:IntsAt F w1 r.2 r.1.offs)
  (hb:Below w1.heap.size w1 w5) (own5:w5.ownsRow w1.heap.size 92 3 v5 n' xs') (hk:k≤l.length) (hn':n'=k+1+(l.length - k)) (hxs:xs'=runCells (l.take k++r::l.drop k))
  (hput:En.put (l.map Prod.fst) r.1=(l.map Prod.fst).take k++r.1::(l.map Prod.fst).drop k):Put F l r w (.returned v5) w5:=by
 subst hxs hn'
 refine⟨v5,l.take k++r::l.drop k,rfl,⟨?_,fun x hx=>?_⟩,?_,hw1.trans (hb.mono hw1.size)⟩
 ·have h1:=(RowAt.ofOwn own5).mono (G:=F) (fun b _ h=>hF b (Nat.le_trans hw1.size h))
  rwa [show k+1+(l.length - k)=(l.take k++r::l.drop k).length by simp;omega] at h1
 ·have:x∈l∨x=r:=by
   rcases List.mem_append.1 hx with h | h
   ·exact Or.inl (List.mem_of_mem_take h)
   ·rcases List.mem_cons.1 h with h | h
    ·exact Or.inr h
    ·exact Or.inl (List.mem_of_mem_drop h)
  rcases this with h | rfl
  ·exact (hL.offs x h).below hb
  ·exact hO.below hb
 ·rw[hput];simp
theorem three_cells (w:World)(x y z:Value)(t:TypeId):RowAt (fun _=>True) (w.alloc (.cells #[x,y,z] t)) (.slice (some ⟨w.heap.size,0,none⟩) 1 1) 3 1 [x,y,z]:=by
 refine⟨rfl,Or.inr ⟨w.heap.size,0,1,rfl,trivial,by simp,Nat.le_refl _,by unfold maxLen;omega,fun j u hj=>?_⟩⟩
 match j,hj with
 | 0,hj=>simp at hj;subst hj;simp
 | 1,hj=>simp at hj;subst hj;simp
 | 2,hj=>simp at hj;subst hj;simp
theorem RunsAt.parts {F:Nat→Prop}{w:World}{ao:Option Addr}{cap:Nat}{l:List RV}(h:RunsAt F w (.slice ao l.length cap) l)(k:Nat)(hk:k≤l.length) :
  RowAt F w (Go.sliced ao 0 k cap 3) 3 k (runCells (l.take k))∧RowAt F w (Go.sliced ao k l.length cap 3) 3 (l.length - k) (runCells (l.drop k)):=by
 constructor
 ·have:=h.row.sliced 0 k (Nat.zero_le _) hk
  simpa [runCells_take] using this
 ·have:=h.row.sliced k l.length hk (Nat.le_refl _)
  rwa [runCells_drop,List.take_of_length_le (by rw[runCells_length,List.length_drop];exact Nat.le_refl _)] at this
theorem Tryz.elemRuns:Tryz.prog.elem 84=92:=by kernel_rfl
theorem RunsAt.head {F:Nat→Prop}{w:World}{ao:Option Addr}{cap:Nat}{l:List RV}(h:RunsAt F w (.slice ao l.length cap) l)(k:Nat)(hk:k≤l.length)(hc:l.length≤cap) :
  ∃vs,(∀W,(Instr.slice 84 (.slice ao l.length cap) none (some (.int .i64 k)) none).run Tryz.prog W=.ok vs W)∧RowAt F w vs 3 k (runCells (l.take k)):=by
 refine⟨Go.sliced ao 0 k cap 3,fun W=>?_,(h.parts k hk).1⟩
 rw[run_slice_h W 84 ao l.length cap (by rw[Tryz.elemRuns];exact Tryz.underlying84) .i64 k (by omega) (by omega),Tryz.elemRuns,Tryz.sizeOf92]
 simp[Result.andThen]
theorem RunsAt.tail {F:Nat→Prop}{w:World}{ao:Option Addr}{cap:Nat}{l:List RV}(h:RunsAt F w (.slice ao l.length cap) l)(k:Nat)(hk:k≤l.length) :
  ∃vs,(∀W,(Instr.slice 84 (.slice ao l.length cap) (some (.int .i64 k)) none none).run Tryz.prog W=.ok vs W)∧RowAt F w vs 3 (l.length - k) (runCells (l.drop k)):=by
 refine⟨Go.sliced ao k l.length cap 3,fun W=>?_,(h.parts k hk).2⟩
 rw[run_slice_l W 84 ao l.length cap (by rw[Tryz.elemRuns];exact Tryz.underlying84) .i64 k (by omega) (by omega),Tryz.elemRuns,Tryz.sizeOf92]
 simp[Result.andThen]
theorem rPut_any (F:Nat→Prop)(vl:Value)(l:List RV)(r:RV)(w:World)(hF:∀b,w.heap.size≤b→F b)(hl:RunsAt F w vl l)(hr:IntsAt F w r.2 r.1.offs)(hn:l.length≤1000000000) :
  Calls Tryz.prog 94 #[vl,.agg #[.int .i64 r.1.step,r.2,.int .i64 r.1.first]] w fun e w'=>Put F l r w e w':=by
 obtain⟨ao,cap,rfl,hc1,hc2⟩:=hl.slice
 unfold maxLen at hc2
 obtain⟨⟨step,offs,first⟩,vr⟩:=r
 simp only at hr ⊢
 obtain⟨bo,co,rfl,-,-⟩:=RowAt.slice hr
 have HL:=hid (hl.below ((Below.refl _ w).alloc (Nat.le_refl _) (.cells #[.int .i64 step,.slice bo offs.length co,.int .i64 first] 92)))
 have HO:=hid (hr.below ((Below.refl _ w).alloc (Nat.le_refl _) (.cells #[.int .i64 step,.slice bo offs.length co,.int .i64 first] 92)))
 have HF:=hid hF
 clear hl hr hF
 go_enter Tryz.func94,Tryz.ntmps94
 go_wp2
 generalize hw1:w.alloc (.cells #[.int .i64 step,.slice bo offs.length co,.int .i64 first] 92)=w1 at HL HO ⊢
 have r0:w1.cell? ⟨w.heap.size,0,none⟩=some (.int .i64 step):=by rw[← hw1];simp
 have r1:w1.cell? ⟨w.heap.size,1,none⟩=some (.slice bo offs.length co):=by rw[← hw1];simp
 have r2:w1.cell? ⟨w.heap.size,2,none⟩=some (.int .i64 first):=by rw[← hw1];simp
 have HW:=hid hw1
 clear hw1
 go_loopw [5] (fun i wr=>∃k:Nat,k≤l.length∧i=.int .i64 k∧Hid (En.put (l.map Prod.fst) ⟨step,offs,first⟩=(l.map Prod.fst).take k++En.put ((l.map Prod.fst).drop k) ⟨step,offs,first⟩∧Dr w1 wr)) (fun i _=>l.length - (intOf i).toNat)
 case atStart=>exact⟨0,by omega,rfl,rfl,Dr.refl _⟩
 case round=>
  obtain⟨k,hk,rfl,hr⟩:=hrel
  have HLr:Hid (RunsAt F wr (.slice ao l.length cap) l∧IntsAt F wr (.slice bo offs.length co) offs):=⟨HL.out.below (hr.out.2.below _),HO.out.below (hr.out.2.below _)⟩
  have r0':wr.cell? ⟨w.heap.size,0,none⟩=some (.int .i64 step):=by rw[hr.out.2.cell];exact r0
  have r1':wr.cell? ⟨w.heap.size,1,none⟩=some (.slice bo offs.length co):=by rw[hr.out.2.cell];exact r1
  have r2':wr.cell? ⟨w.heap.size,2,none⟩=some (.int .i64 first):=by rw[hr.out.2.cell];exact r2
  by_cases hlt:k < l.length
  ·obtain⟨b1,o1,rfl,hb1,c0,c1,c2⟩:=HLr.out.1.get hlt
   have hmem:l[k]∈l:=List.getElem_mem hlt
   have HK:=hid (HLr.out.1.offs _ hmem)
   obtain⟨ak,ck,hvk,-,-⟩:=RowAt.slice HK.out
   have hS:=fun n=>rSame_any F l[k].2 (.slice bo offs.length co) l[k].1.offs offs (wr.drewN n) (HK.out.drewN n) (HLr.out.2.drewN n)
   have hB:=fun n=>rBefore_any F l[k].2 (.slice bo offs.length co) l[k].1.offs offs (wr.drewN n) (HK.out.drewN n) (HLr.out.2.drewN n)
   rw[hvk] at hS hB c1
   have HS:=hid hS
   have HBB:=hid hB
   clear hS hB
   have hget:(l.map Prod.fst)[k]?=some l[k].1:=by simp[hlt]
   generalize l[k]=x at *
   obtain⟨⟨xs,xo,xf⟩,xv⟩:=x
   simp only at c0 c1 c2 HS HBB hget
   have HG:=hid hget
   clear hget hmem hvk
   by_cases hs:xo=offs
   ·have hs':decide (xo=offs)=true:=by simpa using hs
    have hbf:En.before xo offs=false:=by rw[hs];exact En.before_irrefl _
    have HSO:=hid hs
    rw[hs'] at HS
    rw[hbf] at HBB
    clear hs hbf
    by_cases hst:xs=step
    ·have hst':((xs:Int) == (step:Int))=true:=by simp;omega
     have HST:=hid hst
     clear hst
     go_wp2
     go_quiet ((go_at_call 50;exact Calls.quiet_of (HS.out _)))
     revert nq;intro n1
     go_wp2
     go_quiet ((go_at_call 153;first | exact Calls.quiet_of (HBB.out _) | exact quiet_two (HBB.out _)))
     revert nq;intro n2
     go_wp2
     go_quiet (fail)
     revert nq;intro n3
     go_wp2
     go_ret
     refine⟨_,l,rfl,?_,?_,?_⟩
     ·refine HL.out.below ?_
      repeat refine bel_drewN ?_ _
      exact hr.out.2.below _
     ·rw[hr.out.1,put_here HG.out (En.sameKey_iff.2 ⟨HSO.out,HST.out⟩)]
     ·repeat refine bel_drewN ?_ _
      refine Below.trans ?_ (hr.out.2.below _)
      rw[← HW.out]
      exact (Below.refl _ w).alloc (Nat.le_refl _) _
    ·have hst':((xs:Int) == (step:Int))=false:=by simp;omega
     have HSK:Hid (En.sameKey ⟨xs,xo,xf⟩ ⟨step,offs,first⟩=false):=by unfold Hid;simp[En.sameKey,hst]
     clear hst
     by_cases hlt2:xs < step
     ·have hlt':(xs:Int) < (step:Int):=by omega
      have HLT:Hid (En.lt ⟨xs,xo,xf⟩ ⟨step,offs,first⟩=true):=by unfold Hid;simp[En.lt,HSO.out,hlt2]
      clear hlt2
      go_wp2
      go_quiet ((go_at_call 50;exact Calls.quiet_of (HS.out _)))
      revert nq;intro n1
      go_wp2
      go_quiet ((go_at_call 153;first | exact Calls.quiet_of (HBB.out _) | exact quiet_two (HBB.out _)))
      revert nq;intro n2
      go_wp2
      go_quiet (fail)
      revert nq;intro n3
      go_wp2
      go_quiet (fail)
      revert nq;intro n4
      go_wp2
      go_roundw
      case rel=>
       refine⟨k+1,by omega,by go_num,?_,?_⟩
       ·rw[hr.out.1,put_skip HG.out HSK.out HLT.out]
       ·repeat refine Dr.step ?_ _
        exact hr.out.2
      case measure=>simp[intOf];omega
     ·have hlt':decide ((xs:Int) < (step:Int))=false:=by simp;omega
      have hlt'':decide (xs < step)=false:=by simpa using hlt2
      have HLT:Hid (En.lt ⟨xs,xo,xf⟩ ⟨step,offs,first⟩=false):=by unfold Hid;simp[En.lt,HSO.out,hlt2,En.before_irrefl]
      clear hlt2
      go_wp2
      go_quiet ((go_at_call 50;exact Calls.quiet_of (HS.out _)))
      revert nq;intro n1
      go_wp2
      go_quiet ((go_at_call 153;first | exact Calls.quiet_of (HBB.out _) | exact quiet_two (HBB.out _)))
      revert nq;intro n2
      go_wp2
      go_quiet (fail)
      revert nq;intro n3
      go_wp2
      go_quiet (fail)
      revert nq;intro n4
      have HT:Hid (En.put (l.map Prod.fst) ⟨step,offs,first⟩=(l.map Prod.fst).take k++⟨step,offs,first⟩::(l.map Prod.fst).drop k):=hr.out.1.trans (put_there HG.out HSK.out HLT.out)
      obtain⟨i0,hi,hz0,hz1,hz2⟩:=info_parts Tryz.infoRun
      have HD0:Hid (∃W,Dr w1 W∧W=(((wr.drewN n1).drewN n2).drewN n3).drewN n4):=⟨_,(by refine Dr.step (Dr.step (Dr.step (Dr.step ?_ _) _) _) _;exact hr.out.2),rfl⟩
      obtain⟨W,hD0,hWe⟩:=HD0.out
      rw[← hWe]
      have HW2:=hid (hD0.below w1.heap.size)
      obtain⟨vh,hsh,hvh⟩:=(HL.out.below HW2.out).head k hk hc1
      have HVH:=hid hvh
      clear hvh
      clear HD0 hD0 hWe
      go_wp2_with (at_builtin;refine wpList_append_row rfl _ _ 84 rfl w1.heap.size 92 i0 (.agg #[.int .i64 0,.slice none 0 0,.int .i64 0]) 3 40 Tryz.underlying84 hi hz0 hz1 hz2 rfl (by decide) _ _ _ rfl (World.ownsRow_nil _ _ _ _) F vh k (runCells (l.take k)) rfl HVH.out (oneCell_runs _ (fun x hx=>HL.out.offs x (List.mem_of_mem_take hx))) (by unfold maxLen;omega) (by omega) HW2.out.size ?_)
      intro v2 w2 own2 gr2
      have B2:Below w1.heap.size w1 w2:=HW2.out.grown gr2 HW2.out.size (fun k hk=>by cases hk)
      have hlt1:w.heap.size < w1.heap.size:=World.block_lt_of_cell? w1 ⟨w.heap.size,0,none⟩ r0
      have s0:w2.cell? ⟨w.heap.size,0,none⟩=some (.int .i64 step):=by rw[World.cell?_of_block (a:=⟨w.heap.size,0,none⟩) (B2.block _ hlt1)];exact r0
      have s1:w2.cell? ⟨w.heap.size,1,none⟩=some (.slice bo offs.length co):=by rw[World.cell?_of_block (a:=⟨w.heap.size,1,none⟩) (B2.block _ hlt1)];exact r1
      have s2:w2.cell? ⟨w.heap.size,2,none⟩=some (.int .i64 first):=by rw[World.cell?_of_block (a:=⟨w.heap.size,2,none⟩) (B2.block _ hlt1)];exact r2
      obtain⟨a2,p2,rfl⟩:=own_slice own2
      have O2:=hid (And.intro own2 B2)
      clear own2 B2 gr2
      go_wp2_with (at_builtin;refine wpList_append_row rfl _ _ 84 rfl w1.heap.size 92 i0 (.agg #[.int .i64 0,.slice none 0 0,.int .i64 0]) 3 40 Tryz.underlying84 hi hz0 hz1 hz2 rfl (by decide) _ _ _ rfl (O2.out.1.alloc _) (fun _=>True) _ 1 [.int .i64 step,.slice bo offs.length co,.int .i64 first] rfl (three_cells _ _ _ _ _) (by intro u hu;simp at hu;rcases hu with rfl | rfl | rfl<;>rfl) (by unfold maxLen;omega) (by omega) (Nat.le_trans O2.out.2.size (by simp)) ?_)
      intro v4 w4 own4 gr4
      have B4:Below w1.heap.size w1 w4:=(O2.out.2.alloc O2.out.2.size _).grown gr4 (Nat.le_trans O2.out.2.size (by simp)) (fun k hk=>(own_block O2.out.1 k hk).1)
      obtain⟨a4,p4,rfl⟩:=own_slice own4
      have O4:=hid (And.intro own4 B4)
      obtain⟨vs,hsl,hvr⟩:=(HL.out.below B4).tail k hk
      have HVR:=hid hvr
      clear hvr
      clear own4 B4 gr4
      go_wp2_with (at_builtin;refine wpList_append_row rfl _ _ 84 rfl w1.heap.size 92 i0 (.agg #[.int .i64 0,.slice none 0 0,.int .i64 0]) 3 40 Tryz.underlying84 hi hz0 hz1 hz2 rfl (by decide) _ _ _ rfl O4.out.1 F vs (l.length - k) (runCells (l.drop k)) rfl HVR.out (oneCell_runs _ (fun x hx=>HL.out.offs x (List.mem_of_mem_drop hx))) (by unfold maxLen;omega) (by omega) O4.out.2.size ?_)
      intro v5 w5 own5 gr5
      have B5:Below w1.heap.size w1 w5:=O4.out.2.grown gr5 O4.out.2.size (fun k hk=>(own_block O4.out.1 k hk).1)
      have O5:=hid (And.intro own5 B5)
      clear own5 B5 gr5
      go_wp2
      go_ret
      exact put_end (r:=(⟨step,offs,first⟩,.slice bo offs.length co)) HF.out (by rw[← HW.out];exact (Below.refl _ w).alloc (Nat.le_refl _) _) HL.out HO.out O5.out.2 O5.out.1 hk (by omega) (by simp[runCells]) HT.out
   ·have hs':decide (xo=offs)=false:=by simpa using hs
    rw[hs'] at HS
    have HSK:Hid (En.sameKey ⟨xs,xo,xf⟩ ⟨step,offs,first⟩=false):=by unfold Hid;simp[En.sameKey,hs]
    cases hbf:En.before xo offs
    ·have HLT:Hid (En.lt ⟨xs,xo,xf⟩ ⟨step,offs,first⟩=false):=by unfold Hid;simp[En.lt,hs,hbf]
     rw[hbf] at HBB
     clear hs hbf
     go_wp2
     go_quiet ((go_at_call 50;exact Calls.quiet_of (HS.out _)))
     revert nq;intro n1
     go_wp2
     go_quiet ((go_at_call 153;first | exact Calls.quiet_of (HBB.out _) | exact quiet_two (HBB.out _)))
     revert nq;intro n2
     go_wp2
     go_quiet (fail)
     revert nq;intro n3
     go_wp2
     go_quiet (fail)
     revert nq;intro n4
     have HT:Hid (En.put (l.map Prod.fst) ⟨step,offs,first⟩=(l.map Prod.fst).take k++⟨step,offs,first⟩::(l.map Prod.fst).drop k):=hr.out.1.trans (put_there HG.out HSK.out HLT.out)
     obtain⟨i0,hi,hz0,hz1,hz2⟩:=info_parts Tryz.infoRun
     have HD0:Hid (∃W,Dr w1 W∧W=(((wr.drewN n1).drewN n2).drewN n3).drewN n4):=⟨_,(by refine Dr.step (Dr.step (Dr.step (Dr.step ?_ _) _) _) _;exact hr.out.2),rfl⟩
     obtain⟨W,hD0,hWe⟩:=HD0.out
     rw[← hWe]
     have HW2:=hid (hD0.below w1.heap.size)
     obtain⟨vh,hsh,hvh⟩:=(HL.out.below HW2.out).head k hk hc1
     have HVH:=hid hvh
     clear hvh
     clear HD0 hD0 hWe
     go_wp2_with (at_builtin;refine wpList_append_row rfl _ _ 84 rfl w1.heap.size 92 i0 (.agg #[.int .i64 0,.slice none 0 0,.int .i64 0]) 3 40 Tryz.underlying84 hi hz0 hz1 hz2 rfl (by decide) _ _ _ rfl (World.ownsRow_nil _ _ _ _) F vh k (runCells (l.take k)) rfl HVH.out (oneCell_runs _ (fun x hx=>HL.out.offs x (List.mem_of_mem_take hx))) (by unfold maxLen;omega) (by omega) HW2.out.size ?_)
     intro v2 w2 own2 gr2
     have B2:Below w1.heap.size w1 w2:=HW2.out.grown gr2 HW2.out.size (fun k hk=>by cases hk)
     have hlt1:w.heap.size < w1.heap.size:=World.block_lt_of_cell? w1 ⟨w.heap.size,0,none⟩ r0
     have s0:w2.cell? ⟨w.heap.size,0,none⟩=some (.int .i64 step):=by rw[World.cell?_of_block (a:=⟨w.heap.size,0,none⟩) (B2.block _ hlt1)];exact r0
     have s1:w2.cell? ⟨w.heap.size,1,none⟩=some (.slice bo offs.length co):=by rw[World.cell?_of_block (a:=⟨w.heap.size,1,none⟩) (B2.block _ hlt1)];exact r1
     have s2:w2.cell? ⟨w.heap.size,2,none⟩=some (.int .i64 first):=by rw[World.cell?_of_block (a:=⟨w.heap.size,2,none⟩) (B2.block _ hlt1)];exact r2
     obtain⟨a2,p2,rfl⟩:=own_slice own2
     have O2:=hid (And.intro own2 B2)
     clear own2 B2 gr2
     go_wp2_with (at_builtin;refine wpList_append_row rfl _ _ 84 rfl w1.heap.size 92 i0 (.agg #[.int .i64 0,.slice none 0 0,.int .i64 0]) 3 40 Tryz.underlying84 hi hz0 hz1 hz2 rfl (by decide) _ _ _ rfl (O2.out.1.alloc _) (fun _=>True) _ 1 [.int .i64 step,.slice bo offs.length co,.int .i64 first] rfl (three_cells _ _ _ _ _) (by intro u hu;simp at hu;rcases hu with rfl | rfl | rfl<;>rfl) (by unfold maxLen;omega) (by omega) (Nat.le_trans O2.out.2.size (by simp)) ?_)
     intro v4 w4 own4 gr4
     have B4:Below w1.heap.size w1 w4:=(O2.out.2.alloc O2.out.2.size _).grown gr4 (Nat.le_trans O2.out.2.size (by simp)) (fun k hk=>(own_block O2.out.1 k hk).1)
     obtain⟨a4,p4,rfl⟩:=own_slice own4
     have O4:=hid (And.intro own4 B4)
     obtain⟨vs,hsl,hvr⟩:=(HL.out.below B4).tail k hk
     have HVR:=hid hvr
     clear hvr
     clear own4 B4 gr4
     go_wp2_with (at_builtin;refine wpList_append_row rfl _ _ 84 rfl w1.heap.size 92 i0 (.agg #[.int .i64 0,.slice none 0 0,.int .i64 0]) 3 40 Tryz.underlying84 hi hz0 hz1 hz2 rfl (by decide) _ _ _ rfl O4.out.1 F vs (l.length - k) (runCells (l.drop k)) rfl HVR.out (oneCell_runs _ (fun x hx=>HL.out.offs x (List.mem_of_mem_drop hx))) (by unfold maxLen;omega) (by omega) O4.out.2.size ?_)
     intro v5 w5 own5 gr5
     have B5:Below w1.heap.size w1 w5:=O4.out.2.grown gr5 O4.out.2.size (fun k hk=>(own_block O4.out.1 k hk).1)
     have O5:=hid (And.intro own5 B5)
     clear own5 B5 gr5
     go_wp2
     go_ret
     exact put_end (r:=(⟨step,offs,first⟩,.slice bo offs.length co)) HF.out (by rw[← HW.out];exact (Below.refl _ w).alloc (Nat.le_refl _) _) HL.out HO.out O5.out.2 O5.out.1 hk (by omega) (by simp[runCells]) HT.out
    ·have HLT:Hid (En.lt ⟨xs,xo,xf⟩ ⟨step,offs,first⟩=true):=by unfold Hid;simp[En.lt,hbf]
     rw[hbf] at HBB
     clear hs hbf
     go_wp2
     go_quiet ((go_at_call 50;exact Calls.quiet_of (HS.out _)))
     revert nq;intro n1
     go_wp2
     go_quiet ((go_at_call 153;first | exact Calls.quiet_of (HBB.out _) | exact quiet_two (HBB.out _)))
     revert nq;intro n2
     go_wp2
     go_quiet (fail)
     revert nq;intro n3
     go_wp2
     go_quiet (fail)
     revert nq;intro n4
     go_wp2
     go_roundw
     case rel=>
      refine⟨k+1,by omega,by go_num,?_,?_⟩
      ·rw[hr.out.1,put_skip HG.out HSK.out HLT.out]
      ·repeat refine Dr.step ?_ _
       exact hr.out.2
     case measure=>simp[intOf];omega
  ·clear r0' r1' r2' HLr
   have HT:Hid (En.put (l.map Prod.fst) ⟨step,offs,first⟩=(l.map Prod.fst).take k++⟨step,offs,first⟩::(l.map Prod.fst).drop k):=hr.out.1.trans (put_last (by simpa using hlt))
   obtain⟨i0,hi,hz0,hz1,hz2⟩:=info_parts Tryz.infoRun
   have HD0:Hid (∃W,Dr w1 W∧W=wr):=⟨_,(by exact hr.out.2),rfl⟩
   obtain⟨W,hD0,hWe⟩:=HD0.out
   rw[← hWe]
   have HW2:=hid (hD0.below w1.heap.size)
   obtain⟨vh,hsh,hvh⟩:=(HL.out.below HW2.out).head k hk hc1
   have HVH:=hid hvh
   clear hvh
   clear HD0 hD0 hWe
   go_wp2_with (at_builtin;refine wpList_append_row rfl _ _ 84 rfl w1.heap.size 92 i0 (.agg #[.int .i64 0,.slice none 0 0,.int .i64 0]) 3 40 Tryz.underlying84 hi hz0 hz1 hz2 rfl (by decide) _ _ _ rfl (World.ownsRow_nil _ _ _ _) F vh k (runCells (l.take k)) rfl HVH.out (oneCell_runs _ (fun x hx=>HL.out.offs x (List.mem_of_mem_take hx))) (by unfold maxLen;omega) (by omega) HW2.out.size ?_)
   intro v2 w2 own2 gr2
   have B2:Below w1.heap.size w1 w2:=HW2.out.grown gr2 HW2.out.size (fun k hk=>by cases hk)
   have hlt1:w.heap.size < w1.heap.size:=World.block_lt_of_cell? w1 ⟨w.heap.size,0,none⟩ r0
   have s0:w2.cell? ⟨w.heap.size,0,none⟩=some (.int .i64 step):=by rw[World.cell?_of_block (a:=⟨w.heap.size,0,none⟩) (B2.block _ hlt1)];exact r0
   have s1:w2.cell? ⟨w.heap.size,1,none⟩=some (.slice bo offs.length co):=by rw[World.cell?_of_block (a:=⟨w.heap.size,1,none⟩) (B2.block _ hlt1)];exact r1
   have s2:w2.cell? ⟨w.heap.size,2,none⟩=some (.int .i64 first):=by rw[World.cell?_of_block (a:=⟨w.heap.size,2,none⟩) (B2.block _ hlt1)];exact r2
   obtain⟨a2,p2,rfl⟩:=own_slice own2
   have O2:=hid (And.intro own2 B2)
   clear own2 B2 gr2
   go_wp2_with (at_builtin;refine wpList_append_row rfl _ _ 84 rfl w1.heap.size 92 i0 (.agg #[.int .i64 0,.slice none 0 0,.int .i64 0]) 3 40 Tryz.underlying84 hi hz0 hz1 hz2 rfl (by decide) _ _ _ rfl (O2.out.1.alloc _) (fun _=>True) _ 1 [.int .i64 step,.slice bo offs.length co,.int .i64 first] rfl (three_cells _ _ _ _ _) (by intro u hu;simp at hu;rcases hu with rfl | rfl | rfl<;>rfl) (by unfold maxLen;omega) (by omega) (Nat.le_trans O2.out.2.size (by simp)) ?_)
   intro v4 w4 own4 gr4
   have B4:Below w1.heap.size w1 w4:=(O2.out.2.alloc O2.out.2.size _).grown gr4 (Nat.le_trans O2.out.2.size (by simp)) (fun k hk=>(own_block O2.out.1 k hk).1)
   obtain⟨a4,p4,rfl⟩:=own_slice own4
   have O4:=hid (And.intro own4 B4)
   obtain⟨vs,hsl,hvr⟩:=(HL.out.below B4).tail k hk
   have HVR:=hid hvr
   clear hvr
   clear own4 B4 gr4
   go_wp2_with (at_builtin;refine wpList_append_row rfl _ _ 84 rfl w1.heap.size 92 i0 (.agg #[.int .i64 0,.slice none 0 0,.int .i64 0]) 3 40 Tryz.underlying84 hi hz0 hz1 hz2 rfl (by decide) _ _ _ rfl O4.out.1 F vs (l.length - k) (runCells (l.drop k)) rfl HVR.out (oneCell_runs _ (fun x hx=>HL.out.offs x (List.mem_of_mem_drop hx))) (by unfold maxLen;omega) (by omega) O4.out.2.size ?_)
   intro v5 w5 own5 gr5
   have B5:Below w1.heap.size w1 w5:=O4.out.2.grown gr5 O4.out.2.size (fun k hk=>(own_block O4.out.1 k hk).1)
   have O5:=hid (And.intro own5 B5)
   clear own5 B5 gr5
   go_wp2
   go_ret
   exact put_end (r:=(⟨step,offs,first⟩,.slice bo offs.length co)) HF.out (by rw[← HW.out];exact (Below.refl _ w).alloc (Nat.le_refl _) _) HL.out HO.out O5.out.2 O5.out.1 hk (by omega) (by simp[runCells]) HT.out
end Go.Proofs.YtfldcmdhneegmaaGreatDoor

import Derived.KernelRfl
import Derived.Test.YtfldcmdhneegmaaGreatDoorProg
import Derived.WalkKit
import Derived.Lib.OthersKept
import Derived.Laws.OwnMore
set_option maxHeartbeats 4000000
set_option maxRecDepth 1000000
namespace Go.Proofs.YtfldcmdhneegmaaGreatDoor
namespace En
structure Ev where
 off:Int
 kind:Int
 time:Int
structure Rn where
 step:Nat
 offs:List Int
 first:Int
def before:List Int→List Int→Bool
 | [],[]=>false
 | [],_::_=>true
 | _::_,[]=>false
 | x::a,y::b=>if x=y then before a b else decide (x < y)
theorem before_irrefl (a:List Int):before a a=false:=by
 induction a with
 | nil=>rfl
 | cons x a ih=>simp[before,ih]
theorem before_trans {a b c:List Int}(h1:before a b=true)(h2:before b c=true):before a c=true:=by
 induction a generalizing b c with
 | nil=>
  cases b with
  | nil=>cases h1
  | cons y b=>
   cases c with
   | nil=>cases h2
   | cons z c=>rfl
 | cons x a ih=>
  cases b with
  | nil=>cases h1
  | cons y b=>
   cases c with
   | nil=>cases h2
   | cons z c=>
    unfold before at h1 h2 ⊢
    by_cases e1:x=y
    ·subst e1
     rw[if_pos rfl] at h1
     by_cases e2:x=z
     ·rw[if_pos e2] at h2 ⊢
      exact ih h1 h2
     ·rw[if_neg e2] at h2 ⊢
      exact h2
    ·rw[if_neg e1] at h1
     have l1:=of_decide_eq_true h1
     by_cases e2:y=z
     ·subst e2
      rw[if_neg e1]
      exact h1
     ·rw[if_neg e2] at h2
      have l2:=of_decide_eq_true h2
      rw[if_neg (by omega)]
      exact decide_eq_true (by omega)
theorem before_total {a b:List Int}(h:a≠b)(h1:before a b=false):before b a=true:=by
 induction a generalizing b with
 | nil=>
  cases b with
  | nil=>exact absurd rfl h
  | cons y b=>cases h1
 | cons x a ih=>
  cases b with
  | nil=>rfl
  | cons y b=>
   unfold before at h1 ⊢
   by_cases e:x=y
   ·subst e
    rw[if_pos rfl] at h1 ⊢
    exact ih (fun e=>h (by rw[e])) h1
   ·rw[if_neg e] at h1
    rw[if_neg (Ne.symm e)]
    have:=of_decide_eq_false h1
    exact decide_eq_true (by omega)
def lt (r s:Rn):Bool:=before r.offs s.offs || (decide (r.offs=s.offs) && decide (r.step < s.step))
def sameKey (r s:Rn):Bool:=decide (r.offs=s.offs) && decide (r.step=s.step)
theorem sameKey_iff {r s:Rn}:sameKey r s=true↔r.offs=s.offs∧r.step=s.step:=by simp[sameKey]
theorem lt_irrefl (r:Rn):lt r r=false:=by simp[lt,before_irrefl]
theorem lt_trans {a b c:Rn}(h1:lt a b=true)(h2:lt b c=true):lt a c=true:=by
 simp only[lt,Bool.or_eq_true,Bool.and_eq_true,decide_eq_true_eq] at h1 h2 ⊢
 rcases h1 with h1 | ⟨h1,h1'⟩
 ·rcases h2 with h2 | ⟨h2,_⟩
  ·exact Or.inl (before_trans h1 h2)
  ·left;rw[← h2];exact h1
 ·rcases h2 with h2 | ⟨h2,h2'⟩
  ·left;rw[h1];exact h2
  ·right;exact⟨h1.trans h2,by omega⟩
theorem lt_total {a b:Rn}(h:sameKey a b=false)(h1:lt a b=false):lt b a=true:=by
 simp only[lt,sameKey,Bool.or_eq_false_iff,Bool.and_eq_false_iff,decide_eq_false_iff_not] at h h1
 obtain⟨hb,hs⟩:=h1
 by_cases e:a.offs=b.offs
 ·have h3:¬ a.step=b.step:=h.elim (fun h=>absurd e h) id
  have h4:¬ a.step < b.step:=hs.elim (fun h=>absurd e h) id
  simp[lt,e]
  right;omega
 ·simp[lt,before_total e hb]
def put:List Rn→Rn→List Rn
 | [],r=>[r]
 | x::t,r=>if sameKey x r then x::t else if lt x r then x::put t r else r::x::t
def puts (l:List Rn)(m:List Rn):List Rn:=m.foldl put l
def Ord:List Rn→Prop
 | []=>True
 | x::t=>(∀y∈t,lt x y=true)∧Ord t
theorem mem_put_sub {l:List Rn}{r x:Rn}(h:x∈put l r):x∈l∨x=r:=by
 induction l with
 | nil=>right;simpa [put] using h
 | cons y t ih=>
  unfold put at h
  split at h
  ·exact Or.inl h
  ·split at h
   ·rcases List.mem_cons.1 h with rfl | h
    ·exact Or.inl List.mem_cons_self
    ·rcases ih h with h | h
     ·exact Or.inl (List.mem_cons_of_mem _ h)
     ·exact Or.inr h
   ·rcases List.mem_cons.1 h with rfl | h
    ·exact Or.inr rfl
    ·exact Or.inl h
theorem mem_put_old {l:List Rn}{r x:Rn}(h:x∈l):x∈put l r:=by
 induction l with
 | nil=>cases h
 | cons y t ih=>
  unfold put
  split
  ·exact h
  ·split
   ·rcases List.mem_cons.1 h with rfl | h
    ·exact List.mem_cons_self
    ·exact List.mem_cons_of_mem _ (ih h)
   ·exact List.mem_cons_of_mem _ h
theorem mem_put_new (l:List Rn)(r:Rn):∃x∈put l r,sameKey x r=true∧(x=r∨x∈l):=by
 induction l with
 | nil=>exact⟨r,by simp[put],by simp[sameKey],Or.inl rfl⟩
 | cons y t ih=>
  unfold put
  split
  ·rename_i h
   exact⟨y,List.mem_cons_self,h,Or.inr List.mem_cons_self⟩
  ·split
   ·obtain⟨x,h1,h2,h3⟩:=ih
    exact⟨x,List.mem_cons_of_mem _ h1,h2,h3.elim Or.inl (fun h=>Or.inr (List.mem_cons_of_mem _ h))⟩
   ·exact⟨r,List.mem_cons_self,by simp[sameKey],Or.inl rfl⟩
theorem ord_put {l:List Rn}{r:Rn}(h:Ord l):Ord (put l r):=by
 induction l with
 | nil=>exact⟨by simp,trivial⟩
 | cons y t ih=>
  obtain⟨h1,h2⟩:=h
  unfold put
  split
  ·exact⟨h1,h2⟩
  ·rename_i hk
   split
   ·rename_i hl
    refine⟨fun x hx=>?_,ih h2⟩
    rcases mem_put_sub hx with hx | rfl
    ·exact h1 x hx
    ·exact hl
   ·rename_i hl
    have hr:lt r y=true:=lt_total (by simpa using hk) (by simpa using hl)
    refine⟨fun x hx=>?_,h1,h2⟩
    rcases List.mem_cons.1 hx with rfl | hx
    ·exact hr
    ·exact lt_trans hr (h1 x hx)
def Det (ψ:Int→Int)(r:Rn):Prop:=r.offs≠[]∧r.first=ψ (r.offs.headD 0)
theorem det_eq {ψ:Int→Int}{r s:Rn}(h1:Det ψ r)(h2:Det ψ s)(hk:sameKey r s=true):r=s:=by
 obtain⟨e1,e2⟩:=sameKey_iff.1 hk
 have e3:r.first=s.first:=by rw[h1.2,h2.2,e1]
 cases r;cases s
 simp_all
theorem mem_put {ψ:Int→Int}{l:List Rn}{r x:Rn}(hl:∀y∈l,Det ψ y)(hr:Det ψ r):x∈put l r↔x∈l∨x=r:=by
 constructor
 ·exact mem_put_sub
 ·rintro (h | rfl)
  ·exact mem_put_old h
  ·obtain⟨y,h1,h2,h3⟩:=mem_put_new l x
   have hy:Det ψ y:=h3.elim (fun e=>by rw[e];exact hr) (hl y)
   rw[det_eq hy hr h2] at h1
   exact h1
theorem mem_puts {ψ:Int→Int}{l m:List Rn}{x:Rn}(hl:∀y∈l,Det ψ y)(hm:∀y∈m,Det ψ y):x∈puts l m↔x∈l∨x∈m:=by
 induction m generalizing l with
 | nil=>simp[puts]
 | cons r m ih=>
  have hr:=hm r List.mem_cons_self
  have hl':∀y∈put l r,Det ψ y:=fun y hy=>by
   rcases mem_put_sub hy with h | rfl
   ·exact hl y h
   ·exact hr
  show x∈puts (put l r) m↔_
  rw[ih hl' (fun y hy=>hm y (List.mem_cons_of_mem _ hy)),mem_put hl hr]
  simp only[List.mem_cons]
  constructor
  ·rintro ((h | h) | h)
   ·exact Or.inl h
   ·exact Or.inr (Or.inl h)
   ·exact Or.inr (Or.inr h)
  ·rintro (h | h | h)
   ·exact Or.inl (Or.inl h)
   ·exact Or.inl (Or.inr h)
   ·exact Or.inr h
theorem ord_puts {l m:List Rn}(h:Ord l):Ord (puts l m):=by
 induction m generalizing l with
 | nil=>exact h
 | cons r m ih=>exact ih (ord_put h)
theorem ord_ext {l m:List Rn}(hl:Ord l)(hm:Ord m)(h:∀x,x∈l↔x∈m):l=m:=by
 induction l generalizing m with
 | nil=>
  cases m with
  | nil=>rfl
  | cons y m=>exact absurd ((h y).2 List.mem_cons_self) (by simp)
 | cons x l ih=>
  cases m with
  | nil=>exact absurd ((h x).1 List.mem_cons_self) (by simp)
  | cons y m=>
   have hxy:x=y:=by
    rcases List.mem_cons.1 ((h x).1 List.mem_cons_self) with e | hx
    ·exact e
    ·rcases List.mem_cons.1 ((h y).2 List.mem_cons_self) with e | hy
     ·exact e.symm
     ·have h1:=hm.1 x hx
      have h2:=hl.1 y hy
      have:=lt_trans h1 h2
      rw[lt_irrefl] at this
      cases this
   subst hxy
   congr 1
   refine ih hl.2 hm.2 (fun z=>⟨fun hz=>?_,fun hz=>?_⟩)
   ·rcases List.mem_cons.1 ((h z).1 (List.mem_cons_of_mem _ hz)) with rfl | h'
    ·have:=hl.1 z hz
     rw[lt_irrefl] at this
     cases this
    ·exact h'
   ·rcases List.mem_cons.1 ((h z).2 (List.mem_cons_of_mem _ hz)) with rfl | h'
    ·have:=hm.1 z hz
     rw[lt_irrefl] at this
     cases this
    ·exact h'
end En
namespace En
structure Pat where
 steps:List (Int × Bool)
 win:Int
def far (t first:Int):Int:=(t - first) % 18446744073709551616
theorem far_eq {t first:Int}(h0:first≤t)(h1:-9223372036854775808≤first)(h2:t≤9223372036854775807):far t first=t - first:=by
 unfold far;omega
def kindAt (P:Pat)(s:Nat):Option Int:=(P.steps[s]?).map (·.1)
def plusAt (P:Pat)(s:Nat):Bool:=((P.steps[s]?).map (·.2)).getD false
def goes (P:Pat)(s:Nat):Bool:=decide (s+1 < P.steps.length) || plusAt P s
def ext (r:Rn)(ev:Ev)(step:Nat):Rn:={ step:=step,offs:=r.offs++[ev.off],first:=r.first }
def longer (P:Pat)(l:List Rn)(ev:Ev)(step:Nat):List Rn:=(l.filter fun r=>decide (far ev.time r.first≤P.win)).map fun r=>ext r ev step
def back (P:Pat)(D:List Ev)(E:Nat→Nat→List Rn)(ev:Ev)(step s:Nat):Nat→List Rn→List Rn
 | 0,l=>l
 | j+1,l=>match D[j]? with
  | none=>l
  | some d=>if far ev.time d.time > P.win then l else back P D E ev step s j (puts l (longer P (E s j) ev step))
def fromOld (P:Pat)(old:List Rn)(ev:Ev)(step s:Nat)(l:List Rn):List Rn:=
 old.foldl (fun l r=>if r.step=s then puts l (longer P [r] ev step) else l) l
def endsF (P:Pat)(D:List Ev)(old:List Rn):Nat→Nat→Nat→List Rn
 | 0,_,_=>[]
 | f+1,step,k=>match D[k]? with
  | none=>[]
  | some ev=>if kindAt P step≠some ev.kind then [] else
   let l0:List Rn:=if step=0 then [{ step:=0,offs:=[ev.off],first:=ev.time }] else []
   let l1:=if 0 < step then fromOld P old ev step (step - 1) (back P D (endsF P D old f) ev step (step - 1) k l0) else l0
   if plusAt P step then fromOld P old ev step step (back P D (endsF P D old f) ev step step k l1) else l1
def ends (P:Pat)(D:List Ev)(old:List Rn)(step k:Nat):List Rn:=endsF P D old (k+1) step k
structure Ctx (P:Pat)(D:List Ev)(old:List Rn)(ψ:Int→Int):Prop where
 w0:0≤P.win
 w1:P.win < 9223372036854775808
 ev:∀d∈D,d.time=ψ d.off
 lo:∀d∈D,-9223372036854775808≤d.time
 hi:∀d∈D,d.time≤9223372036854775807
 mono:∀(i j:Nat) (a b:Ev),i≤j→D[i]?=some a→D[j]?=some b→a.time≤b.time
 det:∀r∈old,Det ψ r
 olo:∀r∈old,-9223372036854775808≤r.first
 ohi:∀r∈old,∀d∈D,r.first≤d.time
structure Good (ψ:Int→Int)(d:Ev)(step:Nat)(r:Rn):Prop where
 det:Det ψ r
 step:r.step=step
 lo:-9223372036854775808≤r.first
 hi:r.first≤d.time
theorem det_ext {ψ:Int→Int}{r:Rn}(h:Det ψ r)(ev:Ev)(step:Nat):Det ψ (ext r ev step):=by
 obtain⟨h1,h2⟩:=h
 cases hr:r.offs with
 | nil=>exact absurd hr h1
 | cons x t=>exact⟨by simp[ext],by rw[hr] at h2;simpa [ext,hr] using h2⟩
theorem mem_longer {P:Pat}{l:List Rn}{ev:Ev}{step:Nat}{x:Rn}:x∈longer P l ev step↔∃q∈l,far ev.time q.first≤P.win∧x=ext q ev step:=by
 unfold longer
 rw[List.mem_map]
 constructor
 ·rintro⟨q,hq,rfl⟩
  obtain⟨h1,h2⟩:=List.mem_filter.1 hq
  exact⟨q,h1,of_decide_eq_true h2,rfl⟩
 ·rintro⟨q,h1,h2,rfl⟩
  exact⟨q,List.mem_filter.2 ⟨h1,decide_eq_true h2⟩,rfl⟩
section
variable {P:Pat} {D:List Ev} {old:List Rn} {ψ:Int→Int}
theorem mem_back (C:Ctx P D old ψ)(E:Nat→Nat→List Rn)(k:Nat)(ev:Ev)(hev:D[k]?=some ev)(step s:Nat)(j:Nat)(hj:j≤k)
  (hE:∀i d,i < j→D[i]?=some d→∀r∈E s i,Good ψ d s r) (l:List Rn) (hl:∀y∈l,Det ψ y) (x:Rn) :
  (∀y∈back P D E ev step s j l,Det ψ y)∧(x∈back P D E ev step s j l↔x∈l∨∃i,i < j∧∃q∈E s i,far ev.time q.first≤P.win∧x=ext q ev step):=by
 induction j generalizing l with
 | zero=>exact⟨hl,by simp[back]⟩
 | succ j ih=>
  have hkl:k < D.length:=by
   rcases Nat.lt_or_ge k D.length with h | h
   ·exact h
   ·rw[List.getElem?_eq_none h] at hev;cases hev
  obtain⟨d,hd⟩:∃d,D[j]?=some d:=⟨D[j]'(by omega),List.getElem?_eq_getElem (by omega)⟩
  unfold back
  rw[hd]
  simp only[]
  have hdm:d∈D:=List.mem_of_getElem? hd
  have hem:ev∈D:=List.mem_of_getElem? hev
  have hle:=C.mono j k d ev (by omega) hd hev
  have hfd:far ev.time d.time=ev.time - d.time:=far_eq hle (C.lo d hdm) (C.hi ev hem)
  have hgood:=hE j d (by omega) hd
  by_cases hf:far ev.time d.time > P.win
  ·rw[if_pos hf]
   refine⟨hl,⟨Or.inl,?_⟩⟩
   rintro (h | ⟨i,hi,q,hq,hw,rfl⟩)
   ·exact h
   ·exfalso
    obtain⟨d',hd'⟩:∃d',D[i]?=some d':=⟨D[i]'(by omega),List.getElem?_eq_getElem (by omega)⟩
    have hg:=hE i d' hi hd' q hq
    have h1:=C.mono i j d' d (by omega) hd' hd
    have h2:=hg.hi
    have hfq:far ev.time q.first=ev.time - q.first:=far_eq (by omega) hg.lo (C.hi ev hem)
    omega
  ·rw[if_neg hf]
   have hl':∀y∈puts l (longer P (E s j) ev step),Det ψ y:=by
    intro y hy
    have hm:∀y∈longer P (E s j) ev step,Det ψ y:=by
     intro y hy
     obtain⟨q,hq,_,rfl⟩:=mem_longer.1 hy
     exact det_ext (hgood q hq).det ev step
    rcases (mem_puts hl hm).1 hy with h | h
    ·exact hl y h
    ·exact hm y h
   obtain⟨g1,g2⟩:=ih (by omega) (fun i d hi=>hE i d (by omega)) _ hl'
   refine⟨g1,?_⟩
   rw[g2,mem_puts hl (by
    intro y hy
    obtain⟨q,hq,_,rfl⟩:=mem_longer.1 hy
    exact det_ext (hgood q hq).det ev step),mem_longer]
   constructor
   ·rintro ((h | ⟨q,h1,h2,h3⟩) | ⟨i,hi,q,h1,h2,h3⟩)
    ·exact Or.inl h
    ·exact Or.inr ⟨j,by omega,q,h1,h2,h3⟩
    ·exact Or.inr ⟨i,by omega,q,h1,h2,h3⟩
   ·rintro (h | ⟨i,hi,q,h1,h2,h3⟩)
    ·exact Or.inl (Or.inl h)
    ·by_cases e:i=j
     ·subst e;exact Or.inl (Or.inr ⟨q,h1,h2,h3⟩)
     ·exact Or.inr ⟨i,by omega,q,h1,h2,h3⟩
theorem mem_fromOld (ev:Ev)(step s:Nat)(os:List Rn)(ho:∀r∈os,Det ψ r)(l:List Rn)(hl:∀y∈l,Det ψ y)(x:Rn) :
  (∀y∈fromOld P os ev step s l,Det ψ y)∧(x∈fromOld P os ev step s l↔x∈l∨∃q∈os,q.step=s∧far ev.time q.first≤P.win∧x=ext q ev step):=by
 induction os generalizing l with
 | nil=>exact⟨hl,by simp[fromOld]⟩
 | cons r os ih=>
  have hr:=ho r List.mem_cons_self
  have hm:∀y∈longer P [r] ev step,Det ψ y:=by
   intro y hy
   obtain⟨q,hq,_,rfl⟩:=mem_longer.1 hy
   rw[List.mem_singleton.1 hq]
   exact det_ext hr ev step
  by_cases e:r.step=s
  ·have hl':∀y∈puts l (longer P [r] ev step),Det ψ y:=by
    intro y hy
    rcases (mem_puts hl hm).1 hy with h | h
    ·exact hl y h
    ·exact hm y h
   obtain⟨g1,g2⟩:=ih (fun q hq=>ho q (List.mem_cons_of_mem _ hq)) _ hl'
   have ee:fromOld P (r::os) ev step s l=fromOld P os ev step s (puts l (longer P [r] ev step)):=by
    unfold fromOld;rw[List.foldl_cons,if_pos e]
   rw[ee]
   refine⟨g1,?_⟩
   rw[g2,mem_puts hl hm,mem_longer]
   constructor
   ·rintro ((h | ⟨q,h1,h2,h3⟩) | ⟨q,h1,h2,h3,h4⟩)
    ·exact Or.inl h
    ·rw[List.mem_singleton.1 h1] at h2 h3
     exact Or.inr ⟨r,List.mem_cons_self,e,h2,h3⟩
    ·exact Or.inr ⟨q,List.mem_cons_of_mem _ h1,h2,h3,h4⟩
   ·rintro (h | ⟨q,h1,h2,h3,h4⟩)
    ·exact Or.inl (Or.inl h)
    ·rcases List.mem_cons.1 h1 with rfl | h1
     ·exact Or.inl (Or.inr ⟨q,List.mem_singleton.2 rfl,h3,h4⟩)
     ·exact Or.inr ⟨q,h1,h2,h3,h4⟩
  ·obtain⟨g1,g2⟩:=ih (fun q hq=>ho q (List.mem_cons_of_mem _ hq)) l hl
   have ee:fromOld P (r::os) ev step s l=fromOld P os ev step s l:=by
    unfold fromOld;rw[List.foldl_cons,if_neg e]
   rw[ee]
   refine⟨g1,?_⟩
   rw[g2]
   constructor
   ·rintro (h | ⟨q,h1,h2⟩)
    ·exact Or.inl h
    ·exact Or.inr ⟨q,List.mem_cons_of_mem _ h1,h2⟩
   ·rintro (h | ⟨q,h1,h2,h3⟩)
    ·exact Or.inl h
    ·rcases List.mem_cons.1 h1 with rfl | h1
     ·exact absurd h2 e
     ·exact Or.inr ⟨q,h1,h2,h3⟩
end
end En
end Go.Proofs.YtfldcmdhneegmaaGreatDoor
namespace Go.Proofs.YtfldcmdhneegmaaGreatDoor
open Go.RowKit Go.Lib
theorem hid {p:Prop}(h:p):Hid p:=h
theorem own_slice {w:World}{base:Nat}{e:TypeId}{size:Nat}{v:Value}{n:Nat}{xs:List Value}(h:w.ownsRow base e size v n xs):∃ao cap,v=.slice ao n cap:=by
 rcases h.2 with ⟨rfl,rfl⟩ | ⟨g,cap,cur,rfl,_⟩
 ·exact⟨_,_,rfl⟩
 ·exact⟨_,_,rfl⟩
theorem own_block {w:World}{base:Nat}{e:TypeId}{size:Nat}{v:Value}{n:Nat}{xs:List Value}(h:w.ownsRow base e size v n xs):∀g,v.ownBlock=some g→base≤g∧∃c fz,w.heap[g]?=some (.cells c e fz):=by
 intro g hg
 rcases h.2 with ⟨rfl,_⟩ | ⟨g',cap,cur,rfl,hb,hgg,_⟩
 ·simp[Value.ownBlock] at hg
 ·simp[Value.ownBlock] at hg
  subst hg
  exact⟨hb,cur,_,hgg⟩
theorem own_mono {w:World}{base base':Nat}{e:TypeId}{size:Nat}{v:Value}{n:Nat}{xs:List Value}(h:w.ownsRow base e size v n xs)(hb:base'≤base):w.ownsRow base' e size v n xs:=by
 refine⟨h.1,?_⟩
 rcases h.2 with h2 | ⟨g,cap,cur,hv,hg,r⟩
 ·exact Or.inl h2
 ·exact Or.inr ⟨g,cap,cur,hv,by omega,r⟩
theorem own_below {w w1:World}{base:Nat}{e:TypeId}{size:Nat}{v:Value}{n:Nat}{xs:List Value}(h:w.ownsRow base e size v n xs)(hb:Below w.heap.size w w1):w1.ownsRow base e size v n xs:=by
 refine⟨h.1,?_⟩
 rcases h.2 with h2 | ⟨g,cap,cur,hv,hg,hh,r⟩
 ·exact Or.inl h2
 ·exact Or.inr ⟨g,cap,cur,hv,hg,by rw[hb.block g (lt_of_block hh)];exact hh,r⟩
theorem own_other {w:World}{base base':Nat}{e e':TypeId}{size size':Nat}{v v':Value}{n n':Nat}{xs xs':List Value}(h:w.ownsRow base e size v n xs)(h':w.ownsRow base' e' size' v' n' xs')(hne:e≠e'):v.ownBlock=none∨v.ownBlock≠v'.ownBlock:=by
 cases hv:v.ownBlock with
 | none=>exact Or.inl rfl
 | some g=>
  right
  intro he
  obtain⟨-,c,fz,h1⟩:=own_block h g hv
  obtain⟨-,c',fz',h2⟩:=own_block h' g he.symm
  rw[h1] at h2
  cases h2
  exact hne rfl
end Go.Proofs.YtfldcmdhneegmaaGreatDoor
namespace Go.Proofs.YtfldcmdhneegmaaGreatDoor
namespace En
def evLt (a b:Ev):Bool:=decide (a.time < b.time) || (decide (a.time=b.time) && decide (a.off < b.off))
def evLe (a b:Ev):Prop:=evLt b a=false
theorem evLt_iff {a b:Ev}:evLt a b=true↔a.time < b.time∨(a.time=b.time∧a.off < b.off):=by simp[evLt]
theorem evLe_iff {a b:Ev}:evLe a b↔¬ (b.time < a.time∨(b.time=a.time∧b.off < a.off)):=by
 unfold evLe
 rw[← evLt_iff]
 simp
theorem evLe.refl (a:Ev):evLe a a:=by rw[evLe_iff];omega
theorem evLe.trans {a b c:Ev}(h1:evLe a b)(h2:evLe b c):evLe a c:=by rw[evLe_iff] at *;omega
theorem evLt.le {a b:Ev}(h:evLt a b=true):evLe a b:=by rw[evLt_iff] at h;rw[evLe_iff];omega
def nth (l:List Ev)(k:Nat):Ev:=l.getD k ⟨0,0,0⟩
theorem nth_eq {l:List Ev}{k:Nat}(h:k < l.length):nth l k=l[k]:=by unfold nth;simp[h]
def swap (l:List Ev)(i j:Nat):List Ev:=(l.set i (nth l j)).set j (nth l i)
theorem swap_length (l:List Ev)(i j:Nat):(swap l i j).length=l.length:=by simp[swap]
theorem nth_swap {l:List Ev}{i j:Nat}(hi:i < l.length)(hj:j < l.length)(k:Nat):nth (swap l i j) k=if k=j then nth l i else if k=i then nth l j else nth l k:=by
 unfold swap nth
 simp only[List.getD_eq_getElem?_getD,List.getElem?_set]
 by_cases h1:k=j
 ·subst h1
  simp[hj]
 ·have h1':¬ j=k:=fun e=>h1 e.symm
  by_cases h2:k=i
  ·subst h2
   simp[h1,h1',hi]
  ·have h2':¬ i=k:=fun e=>h2 e.symm
   simp[h1,h1',h2,h2']
theorem swap_perm {l:List Ev}{i j:Nat}(hi:i < l.length)(hj:j < l.length):(swap l i j).Perm l:=by
 have h:=Array.swap_perm (xs:=l.toArray) (i:=i) (j:=j) (by simpa using hi) (by simpa using hj)
 have e:(l.toArray.swap i j (by simpa using hi) (by simpa using hj)).toList=swap l i j:=by
  rw[Array.toList_swap]
  unfold swap
  rw[nth_eq hi,nth_eq hj]
  rfl
 have h2:=Array.perm_iff_toList_perm.1 h
 rw[e] at h2
 exact h2
def Hp (l:List Ev)(n:Nat):Prop:=∀k,0 < k→k < n→evLe (nth l ((k - 1) / 2)) (nth l k)
theorem Hp.front {l:List Ev}{n:Nat}(h:Hp l n):∀k,k < n→evLe (nth l 0) (nth l k):=by
 intro k
 induction k using Nat.strongRecOn with
 | ind k ih=>
  intro hk
  by_cases h0:k=0
  ·subst h0;exact evLe.refl _
  ·exact (ih ((k - 1) / 2) (by omega) (by omega)).trans (h k (by omega) hk)
structure UpInv (l:List Ev)(j:Nat):Prop where
 lt:j < l.length
 other:∀k,0 < k→k < l.length→k≠j→evLe (nth l ((k - 1) / 2)) (nth l k)
 skip:∀k,0 < k→k < l.length→(k - 1) / 2=j→0 < j→evLe (nth l ((j - 1) / 2)) (nth l k)
theorem UpInv.start {l:List Ev}(e:Ev)(h:Hp l l.length):UpInv (l++[e]) l.length:=by
 have hn:∀k,k < l.length→nth (l++[e]) k=nth l k:=by
  intro k hk
  unfold nth
  simp[List.getElem?_append_left hk]
 refine⟨by simp,?_,?_⟩
 ·intro k h0 hk hne
  simp at hk
  rw[hn k (by omega),hn _ (by omega)]
  exact h k h0 (by omega)
 ·intro k h0 hk he
  simp at hk
  omega
theorem UpInv.done {l:List Ev}{j:Nat}(h:UpInv l j)(hd:j=0∨evLe (nth l ((j - 1) / 2)) (nth l j)):Hp l l.length:=by
 intro k h0 hk
 by_cases hj:k=j
 ·subst hj
  rcases hd with h1 | h1
  ·omega
  ·exact h1
 ·exact h.other k h0 hk hj
theorem UpInv.step {l:List Ev}{j:Nat}(h:UpInv l j)(h0:0 < j)(hlt:evLt (nth l j) (nth l ((j - 1) / 2))=true):UpInv (swap l ((j - 1) / 2) j) ((j - 1) / 2):=by
 have hj:=h.lt
 have hi:(j - 1) / 2 < l.length:=by omega
 refine⟨by rw[swap_length];exact hi,?_,?_⟩
 ·intro k k0 hk hne
  rw[swap_length] at hk
  rw[nth_swap hi hj,nth_swap hi hj]
  by_cases c1:k=j
  ·subst c1
   rw[if_pos rfl,if_neg (by omega),if_pos rfl]
   exact evLt.le hlt
  ·rw[if_neg c1,if_neg hne]
   by_cases c2:(k - 1) / 2=j
   ·rw[if_pos c2]
    exact h.skip k k0 hk c2 h0
   ·rw[if_neg c2]
    by_cases c3:(k - 1) / 2=(j - 1) / 2
    ·rw[if_pos c3]
     have:=h.other k k0 hk c1
     rw[c3] at this
     exact (evLt.le hlt).trans this
    ·rw[if_neg c3]
     exact h.other k k0 hk c1
 ·intro k k0 hk he hp
  rw[swap_length] at hk
  have hg:evLe (nth l (((j - 1) / 2 - 1) / 2)) (nth l ((j - 1) / 2)):=h.other _ hp hi (by omega)
  rw[nth_swap hi hj,nth_swap hi hj,if_neg (by omega:((j - 1) / 2 - 1) / 2≠j),if_neg (by omega:((j - 1) / 2 - 1) / 2≠(j - 1) / 2)]
  by_cases c1:k=j
  ·rw[if_pos c1];exact hg
  ·rw[if_neg c1,if_neg (by omega)]
   have:=h.other k k0 hk c1
   rw[he] at this
   exact hg.trans this
structure DownInv (l:List Ev)(n i:Nat):Prop where
 le:n≤l.length
 other:∀k,0 < k→k < n→(k - 1) / 2≠i→evLe (nth l ((k - 1) / 2)) (nth l k)
 skip:∀k,0 < k→k < n→(k - 1) / 2=i→0 < i→evLe (nth l ((i - 1) / 2)) (nth l k)
theorem DownInv.start {l:List Ev}{n:Nat}(h:Hp l (n+1))(hl:l.length=n+1):DownInv (swap l 0 n) n 0:=by
 refine⟨by rw[swap_length];omega,?_,by intro k _ _ _ h0;omega⟩
 intro k k0 hk hne
 rw[nth_swap (by omega) (by omega),nth_swap (by omega) (by omega),if_neg (by omega),if_neg hne,if_neg (by omega),if_neg (by omega)]
 exact h k k0 (by omega)
theorem DownInv.done {l:List Ev}{n i:Nat}(h:DownInv l n i)(h1:2 * i+1 < n→evLe (nth l i) (nth l (2 * i+1)))(h2:2 * i+2 < n→evLe (nth l i) (nth l (2 * i+2))):Hp l n:=by
 intro k k0 hk
 by_cases c:(k - 1) / 2=i
 ·rw[c]
  by_cases c1:k=2 * i+1
  ·rw[c1];exact h1 (by omega)
  ·have c2:k=2 * i+2:=by omega
   rw[c2];exact h2 (by omega)
 ·exact h.other k k0 hk c
theorem DownInv.step {l:List Ev}{n i j:Nat}(h:DownInv l n i)(hj:j < n)(hc:j=2 * i+1∨j=2 * i+2)(hlt:evLt (nth l j) (nth l i)=true)(hb:∀k,k < n→(k=2 * i+1∨k=2 * i+2)→evLe (nth l j) (nth l k)):DownInv (swap l i j) n j:=by
 have hl:=h.le
 have hjl:j < l.length:=by omega
 have hil:i < l.length:=by omega
 refine⟨by rw[swap_length];exact hl,?_,?_⟩
 ·intro k k0 hk hne
  rw[nth_swap hil hjl,nth_swap hil hjl,if_neg hne]
  by_cases c1:k=j
  ·have hp:(k - 1) / 2=i:=by omega
   rw[if_pos hp,if_pos c1]
   exact evLt.le hlt
  ·rw[if_neg c1]
   by_cases c2:(k - 1) / 2=i
   ·rw[if_pos c2]
    have hki:k≠i:=by omega
    rw[if_neg hki]
    exact hb k hk (by omega)
   ·rw[if_neg c2]
    by_cases c3:k=i
    ·rw[if_pos c3,c3]
     have:=h.skip j (by omega) hj (by omega) (by omega)
     exact this
    ·rw[if_neg c3]
     exact h.other k k0 hk c2
 ·intro k k0 hk he _
  have hp:(j - 1) / 2=i:=by omega
  rw[nth_swap hil hjl,nth_swap hil hjl,hp,if_neg (by omega),if_pos rfl,if_neg (by omega),if_neg (by omega)]
  have:=h.other k k0 hk (by omega)
  rw[he] at this
  exact this
def ins:List Ev→Ev→List Ev
 | [],e=>[e]
 | x::t,e=>if evLt x e then x::ins t e else e::x::t
def sortEv (l:List Ev):List Ev:=l.foldl ins []
theorem ins_length (l:List Ev)(e:Ev):(ins l e).length=l.length+1:=by
 induction l with
 | nil=>rfl
 | cons x t ih=>unfold ins;split<;>simp[ih]
theorem ins_perm (l:List Ev)(e:Ev):(ins l e).Perm (e::l):=by
 induction l with
 | nil=>exact List.Perm.refl _
 | cons x t ih=>
  unfold ins
  split
  ·exact (List.Perm.cons x ih).trans (List.Perm.swap e x t)
  ·exact List.Perm.refl _
theorem sortEv_perm (l:List Ev):(sortEv l).Perm l:=by
 have h:∀(l m:List Ev),(l.foldl ins m).Perm (m++l):=by
  intro l
  induction l with
  | nil=>intro m;simp
  | cons x t ih=>
   intro m
   rw[List.foldl_cons]
   refine (ih _).trans ?_
   exact ((ins_perm m x).append_right t).trans (List.perm_middle.symm)
 exact h l []
def InOrd:List Ev→Prop
 | []=>True
 | x::t=>(∀y∈t,evLe x y)∧InOrd t
theorem ins_ord {l:List Ev}(e:Ev)(h:InOrd l):InOrd (ins l e):=by
 induction l with
 | nil=>exact⟨by simp,trivial⟩
 | cons x t ih=>
  unfold ins
  split
  ·rename_i hlt
   refine⟨?_,ih h.2⟩
   intro y hy
   have:=(ins_perm t e).mem_iff.1 hy
   rcases List.mem_cons.1 this with rfl | hm
   ·exact evLt.le hlt
   ·exact h.1 y hm
  ·rename_i hn
   have he:evLe e x:=by unfold evLe;simpa using hn
   refine⟨?_,h⟩
   intro y hy
   rcases List.mem_cons.1 hy with rfl | hm
   ·exact he
   ·exact he.trans (h.1 y hm)
theorem sortEv_ord (l:List Ev):InOrd (sortEv l):=by
 have h:∀(l m:List Ev),InOrd m→InOrd (l.foldl ins m):=by
  intro l
  induction l with
  | nil=>intro m hm;exact hm
  | cons x t ih=>intro m hm;exact ih _ (ins_ord x hm)
 exact h l [] trivial
def Apt (l:List Ev):Prop:=(l.map Ev.off).Nodup
theorem Apt.perm {l m:List Ev}(h:Apt l)(hp:m.Perm l):Apt m:=(hp.map Ev.off).nodup_iff.2 h
theorem le_antisymm {a b:Ev}(h1:evLe a b)(h2:evLe b a):a.off=b.off:=by
 rw[evLe_iff] at h1 h2
 omega
theorem ord_unique:∀{l m:List Ev},InOrd l→InOrd m→l.Perm m→Apt l→l=m
 | [],m,_,_,hp,_=>by rw[List.nil_perm.1 hp]
 | x::t,[],_,_,hp,_=>by
  have:=hp.length_eq
  simp at this
 | x::t,y::s,hl,hm,hp,ha=>by
  have hxy:x=y:=by
   have h1:y∈x::t:=hp.mem_iff.2 (List.mem_cons_self ..)
   have h2:x∈y::s:=hp.mem_iff.1 (List.mem_cons_self ..)
   rcases List.mem_cons.1 h1 with h1 | h1
   ·exact h1.symm
   rcases List.mem_cons.1 h2 with h2 | h2
   ·exact h2
   have e:=le_antisymm (hl.1 y h1) (hm.1 x h2)
   exfalso
   have hn:(x.off::t.map Ev.off).Nodup:=ha
   rw[List.nodup_cons] at hn
   exact hn.1 (e ▸ List.mem_map_of_mem h1)
  subst hxy
  have ht:Apt t:=by
   have hn:(x.off::t.map Ev.off).Nodup:=ha
   exact (List.nodup_cons.1 hn).2
  rw[ord_unique hl.2 hm.2 (List.Perm.cons_inv hp) ht]
theorem sortEv_front {l rest:List Ev}{e:Ev}(hp:(e::rest).Perm l)(ha:Apt l)(hm:∀y∈rest,evLe e y):sortEv l=e::sortEv rest:=by
 refine ord_unique (sortEv_ord l) ⟨?_,sortEv_ord rest⟩ ((sortEv_perm l).trans (hp.symm.trans (List.Perm.cons e (sortEv_perm rest).symm))) (ha.perm (sortEv_perm l))
 intro y hy
 exact hm y ((sortEv_perm rest).mem_iff.1 hy)
theorem sortEv_of_ord {l:List Ev}(h:InOrd l)(ha:Apt l):sortEv l=l:=ord_unique (sortEv_ord l) h (sortEv_perm l) (ha.perm (sortEv_perm l))
theorem InOrd.at:∀{l:List Ev} (_:InOrd l) (i j:Nat),i≤j→j < l.length→evLe (nth l i) (nth l j)
 | [],_,i,j,_,hj=>by simp at hj
 | x::t,h,0,0,_,_=>evLe.refl _
 | x::t,h,0,j+1,_,hj=>by
  have hj':j < t.length:=by simpa using hj
  have:nth (x::t) (j+1)=t[j]:=by rw[nth_eq hj];rfl
  rw[this]
  exact h.1 _ (List.getElem_mem hj')
 | x::t,h,i+1,0,hij,_=>by omega
 | x::t,h,i+1,j+1,hij,hj=>InOrd.at h.2 i j (by omega) (by simpa using hj)
theorem InOrd.heap {l:List Ev}(h:InOrd l):Hp l l.length:=fun k _ hk=>h.at _ k (by omega) hk
end En
namespace Sm
variable {α:Type}
structure Wk (lt:α→α→Bool):Prop where
 refl:∀a,lt a a=false
 trans:∀a b c,lt b a=false→lt c b=false→lt c a=false
 asym:∀a b,lt a b=true→lt b a=false
def Srt (lt:α→α→Bool)(l:List α):Prop:=l.Pairwise fun a b=>lt b a=false
variable {lt:α→α→Bool}
theorem Srt.last (W:Wk lt){X:List α}(h:Srt lt X){u x:α}(hu:u∈X)(hx:X.getLast?=some x):lt x u=false:=by
 obtain⟨ys,rfl⟩:∃ys,X=ys++[x]:=List.getLast?_eq_some_iff.1 hx
 rcases List.mem_append.1 hu with hu | hu
 ·exact (List.pairwise_append.1 h).2.2 u hu x (by simp)
 ·obtain rfl:u=x:=by simpa using hu
  exact W.refl _
theorem Srt.head (W:Wk lt){Y:List α}(h:Srt lt Y){v y:α}(hv:v∈Y)(hy:Y.head?=some y):lt v y=false:=by
 cases Y with
 | nil=>simp at hy
 | cons a t=>
  obtain rfl:a=y:=by simpa using hy
  rcases List.mem_cons.1 hv with rfl | hv
  ·exact W.refl _
  ·exact (List.pairwise_cons.1 h).1 v hv
theorem Srt.left {X Y:List α}(h:Srt lt (X++Y)):Srt lt X:=(List.pairwise_append.1 h).1
theorem Srt.right {X Y:List α}(h:Srt lt (X++Y)):Srt lt Y:=(List.pairwise_append.1 h).2.1
theorem joined {A B Z1 Z2:List α}(h:∀u∈A,∀v∈B,lt v u=false)(p1:Z1.Perm A)(p2:Z2.Perm B)(s1:Srt lt Z1)(s2:Srt lt Z2):Srt lt (Z1++Z2):=
 List.pairwise_append.2 ⟨s1,s2,fun u hu v hv=>h u (p1.mem_iff.1 hu) v (p2.mem_iff.1 hv)⟩
theorem perm4 {X1 X2 Y1 Y2 Z1 Z2:List α}(p1:Z1.Perm (X1++Y1))(p2:Z2.Perm (X2++Y2)):(Z1++Z2).Perm ((X1++X2)++(Y1++Y2)):=by
 refine (p1.append p2).trans ?_
 rw[List.append_assoc,List.append_assoc]
 refine List.Perm.append_left X1 ?_
 rw[← List.append_assoc,← List.append_assoc]
 exact List.Perm.append_right Y2 List.perm_append_comm
theorem one_in (W:Wk lt){x:α}{Y1 Y2:List α}(hY:Srt lt (Y1++Y2))(h1:∀y,Y1.getLast?=some y→lt x y=false)(h2:∀y,Y2.head?=some y→lt y x=false):Srt lt (Y1++x::Y2):=by
 refine List.pairwise_append.2 ⟨hY.left,List.pairwise_cons.2 ⟨?_,hY.right⟩,?_⟩
 ·intro v hv
  cases hh:Y2.head? with
  | none=>rw[List.head?_eq_none_iff.1 hh] at hv;simp at hv
  | some y=>exact W.trans _ _ _ (h2 y hh) (hY.right.head W hv hh)
 ·intro u hu v hv
  have hx:lt x u=false:=by
   cases hl:Y1.getLast? with
   | none=>rw[List.getLast?_eq_none_iff.1 hl] at hu;simp at hu
   | some y=>exact W.trans _ _ _ (hY.left.last W hu hl) (h1 y hl)
  rcases List.mem_cons.1 hv with rfl | hv
  ·exact hx
  ·exact (List.pairwise_append.1 hY).2.2 u hu v hv
end Sm
namespace Sm
variable {α:Type} {lt:α→α→Bool}
end Sm
namespace En
theorem ord_back (P:Pat)(D:List Ev)(E:Nat→Nat→List Rn)(ev:Ev)(step s j:Nat)(l:List Rn)(h:Ord l):Ord (back P D E ev step s j l):=by
 induction j generalizing l with
 | zero=>exact h
 | succ j ih=>
  unfold back
  split
  ·exact h
  ·split
   ·exact h
   ·exact ih _ (ord_puts h)
theorem ord_fromOld (P:Pat)(old:List Rn)(ev:Ev)(step s:Nat)(l:List Rn)(h:Ord l):Ord (fromOld P old ev step s l):=by
 induction old generalizing l with
 | nil=>exact h
 | cons r os ih=>
  unfold fromOld
  rw[List.foldl_cons]
  split
  ·exact ih _ (ord_puts h)
  ·exact ih _ h
theorem ord_endsF (P:Pat)(D:List Ev)(old:List Rn)(f step k:Nat):Ord (endsF P D old f step k):=by
 cases f with
 | zero=>exact trivial
 | succ f=>
  unfold endsF
  split
  ·exact trivial
  ·split
   ·exact trivial
   ·have h0:∀ev:Ev,Ord (if step=0 then [{ step:=0,offs:=[ev.off],first:=ev.time }] else []):=by
     intro ev
     split
     ·exact⟨by simp,trivial⟩
     ·exact trivial
    have h1:∀ev:Ev,Ord (if 0 < step then fromOld P old ev step (step - 1) (back P D (endsF P D old f) ev step (step - 1) k (if step=0 then [{ step:=0,offs:=[ev.off],first:=ev.time }] else [])) else (if step=0 then [{ step:=0,offs:=[ev.off],first:=ev.time }] else [])):=by
     intro ev
     split
     ·exact ord_fromOld _ _ _ _ _ _ (ord_back _ _ _ _ _ _ _ _ (h0 ev))
     ·exact h0 ev
    simp only[]
    split
    ·exact ord_fromOld _ _ _ _ _ _ (ord_back _ _ _ _ _ _ _ _ (h1 _))
    ·exact h1 _
section
variable {P:Pat} {D:List Ev} {old:List Rn} {ψ:Int→Int}
def From (P:Pat)(old:List Rn)(E:Nat→Nat→List Rn)(ev:Ev)(step k:Nat)(x:Rn):Prop:=
 (step=0∧x={ step:=0,offs:=[ev.off],first:=ev.time }) ∨
 ∃q,(q∈old∨∃j,j < k∧q∈E q.step j)∧(q.step+1=step∨(q.step=step∧plusAt P step=true))∧far ev.time q.first≤P.win∧x=ext q ev step
theorem endsF_all (C:Ctx P D old ψ)(f step k:Nat)(hk:k < f)(ev:Ev)(hev:D[k]?=some ev) :
  (∀r∈endsF P D old f step k,Good ψ ev step r)∧∀x,x∈endsF P D old f step k↔kindAt P step=some ev.kind∧From P old (endsF P D old (f - 1)) ev step k x:=by
 induction f generalizing step k ev with
 | zero=>omega
 | succ f ih=>
  have hem:ev∈D:=List.mem_of_getElem? hev
  have hgood:∀s i d,i < k→D[i]?=some d→∀r∈endsF P D old f s i,Good ψ d s r:=fun s i d hi hd=>(ih s i (by omega) d hd).1
  rw[Nat.add_sub_cancel]
  by_cases hkind:kindAt P step=some ev.kind
  ·have hun:endsF P D old (f+1) step k=(let l0:List Rn:=if step=0 then [{ step:=0,offs:=[ev.off],first:=ev.time }] else []
     let l1:=if 0 < step then fromOld P old ev step (step - 1) (back P D (endsF P D old f) ev step (step - 1) k l0) else l0
     if plusAt P step then fromOld P old ev step step (back P D (endsF P D old f) ev step step k l1) else l1):=by
    rw[endsF,hev]
    simp only[]
    rw[if_neg (by simpa using hkind)]
   have hd0:∀y∈(if step=0 then [{ step:=0,offs:=[ev.off],first:=ev.time }] else []:List Rn),Det ψ y:=by
    intro y hy
    split at hy
    ·rw[List.mem_singleton.1 hy]
     exact⟨by simp,by simpa using C.ev ev hem⟩
    ·cases hy
   have key:∀x,x∈endsF P D old (f+1) step k↔From P old (endsF P D old f) ev step k x:=by
    intro x
    rw[hun]
    simp only[]
    have h1:(∀y∈(if 0 < step then fromOld P old ev step (step - 1) (back P D (endsF P D old f) ev step (step - 1) k (if step=0 then [{ step:=0,offs:=[ev.off],first:=ev.time }] else [])) else (if step=0 then [{ step:=0,offs:=[ev.off],first:=ev.time }] else [])),Det ψ y) ∧
      ∀x,x∈(if 0 < step then fromOld P old ev step (step - 1) (back P D (endsF P D old f) ev step (step - 1) k (if step=0 then [{ step:=0,offs:=[ev.off],first:=ev.time }] else [])) else (if step=0 then [{ step:=0,offs:=[ev.off],first:=ev.time }] else [])) ↔
       (step=0∧x={ step:=0,offs:=[ev.off],first:=ev.time })∨∃q,(q∈old∨∃j,j < k∧q∈endsF P D old f q.step j)∧q.step+1=step∧far ev.time q.first≤P.win∧x=ext q ev step:=by
     by_cases hs:0 < step
     ·rw[if_pos hs]
      have b1:=fun x=>mem_back C (endsF P D old f) k ev hev step (step - 1) k (Nat.le_refl _) (fun i d hi hd=>hgood (step - 1) i d hi hd) _ hd0 x
      have o1:=fun x=>mem_fromOld (P:=P) ev step (step - 1) old C.det _ (b1 x).1 x
      refine⟨fun y hy=>(o1 y).1 y hy,fun x=>?_⟩
      rw[(o1 x).2,(b1 x).2,if_neg (show ¬ step=0 by omega)]
      constructor
      ·rintro ((h | ⟨i,hi,q,h1,h2,h3⟩) | ⟨q,h1,h2,h3,h4⟩)
       ·cases h
       ·obtain⟨d,hd⟩:∃d,D[i]?=some d:=by
         have:k < D.length:=by
          rcases Nat.lt_or_ge k D.length with h | h
          ·exact h
          ·rw[List.getElem?_eq_none h] at hev;cases hev
         exact⟨D[i]'(by omega),List.getElem?_eq_getElem (by omega)⟩
        have hst:=(hgood _ i d hi hd q h1).step
        exact Or.inr ⟨q,Or.inr ⟨i,hi,by rw[hst];exact h1⟩,by omega,h2,h3⟩
       ·exact Or.inr ⟨q,Or.inl h1,by omega,h3,h4⟩
      ·rintro (⟨h,_⟩ | ⟨q,h1,h2,h3,h4⟩)
       ·omega
       ·have e:q.step=step - 1:=by omega
        rcases h1 with h1 | ⟨j,hj,h1⟩
        ·exact Or.inr ⟨q,h1,e,h3,h4⟩
        ·exact Or.inl (Or.inr ⟨j,hj,q,by rw[← e];exact h1,h3,h4⟩)
     ·have hs0:step=0:=by omega
      rw[if_neg hs]
      refine⟨hd0,fun x=>?_⟩
      rw[if_pos hs0,List.mem_singleton]
      constructor
      ·intro h;exact Or.inl ⟨hs0,h⟩
      ·rintro (⟨_,h⟩ | ⟨q,_,h2,_⟩)
       ·exact h
       ·omega
    by_cases hp:plusAt P step=true
    ·rw[if_pos hp]
     have b2:=fun x=>mem_back C (endsF P D old f) k ev hev step step k (Nat.le_refl _) (fun i d hi hd=>hgood step i d hi hd) _ h1.1 x
     have o2:=fun x=>mem_fromOld (P:=P) ev step step old C.det _ (b2 x).1 x
     rw[(o2 x).2,(b2 x).2,h1.2]
     constructor
     ·rintro ((h | ⟨i,hi,q,g1,g2,g3⟩) | ⟨q,g1,g2,g3,g4⟩)
      ·rcases h with h | ⟨q,g1,g2,g3⟩
       ·exact Or.inl h
       ·exact Or.inr ⟨q,g1,Or.inl g2,g3⟩
      ·obtain⟨d,hd⟩:∃d,D[i]?=some d:=by
        have:k < D.length:=by
         rcases Nat.lt_or_ge k D.length with h | h
         ·exact h
         ·rw[List.getElem?_eq_none h] at hev;cases hev
        exact⟨D[i]'(by omega),List.getElem?_eq_getElem (by omega)⟩
       have hst:=(hgood _ i d hi hd q g1).step
       exact Or.inr ⟨q,Or.inr ⟨i,hi,by rw[hst];exact g1⟩,Or.inr ⟨hst,hp⟩,g2,g3⟩
      ·exact Or.inr ⟨q,Or.inl g1,Or.inr ⟨g2,hp⟩,g3,g4⟩
     ·rintro (h | ⟨q,g1,g2,g3,g4⟩)
      ·exact Or.inl (Or.inl (Or.inl h))
      ·rcases g2 with g2 | ⟨g2,_⟩
       ·exact Or.inl (Or.inl (Or.inr ⟨q,g1,g2,g3,g4⟩))
       ·rcases g1 with g1 | ⟨j,hj,g1⟩
        ·exact Or.inr ⟨q,g1,g2,g3,g4⟩
        ·exact Or.inl (Or.inr ⟨j,hj,q,by rw[← g2];exact g1,g3,g4⟩)
    ·rw[if_neg hp,h1.2]
     constructor
     ·rintro (h | ⟨q,g1,g2,g3⟩)
      ·exact Or.inl h
      ·exact Or.inr ⟨q,g1,Or.inl g2,g3⟩
     ·rintro (h | ⟨q,g1,g2,g3,g4⟩)
      ·exact Or.inl h
      ·rcases g2 with g2 | ⟨_,g2⟩
       ·exact Or.inr ⟨q,g1,g2,g3,g4⟩
       ·exact absurd g2 hp
   refine⟨fun r hr=>?_,fun x=>by rw[key x];exact⟨fun h=>⟨hkind,h⟩,fun h=>h.2⟩⟩
   rcases (key r).1 hr with ⟨hs,rfl⟩ | ⟨q,h1,_,_,rfl⟩
   ·exact⟨⟨by simp,by simpa using C.ev ev hem⟩,hs.symm,C.lo ev hem,Int.le_refl _⟩
   ·rcases h1 with h1 | ⟨j,hj,h1⟩
    ·exact⟨det_ext (C.det q h1) ev step,rfl,C.olo q h1,C.ohi q h1 ev hem⟩
    ·obtain⟨d,hd⟩:∃d,D[j]?=some d:=by
      have:k < D.length:=by
       rcases Nat.lt_or_ge k D.length with h | h
       ·exact h
       ·rw[List.getElem?_eq_none h] at hev;cases hev
      exact⟨D[j]'(by omega),List.getElem?_eq_getElem (by omega)⟩
     have hg:=hgood _ j d hj hd q h1
     have hm:=C.mono j k d ev (by omega) hd hev
     have hh:=hg.hi
     exact⟨det_ext hg.det ev step,rfl,hg.lo,by show q.first≤ev.time;omega⟩
  ·have hun:endsF P D old (f+1) step k=[]:=by
    rw[endsF,hev]
    simp only[]
    rw[if_pos hkind]
   rw[hun]
   exact⟨by simp,fun x=>by simp[hkind]⟩
theorem endsF_fuel (C:Ctx P D old ψ)(f g step k:Nat)(hf:k < f)(hg:k < g):endsF P D old f step k=endsF P D old g step k:=by
 induction k using Nat.strongRecOn generalizing f g step with
 | ind k ih=>
  cases hd:D[k]? with
  | none=>
   obtain⟨f,rfl⟩:∃f',f=f'+1:=⟨f - 1,by omega⟩
   obtain⟨g,rfl⟩:∃g',g=g'+1:=⟨g - 1,by omega⟩
   rw[endsF,endsF,hd]
  | some ev=>
   refine ord_ext (ord_endsF _ _ _ _ _ _) (ord_endsF _ _ _ _ _ _) (fun x=>?_)
   rw[(endsF_all C f step k hf ev hd).2 x,(endsF_all C g step k hg ev hd).2 x]
   unfold From
   constructor
   ·rintro⟨h0,h | ⟨q,h1,h2⟩⟩
    ·exact⟨h0,Or.inl h⟩
    ·refine⟨h0,Or.inr ⟨q,?_,h2⟩⟩
     rcases h1 with h1 | ⟨j,hj,h1⟩
     ·exact Or.inl h1
     ·exact Or.inr ⟨j,hj,by rw[ih j hj (g - 1) (f - 1) q.step (by omega) (by omega)];exact h1⟩
   ·rintro⟨h0,h | ⟨q,h1,h2⟩⟩
    ·exact⟨h0,Or.inl h⟩
    ·refine⟨h0,Or.inr ⟨q,?_,h2⟩⟩
     rcases h1 with h1 | ⟨j,hj,h1⟩
     ·exact Or.inl h1
     ·exact Or.inr ⟨j,hj,by rw[ih j hj (f - 1) (g - 1) q.step (by omega) (by omega)];exact h1⟩
theorem mem_ends (C:Ctx P D old ψ)(step k:Nat)(ev:Ev)(hev:D[k]?=some ev)(x:Rn) :
  x∈ends P D old step k↔kindAt P step=some ev.kind∧From P old (ends P D old) ev step k x:=by
 unfold ends
 rw[(endsF_all C (k+1) step k (Nat.lt_succ_self _) ev hev).2 x]
 unfold From
 constructor
 ·rintro⟨h0,h | ⟨q,h1,h2⟩⟩
  ·exact⟨h0,Or.inl h⟩
  ·refine⟨h0,Or.inr ⟨q,?_,h2⟩⟩
   rcases h1 with h1 | ⟨j,hj,h1⟩
   ·exact Or.inl h1
   ·exact Or.inr ⟨j,hj,by show q∈endsF P D old (j+1) q.step j;rw[endsF_fuel C (j+1) (k+1 - 1) q.step j (by omega) (by omega)];exact h1⟩
 ·rintro⟨h0,h | ⟨q,h1,h2⟩⟩
  ·exact⟨h0,Or.inl h⟩
  ·refine⟨h0,Or.inr ⟨q,?_,h2⟩⟩
   rcases h1 with h1 | ⟨j,hj,h1⟩
   ·exact Or.inl h1
   ·exact Or.inr ⟨j,hj,by rw[endsF_fuel C (k+1 - 1) (j+1) q.step j (by omega) (by omega)];exact h1⟩
theorem good_ends (C:Ctx P D old ψ)(step k:Nat)(ev:Ev)(hev:D[k]?=some ev):∀r∈ends P D old step k,Good ψ ev step r:=
 (endsF_all C (k+1) step k (Nat.lt_succ_self _) ev hev).1
theorem ord_ends (P:Pat)(D:List Ev)(old:List Rn)(step k:Nat):Ord (ends P D old step k):=ord_endsF _ _ _ _ _ _
end
end En
namespace En
def underAt (P:Pat)(D:List Ev)(old:List Rn)(t most:Int)(k:Nat)(l:List Rn):List Rn:=
 (List.range P.steps.length).foldl (fun l s=>if goes P s then puts l ((ends P D old s k).filter fun r=>decide (far t r.first≤most)) else l) l
def under (P:Pat)(D:List Ev)(old:List Rn)(t most:Int):List Rn:=
 (List.range D.length).foldl (fun l k=>match D[k]? with
  | none=>l
  | some d=>if most < 0∨far t d.time > most then l else underAt P D old t most k l) (puts [] (old.filter fun r=>decide (0≤most∧far t r.first≤most)))
theorem ord_underAt (P:Pat)(D:List Ev)(old:List Rn)(t most:Int)(k:Nat)(l:List Rn)(h:Ord l):Ord (underAt P D old t most k l):=by
 unfold underAt
 generalize List.range P.steps.length=ss
 induction ss generalizing l with
 | nil=>exact h
 | cons s ss ih=>
  rw[List.foldl_cons]
  split
  ·exact ih _ (ord_puts h)
  ·exact ih _ h
theorem ord_under (P:Pat)(D:List Ev)(old:List Rn)(t most:Int):Ord (under P D old t most):=by
 unfold under
 generalize List.range D.length=ks
 have h0:Ord (puts [] (old.filter fun r=>decide (0≤most∧far t r.first≤most))):=ord_puts trivial
 revert h0
 generalize puts [] (old.filter fun r=>decide (0≤most∧far t r.first≤most))=l
 intro h
 induction ks generalizing l with
 | nil=>exact h
 | cons k ks ih=>
  rw[List.foldl_cons]
  apply ih
  split
  ·exact h
  ·split
   ·exact h
   ·exact ord_underAt _ _ _ _ _ _ _ h
section
variable {P:Pat} {D:List Ev} {old:List Rn} {ψ:Int→Int}
theorem mem_underAt (C:Ctx P D old ψ)(t most:Int)(k:Nat)(d:Ev)(hd:D[k]?=some d)(l:List Rn)(hl:∀y∈l,Det ψ y)(x:Rn) :
  (∀y∈underAt P D old t most k l,Det ψ y)∧(x∈underAt P D old t most k l↔x∈l∨(x.step < P.steps.length∧goes P x.step=true∧x∈ends P D old x.step k∧far t x.first≤most)):=by
 have gen:∀(ss:List Nat) (l:List Rn),(∀y∈l,Det ψ y)→(∀y∈ss.foldl (fun l s=>if goes P s then puts l ((ends P D old s k).filter fun r=>decide (far t r.first≤most)) else l) l,Det ψ y) ∧
   (x∈ss.foldl (fun l s=>if goes P s then puts l ((ends P D old s k).filter fun r=>decide (far t r.first≤most)) else l) l↔x∈l∨(x.step∈ss∧goes P x.step=true∧x∈ends P D old x.step k∧far t x.first≤most)):=by
  intro ss
  induction ss with
  | nil=>intro l hl;exact⟨hl,by simp⟩
  | cons s ss ih=>
   intro l hl
   rw[List.foldl_cons]
   by_cases hg:goes P s=true
   ·rw[if_pos hg]
    have hm:∀y∈(ends P D old s k).filter fun r=>decide (far t r.first≤most),Det ψ y:=fun y hy=>(good_ends C s k d hd y (List.mem_filter.1 hy).1).det
    have hl':∀y∈puts l ((ends P D old s k).filter fun r=>decide (far t r.first≤most)),Det ψ y:=fun y hy=>by
     rcases (mem_puts hl hm).1 hy with h | h
     ·exact hl y h
     ·exact hm y h
    obtain⟨g1,g2⟩:=ih _ hl'
    refine⟨g1,?_⟩
    rw[g2,mem_puts hl hm,List.mem_filter]
    constructor
    ·rintro ((h | ⟨h1,h2⟩) | ⟨h1,h2⟩)
     ·exact Or.inl h
     ·have hs:=(good_ends C s k d hd x h1).step
      exact Or.inr ⟨by rw[hs];exact List.mem_cons_self,by rw[hs];exact hg,by rw[hs];exact h1,of_decide_eq_true h2⟩
     ·exact Or.inr ⟨List.mem_cons_of_mem _ h1,h2⟩
    ·rintro (h | ⟨h1,h2,h3,h4⟩)
     ·exact Or.inl (Or.inl h)
     ·rcases List.mem_cons.1 h1 with e | h1
      ·exact Or.inl (Or.inr ⟨by rw[← e];exact h3,decide_eq_true h4⟩)
      ·exact Or.inr ⟨h1,h2,h3,h4⟩
   ·rw[if_neg hg]
    obtain⟨g1,g2⟩:=ih _ hl
    refine⟨g1,?_⟩
    rw[g2]
    constructor
    ·rintro (h | ⟨h1,h2⟩)
     ·exact Or.inl h
     ·exact Or.inr ⟨List.mem_cons_of_mem _ h1,h2⟩
    ·rintro (h | ⟨h1,h2,h3⟩)
     ·exact Or.inl h
     ·rcases List.mem_cons.1 h1 with e | h1
      ·rw[e] at h2;exact absurd h2 hg
      ·exact Or.inr ⟨h1,h2,h3⟩
 have:=gen (List.range P.steps.length) l hl
 refine⟨this.1,?_⟩
 unfold underAt
 rw[this.2,List.mem_range]
theorem mem_under (C:Ctx P D old ψ)(t most:Int)(ht:t≤9223372036854775807)(hD:∀d∈D,d.time≤t)(x:Rn) :
  x∈under P D old t most↔0≤most∧far t x.first≤most∧(x∈old∨∃k,k < D.length∧x.step < P.steps.length∧goes P x.step=true∧x∈ends P D old x.step k):=by
 have ho:∀y∈(old.filter fun r=>decide (0≤most∧far t r.first≤most)),Det ψ y:=fun y hy=>C.det y (List.mem_filter.1 hy).1
 have h0:∀y∈puts [] (old.filter fun r=>decide (0≤most∧far t r.first≤most)),Det ψ y:=fun y hy=>by
  rcases (mem_puts (by simp) ho).1 hy with h | h
  ·cases h
  ·exact ho y h
 have gen:∀(ks:List Nat),(∀k∈ks,k < D.length)→∀(l:List Rn),(∀y∈l,Det ψ y) →
   (x∈ks.foldl (fun l k=>match D[k]? with | none=>l | some d=>if most < 0∨far t d.time > most then l else underAt P D old t most k l) l↔x∈l∨(0≤most∧far t x.first≤most∧∃k∈ks,x.step < P.steps.length∧goes P x.step=true∧x∈ends P D old x.step k)):=by
  intro ks
  induction ks with
  | nil=>intro _ l hl;simp
  | cons k ks ih=>
   intro hks l hl
   have hk:=hks k List.mem_cons_self
   have hks':∀j∈ks,j < D.length:=fun j hj=>hks j (List.mem_cons_of_mem _ hj)
   obtain⟨d,hd⟩:∃d,D[k]?=some d:=⟨D[k],List.getElem?_eq_getElem hk⟩
   have hdm:=List.mem_of_getElem? hd
   rw[List.foldl_cons,hd]
   simp only[]
   by_cases hc:most < 0∨far t d.time > most
   ·rw[if_pos hc,ih hks' l hl]
    constructor
    ·rintro (h | ⟨h1,h2,j,h3,h4⟩)
     ·exact Or.inl h
     ·exact Or.inr ⟨h1,h2,j,List.mem_cons_of_mem _ h3,h4⟩
    ·rintro (h | ⟨h1,h2,j,h3,h4⟩)
     ·exact Or.inl h
     ·rcases List.mem_cons.1 h3 with rfl | h3
      ·exfalso
       have hg:=good_ends C x.step j d hd x h4.2.2
       have e1:far t d.time=t - d.time:=far_eq (hD d hdm) (C.lo d hdm) ht
       have hh:=hg.hi
       have hdt:=hD d hdm
       have e2:far t x.first=t - x.first:=far_eq (by omega) hg.lo ht
       rcases hc with hc | hc<;>omega
      ·exact Or.inr ⟨h1,h2,j,h3,h4⟩
   ·rw[if_neg hc]
    have hu:=fun x=>mem_underAt C t most k d hd l hl x
    rw[ih hks' _ (hu x).1,(hu x).2]
    constructor
    ·rintro ((h | ⟨h1,h2,h3,h4⟩) | ⟨h1,h2,j,h3,h4⟩)
     ·exact Or.inl h
     ·exact Or.inr ⟨by omega,h4,k,List.mem_cons_self,h1,h2,h3⟩
     ·exact Or.inr ⟨h1,h2,j,List.mem_cons_of_mem _ h3,h4⟩
    ·rintro (h | ⟨h1,h2,j,h3,h4,h5,h6⟩)
     ·exact Or.inl (Or.inl h)
     ·rcases List.mem_cons.1 h3 with rfl | h3
      ·exact Or.inl (Or.inr ⟨h4,h5,h6,h2⟩)
      ·exact Or.inr ⟨h1,h2,j,h3,h4,h5,h6⟩
 unfold under
 rw[gen (List.range D.length) (fun k hk=>List.mem_range.1 hk) _ h0,mem_puts (by simp) ho,List.mem_filter]
 constructor
 ·rintro ((h | ⟨h1,h2⟩) | ⟨h1,h2,j,h3,h4⟩)
  ·cases h
  ·have:=of_decide_eq_true h2
   exact⟨this.1,this.2,Or.inl h1⟩
  ·exact⟨h1,h2,Or.inr ⟨j,List.mem_range.1 h3,h4⟩⟩
 ·rintro⟨h1,h2,h | ⟨j,h3,h4⟩⟩
  ·exact Or.inl (Or.inr ⟨h,decide_eq_true ⟨h1,h2⟩⟩)
  ·exact Or.inr ⟨h1,h2,j,List.mem_range.2 h3,h4⟩
def news (P:Pat)(A:List Rn)(ev:Ev)(step:Nat):List Rn:=
 if kindAt P step≠some ev.kind then [] else
  puts (if step=0 then [{ step:=0,offs:=[ev.off],first:=ev.time }] else []) (longer P (A.filter fun q=>decide (q.step+1=step) || (decide (q.step=step) && plusAt P step)) ev step)
theorem step_lt {P:Pat}{s:Nat}{c:Int}(h:kindAt P s=some c):s < P.steps.length:=by
 unfold kindAt at h
 rcases Nat.lt_or_ge s P.steps.length with h' | h'
 ·exact h'
 ·rw[List.getElem?_eq_none h'] at h;cases h
theorem ends_news (C:Ctx P D old ψ)(k:Nat)(ev:Ev)(hev:D[k]?=some ev)(A:List Rn)(hA:∀q∈A,Det ψ q)
  (hU:∀q,goes P q.step=true→far ev.time q.first≤P.win→(q∈A↔(q∈old∨∃j,j < k∧q∈ends P D old q.step j))) (step:Nat):ends P D old step k=news P A ev step:=by
 have hem:ev∈D:=List.mem_of_getElem? hev
 by_cases hk:kindAt P step=some ev.kind
 ·have hst:=step_lt hk
  have hun:news P A ev step=puts (if step=0 then [{ step:=0,offs:=[ev.off],first:=ev.time }] else []) (longer P (A.filter fun q=>decide (q.step+1=step) || (decide (q.step=step) && plusAt P step)) ev step):=by
   unfold news;rw[if_neg (by simpa using hk)]
  have hd0:∀y∈(if step=0 then [{ step:=0,offs:=[ev.off],first:=ev.time }] else []:List Rn),Det ψ y:=by
   intro y hy
   split at hy
   ·rw[List.mem_singleton.1 hy]
    exact⟨by simp,by simpa using C.ev ev hem⟩
   ·cases hy
  have hdm:∀y∈longer P (A.filter fun q=>decide (q.step+1=step) || (decide (q.step=step) && plusAt P step)) ev step,Det ψ y:=by
   intro y hy
   obtain⟨q,hq,_,rfl⟩:=mem_longer.1 hy
   exact det_ext (hA q (List.mem_filter.1 hq).1) ev step
  have ho0:Ord (if step=0 then [{ step:=0,offs:=[ev.off],first:=ev.time }] else []:List Rn):=by
   split
   ·exact⟨by simp,trivial⟩
   ·exact trivial
  have hgo:∀q:Rn,(q.step+1=step∨(q.step=step∧plusAt P step=true))→goes P q.step=true:=by
   rintro q (h | ⟨h1,h2⟩)
   ·unfold goes;rw[Bool.or_eq_true];left;exact decide_eq_true (by omega)
   ·unfold goes;rw[Bool.or_eq_true];right;rw[h1];exact h2
  rw[hun]
  refine ord_ext (ord_ends _ _ _ _ _) (ord_puts ho0) (fun x=>?_)
  rw[mem_ends C step k ev hev x,mem_puts hd0 hdm,mem_longer]
  unfold From
  constructor
  ·rintro⟨_,⟨h1,h2⟩ | ⟨q,h1,h2,h3,h4⟩⟩
   ·left;rw[if_pos h1,h2];exact List.mem_singleton.2 rfl
   ·right
    refine⟨q,List.mem_filter.2 ⟨(hU q (hgo q h2) h3).2 h1,?_⟩,h3,h4⟩
    rw[Bool.or_eq_true]
    rcases h2 with h2 | ⟨h2,h5⟩
    ·left;exact decide_eq_true h2
    ·right;rw[Bool.and_eq_true];exact⟨decide_eq_true h2,h5⟩
  ·rintro (h | ⟨q,h1,h2,h3⟩)
   ·split at h
    ·rename_i hs
     exact⟨hk,Or.inl ⟨hs,List.mem_singleton.1 h⟩⟩
    ·cases h
   ·obtain⟨h4,h5⟩:=List.mem_filter.1 h1
    have h6:q.step+1=step∨(q.step=step∧plusAt P step=true):=by
     rw[Bool.or_eq_true] at h5
     rcases h5 with h5 | h5
     ·exact Or.inl (of_decide_eq_true h5)
     ·rw[Bool.and_eq_true] at h5
      exact Or.inr ⟨of_decide_eq_true h5.1,h5.2⟩
    exact⟨hk,Or.inr ⟨q,(hU q (hgo q h6) h2).1 h4,h6,h2,h3⟩⟩
 ·have h1:news P A ev step=[]:=by unfold news;rw[if_pos hk]
  rw[h1]
  refine ord_ext (ord_ends _ _ _ _ _) trivial (fun x=>?_)
  rw[mem_ends C step k ev hev x]
  simp[hk]
end
end En
namespace En
theorem Ctx.pre {P:Pat}{D R:List Ev}{old:List Rn}{ψ:Int→Int}(C:Ctx P (D++R) old ψ):Ctx P D old ψ where
 w0:=C.w0
 w1:=C.w1
 ev:=fun d h=>C.ev d (List.mem_append_left _ h)
 lo:=fun d h=>C.lo d (List.mem_append_left _ h)
 hi:=fun d h=>C.hi d (List.mem_append_left _ h)
 mono:=fun i j a b hij ha hb=>by
  have la:i < D.length:=by
   rcases Nat.lt_or_ge i D.length with h | h
   ·exact h
   ·rw[List.getElem?_eq_none h] at ha;cases ha
  have lb:j < D.length:=by
   rcases Nat.lt_or_ge j D.length with h | h
   ·exact h
   ·rw[List.getElem?_eq_none h] at hb;cases hb
  exact C.mono i j a b hij (by rw[List.getElem?_append_left la];exact ha) (by rw[List.getElem?_append_left lb];exact hb)
 det:=C.det
 olo:=C.olo
 ohi:=fun r hr d hd=>C.ohi r hr d (List.mem_append_left _ hd)
theorem ends_prefix {P:Pat}{D R:List Ev}{old:List Rn}{ψ:Int→Int}(C:Ctx P (D++R) old ψ)(s k:Nat)(hk:k < D.length):ends P (D++R) old s k=ends P D old s k:=by
 induction k using Nat.strongRecOn generalizing s with
 | ind k ih=>
  have hd:D[k]?=some D[k]:=List.getElem?_eq_getElem hk
  have hd':(D++R)[k]?=some D[k]:=by rw[List.getElem?_append_left hk];exact hd
  refine ord_ext (ord_ends _ _ _ _ _) (ord_ends _ _ _ _ _) (fun x=>?_)
  rw[mem_ends C s k _ hd' x,mem_ends C.pre s k _ hd x]
  unfold From
  constructor
  ·rintro⟨h0,h | ⟨q,h1,h2⟩⟩
   ·exact⟨h0,Or.inl h⟩
   ·refine⟨h0,Or.inr ⟨q,?_,h2⟩⟩
    rcases h1 with h1 | ⟨j,hj,h1⟩
    ·exact Or.inl h1
    ·exact Or.inr ⟨j,hj,by rw[← ih j hj q.step (by omega)];exact h1⟩
  ·rintro⟨h0,h | ⟨q,h1,h2⟩⟩
   ·exact⟨h0,Or.inl h⟩
   ·refine⟨h0,Or.inr ⟨q,?_,h2⟩⟩
    rcases h1 with h1 | ⟨j,hj,h1⟩
    ·exact Or.inl h1
    ·exact Or.inr ⟨j,hj,by rw[ih j hj q.step (by omega)];exact h1⟩
def advRef (P:Pat)(old:List Rn):List Ev→List Ev→Option (List (List Int × Int) × List Ev)
 | D,[]=>some ([],D)
 | D,ev::rest=>if 24 < (under P (D++[ev]) old ev.time P.win).length then none else
   match advRef P old (D++[ev]) rest with
   | none=>none
   | some (m,E)=>some (((ends P (D++[ev]) old (P.steps.length - 1) D.length).map fun r=>(r.offs,ev.time))++m,E)
def next (P:Pat)(A:List Rn)(ev:Ev):List Rn:=
 (List.range P.steps.length).foldl (fun l s=>if goes P s then puts l (news P A ev s) else l) (A.filter fun r=>decide (far ev.time r.first≤P.win))
def advInc (P:Pat):List Rn→List Ev→Option (List (List Int × Int) × List Rn)
 | A,[]=>some ([],A)
 | A,ev::rest=>if 24 < (next P A ev).length then none else
   match advInc P (next P A ev) rest with
   | none=>none
   | some (m,B)=>some (((news P A ev (P.steps.length - 1)).map fun r=>(r.offs,ev.time))++m,B)
theorem ord_filter {l:List Rn}(p:Rn→Bool)(h:Ord l):Ord (l.filter p):=by
 induction l with
 | nil=>exact trivial
 | cons x t ih=>
  rw[List.filter_cons]
  split
  ·exact⟨fun y hy=>h.1 y (List.mem_filter.1 hy).1,ih h.2⟩
  ·exact ih h.2
structure Cover (P:Pat)(D:List Ev)(old:List Rn)(ψ:Int→Int)(A:List Rn):Prop where
 ord:Ord A
 det:∀q∈A,Det ψ q
 lo:∀q∈A,-9223372036854775808≤q.first
 go:∀q∈A,q.step < P.steps.length∧goes P q.step=true
 sub:∀q∈A,q∈old∨∃j,j < D.length∧q∈ends P D old q.step j
 sup:∀q t,(∀d∈D,d.time≤t)→t≤9223372036854775807→far t q.first≤P.win→goes P q.step=true→q.step < P.steps.length→(q∈old∨∃j,j < D.length∧q∈ends P D old q.step j)→q∈A
theorem mem_next {P:Pat}{A:List Rn}{ev:Ev}{ψ:Int→Int}(hA:∀q∈A,Det ψ q)(hN:∀s,∀q∈news P A ev s,Det ψ q)(x:Rn) :
  x∈next P A ev↔(x∈A∧far ev.time x.first≤P.win)∨∃s,s < P.steps.length∧goes P s=true∧x∈news P A ev s:=by
 have gen:∀(ss:List Nat) (l:List Rn),(∀y∈l,Det ψ y)→(x∈ss.foldl (fun l s=>if goes P s then puts l (news P A ev s) else l) l↔x∈l∨∃s∈ss,goes P s=true∧x∈news P A ev s):=by
  intro ss
  induction ss with
  | nil=>intro l _;simp
  | cons s ss ih=>
   intro l hl
   rw[List.foldl_cons]
   by_cases hg:goes P s=true
   ·rw[if_pos hg]
    have hl':∀y∈puts l (news P A ev s),Det ψ y:=fun y hy=>by
     rcases (mem_puts hl (hN s)).1 hy with h | h
     ·exact hl y h
     ·exact hN s y h
    rw[ih _ hl',mem_puts hl (hN s)]
    constructor
    ·rintro ((h | h) | ⟨s',h1,h2⟩)
     ·exact Or.inl h
     ·exact Or.inr ⟨s,List.mem_cons_self,hg,h⟩
     ·exact Or.inr ⟨s',List.mem_cons_of_mem _ h1,h2⟩
    ·rintro (h | ⟨s',h1,h2,h3⟩)
     ·exact Or.inl (Or.inl h)
     ·rcases List.mem_cons.1 h1 with rfl | h1
      ·exact Or.inl (Or.inr h3)
      ·exact Or.inr ⟨s',h1,h2,h3⟩
   ·rw[if_neg hg,ih _ hl]
    constructor
    ·rintro (h | ⟨s',h1,h2⟩)
     ·exact Or.inl h
     ·exact Or.inr ⟨s',List.mem_cons_of_mem _ h1,h2⟩
    ·rintro (h | ⟨s',h1,h2,h3⟩)
     ·exact Or.inl h
     ·rcases List.mem_cons.1 h1 with rfl | h1
      ·exact absurd h2 hg
      ·exact Or.inr ⟨s',h1,h2,h3⟩
 unfold next
 rw[gen _ _ (fun y hy=>hA y (List.mem_filter.1 hy).1),List.mem_filter]
 constructor
 ·rintro (⟨h1,h2⟩ | ⟨s,h1,h2⟩)
  ·exact Or.inl ⟨h1,of_decide_eq_true h2⟩
  ·exact Or.inr ⟨s,List.mem_range.1 h1,h2⟩
 ·rintro (⟨h1,h2⟩ | ⟨s,h1,h2⟩)
  ·exact Or.inl ⟨h1,decide_eq_true h2⟩
  ·exact Or.inr ⟨s,List.mem_range.2 h1,h2⟩
theorem ord_next {P:Pat}{A:List Rn}{ev:Ev}(h:Ord A):Ord (next P A ev):=by
 unfold next
 have h0:Ord (A.filter fun r=>decide (far ev.time r.first≤P.win)):=ord_filter _ h
 revert h0
 generalize (A.filter fun r=>decide (far ev.time r.first≤P.win))=l
 generalize List.range P.steps.length=ss
 intro h0
 induction ss generalizing l with
 | nil=>exact h0
 | cons s ss ih=>
  rw[List.foldl_cons]
  split
  ·exact ih _ (ord_puts h0)
  ·exact ih _ h0
section
variable {P:Pat} {old:List Rn} {ψ:Int→Int}
theorem cover_step {D:List Ev}{ev:Ev}{A:List Rn}(C:Ctx P (D++[ev]) old ψ)(hg:∀q∈old,q.step < P.steps.length∧goes P q.step=true)(h:Cover P D old ψ A) :
  (∀s,ends P (D++[ev]) old s D.length=news P A ev s)∧under P (D++[ev]) old ev.time P.win=next P A ev∧Cover P (D++[ev]) old ψ (next P A ev):=by
 have hev:(D++[ev])[D.length]?=some ev:=by simp
 have hem:ev∈D++[ev]:=by simp
 have hle:∀d∈D++[ev],d.time≤ev.time:=by
  intro d hd
  obtain⟨i,hi,rfl⟩:=List.mem_iff_getElem.1 hd
  exact C.mono i D.length _ ev (by simp at hi;omega) (List.getElem?_eq_getElem hi) hev
 have hhi:=C.hi ev hem
 have hpre:∀s j,j < D.length→ends P (D++[ev]) old s j=ends P D old s j:=fun s j hj=>ends_prefix C s j hj
 have hen:∀s,ends P (D++[ev]) old s D.length=news P A ev s:=by
  intro s
  refine ends_news C D.length ev hev A h.det (fun q hq hf=>?_) s
  constructor
  ·intro hqA
   rcases h.sub q hqA with h1 | ⟨j,hj,h1⟩
   ·exact Or.inl h1
   ·exact Or.inr ⟨j,hj,by rw[hpre _ j hj];exact h1⟩
  ·intro h1
   refine h.sup q ev.time (fun d hd=>hle d (List.mem_append_left _ hd)) hhi hf hq ?_ ?_
   ·rcases h1 with h1 | ⟨j,hj,h1⟩
    ·exact (hg q h1).1
    ·have hj2:j < (D++[ev]).length:=by simp;omega
     have hd:(D++[ev])[j]?=some (D++[ev])[j]:=List.getElem?_eq_getElem hj2
     exact step_lt ((mem_ends C q.step j _ hd q).1 h1).1
   ·rcases h1 with h1 | ⟨j,hj,h1⟩
    ·exact Or.inl h1
    ·exact Or.inr ⟨j,hj,by rw[← hpre _ j hj];exact h1⟩
 have hN:∀s,∀q∈news P A ev s,Det ψ q:=fun s q hq=>(good_ends C s D.length ev hev q (by rw[hen s];exact hq)).det
 have hnx:=fun x=>mem_next (ev:=ev) (P:=P) h.det hN x
 have hfw:∀s,∀q∈news P A ev s,q.step=s∧far ev.time q.first≤P.win∧-9223372036854775808≤q.first:=by
  intro s q hq
  rw[← hen s] at hq
  have hgd:=good_ends C s D.length ev hev q hq
  refine⟨hgd.step,?_,hgd.lo⟩
  rcases ((mem_ends C s D.length ev hev q).1 hq).2 with ⟨_,rfl⟩ | ⟨p,_,_,hw,rfl⟩
  ·have:=C.w0
   unfold far
   simp
   omega
  ·exact hw
 have hun:under P (D++[ev]) old ev.time P.win=next P A ev:=by
  refine ord_ext (ord_under _ _ _ _ _) (ord_next h.ord) (fun x=>?_)
  rw[mem_under C ev.time P.win hhi hle x,hnx x]
  constructor
  ·rintro⟨_,hf,h1 | ⟨k,hk,h2,h3,h4⟩⟩
   ·exact Or.inl ⟨h.sup x ev.time (fun d hd=>hle d (List.mem_append_left _ hd)) hhi hf (hg x h1).2 (hg x h1).1 (Or.inl h1),hf⟩
   ·by_cases e:k=D.length
    ·subst e
     exact Or.inr ⟨x.step,h2,h3,by rw[← hen];exact h4⟩
    ·have hk':k < D.length:=by simp at hk;omega
     exact Or.inl ⟨h.sup x ev.time (fun d hd=>hle d (List.mem_append_left _ hd)) hhi hf h3 h2 (Or.inr ⟨k,hk',by rw[← hpre _ k hk'];exact h4⟩),hf⟩
  ·rintro (⟨h1,hf⟩ | ⟨s,h1,h2,h3⟩)
   ·refine⟨C.w0,hf,?_⟩
    rcases h.sub x h1 with h4 | ⟨j,hj,h4⟩
    ·exact Or.inl h4
    ·exact Or.inr ⟨j,by simp;omega,(h.go x h1).1,(h.go x h1).2,by rw[hpre _ j hj];exact h4⟩
   ·obtain⟨e,hf,_⟩:=hfw s x h3
    exact⟨C.w0,hf,Or.inr ⟨D.length,by simp,by rw[e];exact h1,by rw[e];exact h2,by rw[e,hen];exact h3⟩⟩
 refine⟨hen,hun,?_⟩
 refine⟨ord_next h.ord,fun q hq=>?_,fun q hq=>?_,fun q hq=>?_,fun q hq=>?_,fun q t ht htt hf hgq hst hq=>?_⟩
 ·rcases (hnx q).1 hq with ⟨h1,_⟩ | ⟨s,_,_,h1⟩
  ·exact h.det q h1
  ·exact hN s q h1
 ·rcases (hnx q).1 hq with ⟨h1,_⟩ | ⟨s,_,_,h1⟩
  ·exact h.lo q h1
  ·exact (hfw s q h1).2.2
 ·rcases (hnx q).1 hq with ⟨h1,_⟩ | ⟨s,h1,h2,h3⟩
  ·exact h.go q h1
  ·rw[(hfw s q h3).1];exact⟨h1,h2⟩
 ·rcases (hnx q).1 hq with ⟨h1,_⟩ | ⟨s,h1,h2,h3⟩
  ·rcases h.sub q h1 with h4 | ⟨j,hj,h4⟩
   ·exact Or.inl h4
   ·exact Or.inr ⟨j,by simp;omega,by rw[hpre _ j hj];exact h4⟩
  ·obtain⟨e,_,_⟩:=hfw s q h3
   exact Or.inr ⟨D.length,by simp,by rw[e,hen];exact h3⟩
 ·have hte:ev.time≤t:=ht ev hem
  have hlo:-9223372036854775808≤q.first∧q.first≤ev.time:=by
   rcases hq with h1 | ⟨j,hj,h1⟩
   ·exact⟨C.olo q h1,C.ohi q h1 ev hem⟩
   ·have hd:(D++[ev])[j]?=some (D++[ev])[j]:=List.getElem?_eq_getElem hj
    have hgd:=good_ends C q.step j _ hd q h1
    have h2:=hle _ (List.mem_of_getElem? hd)
    have h3:=hgd.hi
    exact⟨hgd.lo,by omega⟩
  have e1:far t q.first=t - q.first:=far_eq (by omega) hlo.1 htt
  have e2:far ev.time q.first=ev.time - q.first:=far_eq hlo.2 hlo.1 hhi
  have hfe:far ev.time q.first≤P.win:=by omega
  rw[hnx q]
  rcases hq with h1 | ⟨j,hj,h1⟩
  ·exact Or.inl ⟨h.sup q ev.time (fun d hd=>hle d (List.mem_append_left _ hd)) hhi hfe hgq hst (Or.inl h1),hfe⟩
  ·by_cases e:j=D.length
   ·subst e
    exact Or.inr ⟨q.step,hst,hgq,by rw[← hen];exact h1⟩
   ·have hj':j < D.length:=by simp at hj;omega
    exact Or.inl ⟨h.sup q ev.time (fun d hd=>hle d (List.mem_append_left _ hd)) hhi hfe hgq hst (Or.inr ⟨j,hj',by rw[← hpre _ j hj'];exact h1⟩),hfe⟩
theorem cover_start (hdet:∀r∈old,Det ψ r)(hord:Ord old)(hlo:∀r∈old,-9223372036854775808≤r.first)(hg:∀q∈old,q.step < P.steps.length∧goes P q.step=true):Cover P [] old ψ old:=
 ⟨hord,hdet,hlo,hg,fun q hq=>Or.inl hq,fun q t _ _ _ _ _ h=>h.elim id (fun ⟨j,hj,_⟩=>absurd hj (by simp))⟩
theorem adv_eq (l D:List Ev)(A:List Rn)(C:Ctx P (D++l) old ψ)(hg:∀q∈old,q.step < P.steps.length∧goes P q.step=true)(h:Cover P D old ψ A) :
  (advRef P old D l=none∧advInc P A l=none)∨∃m B,advRef P old D l=some (m,D++l)∧advInc P A l=some (m,B)∧Cover P (D++l) old ψ B:=by
 induction l generalizing D A with
 | nil=>exact Or.inr ⟨[],A,by simp[advRef],rfl,by simpa using h⟩
 | cons ev rest ih=>
  have C':Ctx P ((D++[ev])++rest) old ψ:=by simpa using C
  obtain⟨h1,h2,h3⟩:=cover_step C'.pre hg h
  unfold advRef advInc
  rw[h2]
  by_cases hc:24 < (next P A ev).length
  ·rw[if_pos hc,if_pos hc]
   exact Or.inl ⟨rfl,rfl⟩
  ·rw[if_neg hc,if_neg hc,h1]
   rcases ih (D++[ev]) (next P A ev) C' h3 with ⟨e1,e2⟩ | ⟨m,B,e1,e2,e3⟩
   ·rw[e1,e2]
    exact Or.inl ⟨rfl,rfl⟩
   ·rw[e1,e2]
    exact Or.inr ⟨_,B,by simp,rfl,by simpa using e3⟩
theorem under_later {D:List Ev}{B:List Rn}(C:Ctx P D old ψ)(hg:∀q∈old,q.step < P.steps.length∧goes P q.step=true)(h:Cover P D old ψ B)(t:Int)(ht:t≤9223372036854775807)(hD:∀d∈D,d.time≤t) :
  under P D old t (P.win - 1)=B.filter fun r=>decide (0≤P.win - 1∧far t r.first≤P.win - 1):=by
 refine ord_ext (ord_under _ _ _ _ _) (ord_filter _ h.ord) (fun x=>?_)
 rw[mem_under C t (P.win - 1) ht hD x,List.mem_filter]
 constructor
 ·rintro⟨h1,h2,h3⟩
  refine⟨?_,decide_eq_true ⟨h1,h2⟩⟩
  rcases h3 with h3 | ⟨k,hk,h4,h5,h6⟩
  ·exact h.sup x t hD ht (by omega) (hg x h3).2 (hg x h3).1 (Or.inl h3)
  ·exact h.sup x t hD ht (by omega) h5 h4 (Or.inr ⟨k,hk,h6⟩)
 ·rintro⟨h1,h2⟩
  have h3:=of_decide_eq_true h2
  refine⟨h3.1,h3.2,?_⟩
  rcases h.sub x h1 with h4 | ⟨j,hj,h4⟩
  ·exact Or.inl h4
  ·exact Or.inr ⟨j,hj,(h.go x h1).1,(h.go x h1).2,h4⟩
end
end En
namespace En
def advLoop (P:Pat)(old:List Rn)(w:Int):List Ev→List (List Int × Int)→List Ev→List Ev→Option (List (List Int × Int) × List Ev × List Ev)
 | D,out,rest,[]=>some (out,rest,D)
 | D,out,rest,ev::t=>if ev.time > w then advLoop P old w D out (rest++[ev]) t else
   if 24 < (under P (D++[ev]) old ev.time P.win).length then none else
    advLoop P old w (D++[ev]) (out++(ends P (D++[ev]) old (P.steps.length - 1) D.length).map fun r=>(r.offs,ev.time)) rest t
theorem advLoop_eq (P:Pat)(old:List Rn)(w:Int)(l D rest:List Ev)(out:List (List Int × Int)) :
  advLoop P old w D out rest l=(advRef P old D (l.filter fun e=>decide (e.time≤w))).map fun x=>(out++x.1,rest++l.filter (fun e=>decide (w < e.time)),x.2):=by
 induction l generalizing D rest out with
 | nil=>simp[advLoop,advRef]
 | cons ev t ih=>
  unfold advLoop
  by_cases hc:ev.time > w
  ·have h1:¬ ev.time≤w:=by omega
   have h2:w < ev.time:=by omega
   have e1:(ev::t).filter (fun e=>decide (e.time≤w))=t.filter (fun e=>decide (e.time≤w)):=by simp[h1]
   have e2:(ev::t).filter (fun e=>decide (w < e.time))=ev::t.filter (fun e=>decide (w < e.time)):=by simp[h2]
   rw[if_pos hc,ih,e1,e2]
   simp
  ·have h1:ev.time≤w:=by omega
   have h2:¬ w < ev.time:=by omega
   have e1:(ev::t).filter (fun e=>decide (e.time≤w))=ev::t.filter (fun e=>decide (e.time≤w)):=by simp[h1]
   have e2:(ev::t).filter (fun e=>decide (w < e.time))=t.filter (fun e=>decide (w < e.time)):=by simp[h2]
   rw[if_neg hc,e1,e2]
   conv=>rhs;unfold advRef
   by_cases hu:24 < (under P (D++[ev]) old ev.time P.win).length
   ·rw[if_pos hu,if_pos hu]
    rfl
   ·rw[if_neg hu,if_neg hu,ih]
    cases advRef P old (D++[ev]) (t.filter fun e=>decide (e.time≤w)) with
    | none=>rfl
    | some x=>simp
end En
namespace En
def has (P:Pat)(kind:Int):Bool:=P.steps.any fun x=>x.1 == kind
end En
def En.feed (P:En.Pat)(W Next:Int)(Q:List En.Ev)(kind time:Int):(Int × Int) × Int × List En.Ev:=
 if time≤W then ((0,3),Next,Q) else if En.has P kind=true∧12≤Q.length then ((0,4),Next,Q) else ((Next,0),Next+1,if En.has P kind then Q++[⟨Next,kind,time⟩] else Q)
namespace En
theorem put_ge (l:List Rn)(r:Rn):l.length≤(put l r).length:=by
 induction l with
 | nil=>simp
 | cons x t ih=>
  unfold put
  split
  ·exact Nat.le_refl _
  ·split
   ·simp;exact ih
   ·simp
theorem put_le (l:List Rn)(r:Rn):(put l r).length≤l.length+1:=by
 induction l with
 | nil=>simp[put]
 | cons x t ih=>
  unfold put
  split
  ·simp
  ·split
   ·simp;exact ih
   ·simp
theorem puts_ge (l m:List Rn):l.length≤(puts l m).length:=by
 induction m generalizing l with
 | nil=>exact Nat.le_refl _
 | cons r m ih=>exact Nat.le_trans (put_ge l r) (ih _)
theorem puts_le (l m:List Rn):(puts l m).length≤l.length+m.length:=by
 induction m generalizing l with
 | nil=>exact Nat.le_refl _
 | cons r m ih=>
  have h1:=ih (put l r)
  have h2:=put_le l r
  show (puts (put l r) m).length≤_
  simp
  omega
theorem mem_puts_sub {l m:List Rn}{x:Rn}(h:x∈puts l m):x∈l∨x∈m:=by
 induction m generalizing l with
 | nil=>exact Or.inl h
 | cons r m ih=>
  rcases ih (l:=put l r) h with h | h
  ·rcases mem_put_sub h with h | h
   ·exact Or.inl h
   ·exact Or.inr (by rw[h];exact List.mem_cons_self)
  ·exact Or.inr (List.mem_cons_of_mem _ h)
theorem longer_le (P:Pat)(l:List Rn)(ev:Ev)(step:Nat):(longer P l ev step).length≤l.length:=by
 unfold longer
 rw[List.length_map]
 exact List.length_filter_le _ _
theorem mem_longer_len {P:Pat}{l:List Rn}{ev:Ev}{step M:Nat}(h:∀r∈l,r.offs.length≤M):∀r∈longer P l ev step,r.offs.length≤M+1:=by
 intro r hr
 obtain⟨q,hq,_,rfl⟩:=mem_longer.1 hr
 have:=h q hq
 simp[ext]
 omega
theorem back_ge (P:Pat)(D:List Ev)(E:Nat→Nat→List Rn)(ev:Ev)(step s j:Nat)(l:List Rn):l.length≤(back P D E ev step s j l).length:=by
 induction j generalizing l with
 | zero=>exact Nat.le_refl _
 | succ j ih=>
  unfold back
  split
  ·exact Nat.le_refl _
  ·split
   ·exact Nat.le_refl _
   ·exact Nat.le_trans (puts_ge _ _) (ih _)
theorem back_le (P:Pat)(D:List Ev)(E:Nat→Nat→List Rn)(ev:Ev)(step s c:Nat)(j:Nat)(hE:∀i,i < j→(E s i).length≤c * 3 ^ i)(l:List Rn):2 * (back P D E ev step s j l).length+c≤2 * l.length+c * 3 ^ j:=by
 induction j generalizing l with
 | zero=>simp[back]
 | succ j ih=>
  have h3:c * 3 ^ (j+1)=3 * (c * 3 ^ j):=by rw[Nat.pow_succ,Nat.mul_comm (3 ^ j) 3,← Nat.mul_assoc,Nat.mul_comm c 3,Nat.mul_assoc]
  have hp:c≤c * 3 ^ j:=Nat.le_mul_of_pos_right c (Nat.pow_pos (by omega))
  unfold back
  split
  ·omega
  ·split
   ·omega
   ·have h1:=ih (fun i hi=>hE i (by omega)) (puts l (longer P (E s j) ev step))
    have h2:=puts_le l (longer P (E s j) ev step)
    have h4:=longer_le P (E s j) ev step
    have h5:=hE j (by omega)
    omega
theorem fromOld_ge (P:Pat)(old:List Rn)(ev:Ev)(step s:Nat)(l:List Rn):l.length≤(fromOld P old ev step s l).length:=by
 unfold fromOld
 induction old generalizing l with
 | nil=>exact Nat.le_refl _
 | cons r old ih=>
  rw[List.foldl_cons]
  refine Nat.le_trans ?_ (ih _)
  split
  ·exact puts_ge _ _
  ·exact Nat.le_refl _
theorem fromOld_le (P:Pat)(old:List Rn)(ev:Ev)(step s:Nat)(l:List Rn):(fromOld P old ev step s l).length≤l.length+old.length:=by
 unfold fromOld
 induction old generalizing l with
 | nil=>exact Nat.le_refl _
 | cons r old ih=>
  rw[List.foldl_cons]
  refine Nat.le_trans (ih _) ?_
  split
  ·have h1:=puts_le l (longer P [r] ev step)
   have h2:=longer_le P [r] ev step
   simp at h2 ⊢
   omega
  ·simp
theorem endsF_le (P:Pat)(D:List Ev)(old:List Rn)(f step k:Nat):(endsF P D old f step k).length≤(1+2 * old.length) * 3 ^ k:=by
 induction f generalizing step k with
 | zero=>simp[endsF]
 | succ f ih=>
  have hp:1+2 * old.length≤(1+2 * old.length) * 3 ^ k:=Nat.le_mul_of_pos_right _ (Nat.pow_pos (by omega))
  unfold endsF
  split
  ·simp
  ·rename_i ev _
   split
   ·simp
   ·have h0:(if step=0 then [({ step:=0,offs:=[ev.off],first:=ev.time }:Rn)] else []).length≤1:=by split<;>simp
    generalize (if step=0 then [({ step:=0,offs:=[ev.off],first:=ev.time }:Rn)] else [])=l0 at h0
    have one:∀(s:Nat) (l:List Rn),2 * (fromOld P old ev step s (back P D (endsF P D old f) ev step s k l)).length+(1+2 * old.length)≤2 * l.length+2 * old.length+(1+2 * old.length) * 3 ^ k:=by
     intro s l
     have h1:=back_le P D (endsF P D old f) ev step s (1+2 * old.length) k (fun i _=>ih s i) l
     have h2:=fromOld_le P old ev step s (back P D (endsF P D old f) ev step s k l)
     omega
    simp only[]
    by_cases hs:0 < step
    ·rw[if_pos hs]
     have h1:=one (step - 1) l0
     by_cases hp':plusAt P step=true
     ·rw[if_pos hp']
      have h2:=one step (fromOld P old ev step (step - 1) (back P D (endsF P D old f) ev step (step - 1) k l0))
      omega
     ·rw[if_neg hp']
      omega
    ·rw[if_neg hs]
     by_cases hp':plusAt P step=true
     ·rw[if_pos hp']
      have h2:=one step l0
      omega
     ·rw[if_neg hp']
      omega
theorem back_offs {P:Pat}{D:List Ev}{E:Nat→Nat→List Rn}{ev:Ev}{step s M:Nat}(j:Nat)(hE:∀i,i < j→∀r∈E s i,r.offs.length≤M)(l:List Rn)(hl:∀r∈l,r.offs.length≤M+1):∀r∈back P D E ev step s j l,r.offs.length≤M+1:=by
 induction j generalizing l with
 | zero=>exact hl
 | succ j ih=>
  unfold back
  split
  ·exact hl
  ·split
   ·exact hl
   ·refine ih (fun i hi=>hE i (by omega)) _ (fun r hr=>?_)
    rcases mem_puts_sub hr with h | h
    ·exact hl r h
    ·exact mem_longer_len (hE j (by omega)) r h
theorem fromOld_offs {P:Pat}{old:List Rn}{ev:Ev}{step s M:Nat}(ho:∀r∈old,r.offs.length≤M)(l:List Rn)(hl:∀r∈l,r.offs.length≤M+1):∀r∈fromOld P old ev step s l,r.offs.length≤M+1:=by
 unfold fromOld
 induction old generalizing l with
 | nil=>exact hl
 | cons q old ih=>
  rw[List.foldl_cons]
  refine ih (fun r hr=>ho r (List.mem_cons_of_mem _ hr)) _ ?_
  split
  ·intro r hr
   rcases mem_puts_sub hr with h | h
   ·exact hl r h
   ·exact mem_longer_len (l:=[q]) (fun r hr=>by rw[List.mem_singleton.1 hr];exact ho q List.mem_cons_self) r h
  ·exact hl
theorem endsF_offs {P:Pat}{D:List Ev}{old:List Rn}{M:Nat}(ho:∀r∈old,r.offs.length≤M)(f step k:Nat):∀r∈endsF P D old f step k,r.offs.length≤M+k+1:=by
 induction f generalizing step k with
 | zero=>intro r hr;cases hr
 | succ f ih=>
  have one:∀(ev:Ev) (s:Nat) (l:List Rn),(∀r∈l,r.offs.length≤M+k+1)→∀r∈fromOld P old ev step s (back P D (endsF P D old f) ev step s k l),r.offs.length≤M+k+1:=by
   intro ev s l hl
   refine fromOld_offs (M:=M+k) (fun r hr=>Nat.le_trans (ho r hr) (by omega)) _ ?_
   exact back_offs (M:=M+k) k (fun i hi r hr=>Nat.le_trans (ih s i r hr) (by omega)) _ hl
  unfold endsF
  split
  ·intro r hr;cases hr
  ·rename_i ev _
   split
   ·intro r hr;cases hr
   ·have h0:∀r∈(if step=0 then [({ step:=0,offs:=[ev.off],first:=ev.time }:Rn)] else []),r.offs.length≤M+k+1:=by
     split
     ·intro r hr
      rw[List.mem_singleton.1 hr]
      simp
     ·intro r hr;cases hr
    generalize (if step=0 then [({ step:=0,offs:=[ev.off],first:=ev.time }:Rn)] else [])=l0 at h0
    simp only[]
    by_cases hs:0 < step
    ·rw[if_pos hs]
     by_cases hp':plusAt P step=true
     ·rw[if_pos hp'];exact one ev _ _ (one ev _ _ h0)
     ·rw[if_neg hp'];exact one ev _ _ h0
    ·rw[if_neg hs]
     by_cases hp':plusAt P step=true
     ·rw[if_pos hp'];exact one ev _ _ h0
     ·rw[if_neg hp'];exact h0
end En
end Go.Proofs.YtfldcmdhneegmaaGreatDoor

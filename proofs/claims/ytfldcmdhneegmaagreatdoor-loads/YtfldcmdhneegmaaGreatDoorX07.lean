import Derived.Test.YtfldcmdhneegmaaGreatDoorX00
set_option maxHeartbeats 4000000
set_option maxRecDepth 1000000
namespace Go.Proofs.YtfldcmdhneegmaaGreatDoor
namespace En
def inWin (P:Pat)(ev:Ev)(r:Rn):Bool:=decide (far ev.time r.first≤P.win)
def lasting (P:Pat)(w:Int)(r:Rn):Bool:=decide (far w r.first < P.win)
theorem advInc_append (P:Pat)(A:List Rn)(l m:List Ev):advInc P A (l++m)=match advInc P A l with
  | none=>none
  | some (x,B)=>(advInc P B m).map fun y=>(x++y.1,y.2):=by
 induction l generalizing A with
 | nil=>
  show advInc P A m=(advInc P A m).map fun y=>([]++y.1,y.2)
  cases advInc P A m<;>rfl
 | cons ev t ih=>
  have e1:∀l,advInc P A (ev::l)=if 24 < (next P A ev).length then none else match advInc P (next P A ev) l with
   | none=>none
   | some (m,B)=>some (((news P A ev (P.steps.length - 1)).map fun r=>(r.offs,ev.time))++m,B):=by
   intro l
   conv=>lhs;unfold advInc
   rfl
  rw[List.cons_append,e1,e1]
  by_cases hu:24 < (next P A ev).length
  ·rw[if_pos hu,if_pos hu]
  ·rw[if_neg hu,if_neg hu,ih]
   cases advInc P (next P A ev) t with
   | none=>rfl
   | some q=>
    obtain⟨x,B⟩:=q
    simp only[]
    cases advInc P B m with
    | none=>rfl
    | some y=>simp
end En
namespace En
theorem det_one {ψ:Int→Int}{ev:Ev}(h:ev.time=ψ ev.off):Det ψ ⟨0,[ev.off],ev.time⟩:=⟨by simp,by simpa using h⟩
theorem mem_news {P:Pat}{A:List Rn}{ev:Ev}{ψ:Int→Int}(hA:∀q∈A,Det ψ q)(hev:ev.time=ψ ev.off)(s:Nat)(x:Rn) :
  x∈news P A ev s↔kindAt P s=some ev.kind∧((s=0∧x=⟨0,[ev.off],ev.time⟩)∨∃q∈A,(q.step+1=s∨(q.step=s∧plusAt P s=true))∧far ev.time q.first≤P.win∧x=ext q ev s):=by
 unfold news
 by_cases hk:kindAt P s=some ev.kind
 ·rw[if_neg (by simp[hk])]
  have h0:∀y∈(if s=0 then [({ step:=0,offs:=[ev.off],first:=ev.time }:Rn)] else []),Det ψ y:=by
   intro y hy
   split at hy
   ·rw[List.mem_singleton.1 hy];exact det_one hev
   ·cases hy
  have h1:∀y∈longer P (A.filter fun q=>decide (q.step+1=s) || (decide (q.step=s) && plusAt P s)) ev s,Det ψ y:=by
   intro y hy
   obtain⟨q,hq,_,rfl⟩:=mem_longer.1 hy
   exact det_ext (hA q (List.mem_filter.1 hq).1) ev s
  rw[mem_puts h0 h1,mem_longer]
  constructor
  ·rintro (h | ⟨q,hq,hf,rfl⟩)
   ·refine⟨hk,Or.inl ?_⟩
    split at h
    ·exact⟨by assumption,List.mem_singleton.1 h⟩
    ·cases h
   ·obtain⟨hq1,hq2⟩:=List.mem_filter.1 hq
    refine⟨hk,Or.inr ⟨q,hq1,?_,hf,rfl⟩⟩
    simpa using hq2
  ·rintro⟨-,⟨hs,rfl⟩ | ⟨q,hq,hc,hf,rfl⟩⟩
   ·left
    rw[if_pos hs]
    exact List.mem_singleton.2 rfl
   ·right
    exact⟨q,List.mem_filter.2 ⟨hq,by simpa using hc⟩,hf,rfl⟩
 ·rw[if_pos hk]
  constructor
  ·intro h;cases h
  ·rintro⟨h,_⟩;exact absurd h hk
theorem news_det {P:Pat}{A:List Rn}{ev:Ev}{ψ:Int→Int}(hA:∀q∈A,Det ψ q)(hev:ev.time=ψ ev.off)(s:Nat):∀x∈news P A ev s,Det ψ x∧x.step=s:=by
 intro x hx
 obtain⟨_,⟨hs,rfl⟩ | ⟨q,hq,_,_,rfl⟩⟩:=(mem_news hA hev s x).1 hx
 ·exact⟨det_one hev,hs.symm⟩
 ·exact⟨det_ext (hA q hq) ev s,rfl⟩
theorem ord_news (P:Pat)(A:List Rn)(ev:Ev)(s:Nat):Ord (news P A ev s):=by
 unfold news
 split
 ·exact trivial
 ·refine ord_puts ?_
  split
  ·refine⟨fun y hy=>?_,trivial⟩
   cases hy
  ·exact trivial
theorem ended_last {P:Pat}{A E:List Rn}{ev:Ev}{ψ:Int→Int}(hA:∀q∈A,Det ψ q)(hev:ev.time=ψ ev.off)(hO:Ord E)(hE:∀x,x∈E↔∃s,s < P.steps.length∧x∈news P A ev s)(s:Nat)(hs:s < P.steps.length):(E.filter fun r=>decide (r.step=s))=news P A ev s:=by
 refine ord_ext (ord_filter _ hO) (ord_news P A ev s) (fun x=>?_)
 rw[List.mem_filter,hE]
 constructor
 ·rintro⟨⟨s',hs',hx⟩,hst⟩
  have h1:=(news_det hA hev s' x hx).2
  have h2:=of_decide_eq_true hst
  rw[← h2,h1]
  exact hx
 ·intro hx
  exact⟨⟨s,hs,hx⟩,decide_eq_true (news_det hA hev s x hx).2⟩
theorem ended_next {P:Pat}{A E N:List Rn}{ev:Ev}{ψ:Int→Int}(hA:∀q∈A,Det ψ q)(hev:ev.time=ψ ev.off)(hOA:Ord A)(hE:∀x,x∈E↔∃s,s < P.steps.length∧x∈news P A ev s)(hO:Ord N)(hN:∀x,x∈N↔x∈A.filter (inWin P ev)∨x∈E.filter (fun r=>goes P r.step)):N=next P A ev:=by
 refine ord_ext hO (ord_next hOA) (fun x=>?_)
 rw[mem_next hA (fun s q hq=>(news_det hA hev s q hq).1),hN,List.mem_filter,List.mem_filter,hE]
 constructor
 ·rintro (⟨h1,h2⟩ | ⟨⟨s,hs,hx⟩,hg⟩)
  ·exact Or.inl ⟨h1,of_decide_eq_true h2⟩
  ·have h1:=(news_det hA hev s x hx).2
   rw[h1] at hg
   exact Or.inr ⟨s,hs,hg,hx⟩
 ·rintro (⟨h1,h2⟩ | ⟨s,hs,hg,hx⟩)
  ·exact Or.inl ⟨h1,decide_eq_true h2⟩
  ·have h1:=(news_det hA hev s x hx).2
   exact Or.inr ⟨⟨s,hs,hx⟩,by rw[h1];exact hg⟩
end En
namespace En
def compact:List Rn→List Rn
 | []=>[]
 | [x]=>[x]
 | x::y::t=>if sameKey x y then compact (x::t) else x::compact (y::t)
def Sorted:List Rn→Prop
 | []=>True
 | x::t=>(∀y∈t,lt y x=false)∧Sorted t
theorem sameKey_comm (a b:Rn):sameKey a b=sameKey b a:=by
 unfold sameKey
 rw[show decide (a.offs=b.offs)=decide (b.offs=a.offs) by rw[decide_eq_decide];exact eq_comm,show decide (a.step=b.step)=decide (b.step=a.step) by rw[decide_eq_decide];exact eq_comm]
theorem compact_ord {ψ:Int→Int}(n:Nat)(l:List Rn)(hn:l.length≤n)(hd:∀x∈l,Det ψ x)(hs:Sorted l):Ord (compact l)∧∀x,x∈compact l↔x∈l:=by
 induction n generalizing l with
 | zero=>
  obtain rfl:l=[]:=List.eq_nil_of_length_eq_zero (by omega)
  unfold compact
  exact⟨trivial,fun x=>Iff.rfl⟩
 | succ n ih=>
  match l,hn,hd,hs with
  | [],_,_,_=>unfold compact;exact⟨trivial,fun x=>Iff.rfl⟩
  | [x],_,_,_=>
   unfold compact
   refine⟨⟨fun y hy=>?_,trivial⟩,fun y=>Iff.rfl⟩
   cases hy
  | x::y::t,hn,hd,hs=>
   unfold compact
   obtain⟨hx,hy,ht⟩:=hs
   by_cases hk:sameKey x y=true
   ·rw[if_pos hk]
    have hxy:x=y:=det_eq (hd x List.mem_cons_self) (hd y (List.mem_cons_of_mem _ List.mem_cons_self)) hk
    have hd':∀z∈x::t,Det ψ z:=by
     intro z hz
     rcases List.mem_cons.1 hz with h | h
     ·rw[h];exact hd x List.mem_cons_self
     ·exact hd z (List.mem_cons_of_mem _ (List.mem_cons_of_mem _ h))
    obtain⟨h1,h2⟩:=ih (x::t) (by simp at hn ⊢;omega) hd' ⟨fun z hz=>hx z (List.mem_cons_of_mem _ hz),ht⟩
    refine⟨h1,fun z=>?_⟩
    rw[h2]
    subst hxy
    simp
   ·rw[if_neg hk]
    obtain⟨h1,h2⟩:=ih (y::t) (by simp at hn ⊢;omega) (fun z hz=>hd z (List.mem_cons_of_mem _ hz)) ⟨hy,ht⟩
    have hxy:lt x y=true:=lt_total (by rw[sameKey_comm];simpa using hk) (hx y List.mem_cons_self)
    refine⟨⟨fun z hz=>?_,h1⟩,fun z=>?_⟩
    ·rcases List.mem_cons.1 ((h2 z).1 hz) with h | h
     ·rw[h];exact hxy
     ·by_cases hk2:sameKey y z=true
      ·have hyz:y=z:=det_eq (hd y (List.mem_cons_of_mem _ List.mem_cons_self)) (hd z (List.mem_cons_of_mem _ (List.mem_cons_of_mem _ h))) hk2
       rw[← hyz];exact hxy
      ·exact lt_trans hxy (lt_total (by rw[sameKey_comm];simpa using hk2) (hy z h))
    ·rw[List.mem_cons,List.mem_cons,h2]
end En
namespace Fr
def sumStep (h:Nat)(b:UInt8):Nat:=(h ^^^ b.toNat) * 16777619 % 4294967296
def sumN (l:List UInt8):Nat:=l.foldl sumStep 2166136261
theorem sumN_snoc (l:List UInt8)(b:UInt8):sumN (l++[b])=sumStep (sumN l) b:=by
 unfold sumN
 rw[List.foldl_append,List.foldl_cons,List.foldl_nil]
theorem sumN_lt (l:List UInt8):sumN l < 4294967296:=by
 have h:∀(l:List UInt8) (h:Nat),h < 4294967296→l.foldl sumStep h < 4294967296:=by
  intro l
  induction l with
  | nil=>intro h hh;exact hh
  | cons b r ih=>
   intro h _
   rw[List.foldl_cons]
   refine ih _ ?_
   unfold sumStep
   exact Nat.mod_lt _ (by omega)
 unfold sumN
 exact h l _ (by omega)
def be4 (n:Nat):List UInt8:=[UInt8.ofNat (n / 16777216),UInt8.ofNat (n / 65536),UInt8.ofNat (n / 256),UInt8.ofNat n]
def sum (l:List UInt8):List UInt8:=be4 (sumN l)
theorem sum_length (l:List UInt8):(sum l).length=4:=rfl
def framed (l:List UInt8):List UInt8:=l++sum l
def sound (l:List UInt8)(kind:UInt8):Option (List UInt8):=
 if 5≤l.length∧l.head?=some kind∧sum (l.take (l.length - 4))=l.drop (l.length - 4) then some ((l.take (l.length - 4)).drop 1) else none
theorem sound_iff {l:List UInt8}{kind:UInt8}{r:List UInt8}:sound l kind=some r↔l=framed (kind::r):=by
 unfold sound framed
 constructor
 ·intro h
  split at h
  ·rename_i hc
   obtain⟨h5,hk,hs⟩:=hc
   obtain rfl:=Option.some.inj h
   have hh:l.take (l.length - 4)=kind::(l.take (l.length - 4)).drop 1:=by
    cases l with
    | nil=>simp at h5
    | cons b t=>
     obtain rfl:b=kind:=by simpa using hk
     rw[show (b::t).length - 4=(t.length - 4)+1 by simp at h5 ⊢;omega]
     simp
   conv=>lhs;rw[← List.take_append_drop (l.length - 4) l]
   rw[← hh,hs]
  ·cases h
 ·rintro rfl
  have hl:(kind::r++sum (kind::r)).length=(kind::r).length+4:=by rw[List.length_append,sum_length]
  rw[hl,Nat.add_sub_cancel,List.take_left,List.drop_left]
  rw[if_pos ⟨by simp,by simp,rfl⟩]
  simp
def valStep (n:Nat)(b:UInt8):Nat:=n * 256 % 4294967296+b.toNat
def val (l:List UInt8):Nat:=l.foldl valStep 0
theorem val_snoc (l:List UInt8)(b:UInt8):val (l++[b])=valStep (val l) b:=by
 unfold val
 rw[List.foldl_append,List.foldl_cons,List.foldl_nil]
theorem valStep_lt (n:Nat)(b:UInt8):valStep n b < 4294967296:=by
 have:=b.toNat_lt
 unfold valStep
 omega
theorem val_lt (l:List UInt8):val l < 4294967296:=by
 have h:∀(l:List UInt8) (h:Nat),h < 4294967296→l.foldl valStep h < 4294967296:=by
  intro l
  induction l with
  | nil=>intro h hh;exact hh
  | cons b r ih=>
   intro h _
   rw[List.foldl_cons]
   exact ih _ (valStep_lt _ _)
 unfold val
 exact h l _ (by omega)
theorem val_four (a b c d:UInt8):val [a,b,c,d]=a.toNat * 16777216+b.toNat * 65536+c.toNat * 256+d.toNat:=by
 have ha:=a.toNat_lt
 have hb:=b.toNat_lt
 have hc:=c.toNat_lt
 have hd:=d.toNat_lt
 show valStep (valStep (valStep (valStep 0 a) b) c) d=_
 unfold valStep
 omega
theorem val_be4 {n:Nat}(h:n < 4294967296):val (be4 n)=n:=by
 unfold be4
 rw[val_four]
 have e0:(UInt8.ofNat (n / 16777216)).toNat=n / 16777216:=by simp;omega
 have e1:(UInt8.ofNat (n / 65536)).toNat=n / 65536 % 256:=by simp
 have e2:(UInt8.ofNat (n / 256)).toNat=n / 256 % 256:=by simp
 have e3:(UInt8.ofNat n).toNat=n % 256:=by simp
 rw[e0,e1,e2,e3]
 omega
theorem be4_val {l:List UInt8}(h:l.length=4):be4 (val l)=l:=by
 match l,h with
 | [a,b,c,d],_=>
  have ha:=a.toNat_lt
  have hb:=b.toNat_lt
  have hc:=c.toNat_lt
  have hd:=d.toNat_lt
  rw[val_four]
  unfold be4
  have e0:UInt8.ofNat ((a.toNat * 16777216+b.toNat * 65536+c.toNat * 256+d.toNat) / 16777216)=a:=by apply UInt8.toNat_inj.1;simp;omega
  have e1:UInt8.ofNat ((a.toNat * 16777216+b.toNat * 65536+c.toNat * 256+d.toNat) / 65536)=b:=by apply UInt8.toNat_inj.1;simp;omega
  have e2:UInt8.ofNat ((a.toNat * 16777216+b.toNat * 65536+c.toNat * 256+d.toNat) / 256)=c:=by apply UInt8.toNat_inj.1;simp;omega
  have e3:UInt8.ofNat (a.toNat * 16777216+b.toNat * 65536+c.toNat * 256+d.toNat)=d:=by apply UInt8.toNat_inj.1;simp
  rw[e0,e1,e2,e3]
theorem sum_iff {m l:List UInt8}(hl:l.length=4):sum m=l↔sumN m=val l:=by
 constructor
 ·intro h
  rw[← h]
  exact (val_be4 (sumN_lt m)).symm
 ·intro h
  unfold sum
  rw[h,be4_val hl]
def num (n:Nat):List UInt8:=if h:n < 128 then [UInt8.ofNat n] else UInt8.ofNat (n % 128+128)::num (n / 128)
theorem num_small {n:Nat}(h:n < 128):num n=[UInt8.ofNat n]:=by rw[num,dif_pos h]
theorem num_great {n:Nat}(h:¬ n < 128):num n=UInt8.ofNat (n % 128+128)::num (n / 128):=by rw[num,dif_neg h]
theorem num_pos (n:Nat):1≤(num n).length:=by
 rw[num];split<;>simp
theorem num_length (k:Nat):∀n,n < 128 ^ (k+1)→(num n).length≤k+1:=by
 induction k with
 | zero=>intro n h;rw[num_small (by simpa using h)];simp
 | succ k ih=>
  intro n h
  by_cases h1:n < 128
  ·rw[num_small h1];simp
  ·rw[num_great h1]
   have:=ih (n / 128) (by rw[Nat.pow_succ] at h;exact Nat.div_lt_of_lt_mul (by rw[Nat.mul_comm];exact h))
   simp;omega
theorem num_length64 {n:Nat}(h:n < 18446744073709551616):(num n).length≤10:=num_length 9 n (Nat.lt_trans h (by decide))
def zig (t:Int):Nat:=if 0≤t then (2 * t).toNat else (-2 * t - 1).toNat
def mom (t:Int):List UInt8:=num (zig t)
theorem zig_lt {t:Int}(h1:-9223372036854775808≤t)(h2:t < 9223372036854775808):zig t < 18446744073709551616:=by
 unfold zig;split<;>omega
def zag (n:Nat):Int:=if n % 2=1 then -1 - (n / 2:Nat) else (n / 2:Nat)
theorem zag_zig (t:Int):zag (zig t)=t:=by
 unfold zag zig;split<;>split<;>omega
theorem zig_zag (n:Nat):zig (zag n)=n:=by
 unfold zag zig;split<;>split<;>omega
theorem zag_range {n:Nat}(h:n < 18446744073709551616):-9223372036854775808≤zag n∧zag n < 9223372036854775808:=by
 unfold zag;split<;>omega
def rdGo:Nat→Nat→Nat→List UInt8→Option (Nat × Bool × List UInt8)
 | 0,_,_,_=>none
 | _+1,_,_,[]=>none
 | f+1,k,n,b::r=>
  if k=9∧1 < b.toNat then none
  else if b.toNat < 128 then some (n+b.toNat * 128 ^ k,decide (0 < k∧b=0),r)
  else rdGo f (k+1) (n+b.toNat % 128 * 128 ^ k) r
def rdRaw (l:List UInt8):Option (Nat × Bool × List UInt8):=rdGo 10 0 0 l
def rd (l:List UInt8):Option (Nat × List UInt8):=
 match rdRaw l with
 | some (n,false,r)=>some (n,r)
 | _=>none
theorem toNat_ofNat {n:Nat}(h:n < 256):(UInt8.ofNat n).toNat=n:=by simp;omega
theorem rdGo_num (f:Nat):∀(k n m:Nat) (r:List UInt8),f+k=10→k≤9→m < 128 ^ (10 - k)→(k=9→m≤1)→n+m * 128 ^ k < 18446744073709551616→rdGo f k n (num m++r)=some (n+m * 128 ^ k,decide (0 < k∧m=0),r):=by
 induction f with
 | zero=>intro k n m r h1 h2;omega
 | succ f ih=>
  intro k n m r hf hk hm h9 hb
  by_cases hs:m < 128
  ·rw[num_small hs]
   show (if k=9∧1 < (UInt8.ofNat m).toNat then none else _)=_
   rw[toNat_ofNat (by omega),if_neg (by intro h;have:=h9 h.1;omega),if_pos hs]
   have e:(UInt8.ofNat m=0)↔m=0:=by
    constructor
    ·intro h
     have:=congrArg UInt8.toNat h
     rw[toNat_ofNat (by omega)] at this
     exact this
    ·rintro rfl;rfl
   simp[e]
  ·rw[num_great hs]
   show (if k=9∧1 < (UInt8.ofNat (m % 128+128)).toNat then none else _)=_
   have hk9:k≠9:=fun e=>by have:=h9 e;omega
   have hp:m % 128 * 128 ^ k+m / 128 * 128 ^ (k+1)=m * 128 ^ k:=by
    rw[Nat.pow_succ,← Nat.mul_assoc,Nat.mul_right_comm,← Nat.add_mul]
    congr 1
    omega
   rw[toNat_ofNat (by omega),if_neg (by rintro⟨h,-⟩;exact hk9 h),if_neg (by omega),show (m % 128+128) % 128=m % 128 by omega]
   have hm':m / 128 < 128 ^ (10 - (k+1)):=by
    rw[show 10 - k=(10 - (k+1))+1 by omega,Nat.pow_succ] at hm
    exact Nat.div_lt_of_lt_mul (by rw[Nat.mul_comm];exact hm)
   show rdGo f (k+1) _ (num (m / 128)++r)=_
   rw[ih (k+1) _ (m / 128) r (by omega) (by omega) hm' ?_ (by omega)]
   ·have hz:m / 128≠0:=by omega
    have hz':m≠0:=by omega
    simp only[hz,hz',and_false,decide_false]
    rw[Nat.add_assoc,hp]
   ·intro h8
    have hk8:k=8:=by omega
    subst hk8
    have:m * 128 ^ 8 < 18446744073709551616:=by omega
    omega
theorem rd_num {n:Nat}(h:n < 18446744073709551616)(r:List UInt8):rd (num n++r)=some (n,r):=by
 have:=rdGo_num 10 0 0 n r rfl (by omega) (Nat.lt_trans h (by decide)) (by intro h;cases h) (by simpa using h)
 unfold rd rdRaw
 rw[this]
 simp
theorem rdGo_back (f:Nat):∀(k n0:Nat) (l:List UInt8) (n:Nat) (z:Bool) (r:List UInt8),f+k=10→n0 < 128 ^ k→rdGo f k n0 l=some (n,z,r)→n < 18446744073709551616∧r.length < l.length∧∃m,n=n0+m * 128 ^ k∧(z=false→l=num m++r∧(0 < k→m≠0)):=by
 induction f with
 | zero=>intro k n0 l n z r h1 h2 h3;simp[rdGo] at h3
 | succ f ih=>
  intro k n0 l n z r hf h0 h
  cases l with
  | nil=>simp[rdGo] at h
  | cons b t=>
   have hb:=b.toNat_lt
   have hk:k≤9:=by omega
   simp only[rdGo] at h
   split at h
   ·cases h
   rename_i h9
   split at h
   ·rename_i hs
    simp only[Option.some.injEq,Prod.mk.injEq] at h
    obtain⟨rfl,rfl,rfl⟩:=h
    refine⟨?_,by simp,b.toNat,rfl,?_⟩
    ·by_cases hk9:k=9
     ·subst hk9
      have:b.toNat≤1:=by
       have:=fun hh=>h9 ⟨rfl,hh⟩
       omega
      omega
     ·have h1:b.toNat * 128 ^ k≤127 * 128 ^ k:=Nat.mul_le_mul_right _ (by omega)
      have h2:128 ^ (k+1)≤128 ^ 9:=Nat.pow_le_pow_right (by decide) (by omega)
      have h3:128 ^ (k+1)=128 * 128 ^ k:=by rw[Nat.pow_succ,Nat.mul_comm]
      omega
    ·intro hz
     refine⟨?_,?_⟩
     ·rw[num_small hs];simp
     ·intro h0 e
      have:b=0:=UInt8.toNat_inj.1 e
      simp[h0,this] at hz
   ·rename_i hs
    have hlt:n0+b.toNat % 128 * 128 ^ k < 128 ^ (k+1):=by
     have h1:b.toNat % 128 * 128 ^ k≤127 * 128 ^ k:=Nat.mul_le_mul_right _ (by omega)
     have h3:128 ^ (k+1)=128 * 128 ^ k:=by rw[Nat.pow_succ,Nat.mul_comm]
     omega
    obtain⟨h1,hr,m,h2,h3⟩:=ih (k+1) _ t n z r (by omega) hlt h
    refine⟨h1,by simp;omega,b.toNat % 128+128 * m,?_,?_⟩
    ·rw[h2,Nat.add_mul,Nat.pow_succ]
     have:m * (128 ^ k * 128)=128 * m * 128 ^ k:=by rw[Nat.mul_comm (128 ^ k) 128,← Nat.mul_assoc,Nat.mul_comm m 128]
     omega
    ·intro hz
     obtain⟨h4,h5⟩:=h3 hz
     have hm:=h5 (by omega)
     refine⟨?_,by omega⟩
     rw[num_great (by omega),show (b.toNat % 128+128 * m) % 128=b.toNat % 128 by omega,show (b.toNat % 128+128 * m) / 128=m by omega,List.cons_append,← h4]
     congr 1
     apply UInt8.toNat_inj.1
     rw[toNat_ofNat (by omega)]
     omega
theorem rdRaw_lt {l:List UInt8}{n:Nat}{z:Bool}{r:List UInt8}(h:rdRaw l=some (n,z,r)):n < 18446744073709551616∧r.length < l.length:=by
 obtain⟨h1,h2,-⟩:=rdGo_back 10 0 0 l n z r rfl (by decide) h
 exact⟨h1,h2⟩
theorem rd_back {l:List UInt8}{n:Nat}{r:List UInt8}(h:rd l=some (n,r)):l=num n++r∧n < 18446744073709551616:=by
 unfold rd at h
 split at h
 ·rename_i n' r' h'
  simp only[Option.some.injEq,Prod.mk.injEq] at h
  obtain⟨rfl,rfl⟩:=h
  obtain⟨h1,-,m,h2,h3⟩:=rdGo_back 10 0 0 l _ false _ rfl (by decide) h'
  have:n'=m:=by simpa using h2
  subst this
  exact⟨(h3 rfl).1,h1⟩
 ·cases h
end Fr
namespace Fr
def cp:List UInt8→List UInt8→Nat
 | a::x,b::y=>if a=b then cp x y+1 else 0
 | _,_=>0
def cq (a b:List UInt8)(p:Nat):Nat:=cp (a.drop p).reverse (b.drop p).reverse
def last4 (a:List UInt8):List UInt8:=a.drop (a.length - 4)
def delta (a b:List UInt8):List UInt8:=
 framed (68::(last4 a++num (cp a b)++num (cq a b (cp a b))++(b.take (b.length - cq a b (cp a b))).drop (cp a b)))
def deltaOf (a b:List UInt8):List UInt8 × Int:=
 if (sound a 83).isSome∧(sound b 83).isSome then (delta a b,0) else ([],5)
def inside (i:List UInt8):Option (List UInt8 × Nat × Nat × List UInt8):=
 if i.length < 4 then none else
  match rd (i.drop 4) with
  | none=>none
  | some (p,r)=>
   match rd r with
   | none=>none
   | some (q,r')=>some (i.take 4,p,q,r')
def parts (l:List UInt8):Option (List UInt8 × Nat × Nat × List UInt8):=
 match sound l 68 with
 | none=>none
 | some i=>if i.length < 4 then none else
  match rd (i.drop 4) with
  | none=>none
  | some (p,r)=>
   match rd r with
   | none=>none
   | some (q,r')=>some (i.take 4,p,q,r')
def applyOf (a d:List UInt8):List UInt8 × Int:=
 if (sound a 83).isSome then
  match parts d with
  | none=>([],5)
  | some (s,p,q,m)=>
   if s≠last4 a then ([],6)
   else if a.length < p∨a.length - p < q then ([],5)
   else if (sound (a.take p++m++a.drop (a.length - q)) 83).isSome∧delta a (a.take p++m++a.drop (a.length - q))=d then (a.take p++m++a.drop (a.length - q),0) else ([],5)
 else ([],5)
def lastOf (f:Nat→Option (List UInt8))(g:List UInt8→Option (List UInt8)):Nat→Option (List UInt8)
 | 0=>none
 | j+1=>
  match f j with
  | none=>lastOf f g j
  | some s=>
   match g s with
   | none=>lastOf f g j
   | some t=>some t
def okOf (x:List UInt8 × Int):Option (List UInt8):=if x.2=0 then some x.1 else none
def stands (fs:List (List UInt8)):Nat→Nat→Option (List UInt8)
 | 0,i=>if (sound (fs.getD i []) 83).isSome then some (fs.getD i []) else none
 | n+1,i=>if (sound (fs.getD i []) 83).isSome then some (fs.getD i []) else lastOf (stands fs n) (fun s=>okOf (applyOf s (fs.getD i []))) i
def resolveTo (fs:List (List UInt8)):Nat→List UInt8 × Int
 | 0=>([],-1)
 | i+1=>
  match stands fs 4 i with
  | some s=>(s,i)
  | none=>resolveTo fs i
def resolve (fs:List (List UInt8)):List UInt8 × Int:=resolveTo fs fs.length
end Fr
end Go.Proofs.YtfldcmdhneegmaaGreatDoor

import Derived.Test.YtfldcmdhneegmaaGreatDoorX05
import Derived.Lib.SliceRun
set_option maxHeartbeats 4000000
set_option maxRecDepth 1000000
namespace Go.Proofs.YtfldcmdhneegmaaGreatDoor
open Go.RowKit Go.Lib
structure Blks (bs:Nat)(Bs:List (List RV)):Prop where
 len:∀B∈Bs,B.length=bs
 srt:∀B∈Bs,Sm.Srt ltR B
theorem Blks.flat {bs:Nat}:∀{Bs:List (List RV)},Blks bs Bs→Bs.flatten.length=Bs.length * bs
 | [],_=>by simp
 | B::Bs,h=>by
  have ih:=Blks.flat (bs:=bs) (Bs:=Bs) ⟨fun B' h'=>h.len B' (List.mem_cons_of_mem _ h'),fun B' h'=>h.srt B' (List.mem_cons_of_mem _ h')⟩
  rw[List.flatten_cons,List.length_append,ih,h.len B List.mem_cons_self,List.length_cons,Nat.add_mul]
  omega
theorem Blks.more {bs:Nat}{Bs:List (List RV)}(h:Blks bs Bs){M:List RV}(h1:M.length=bs)(h2:Sm.Srt ltR M):Blks bs (Bs++[M]):=
 ⟨fun B hB=>by
  rcases List.mem_append.1 hB with hB | hB
  ·exact h.len B hB
  ·rw[List.mem_singleton.1 hB];exact h1,fun B hB=>by
  rcases List.mem_append.1 hB with hB | hB
  ·exact h.srt B hB
  ·rw[List.mem_singleton.1 hB];exact h2⟩
theorem Blks.nil (bs:Nat):Blks bs []:=⟨fun _ h=>(by cases h),fun _ h=>(by cases h)⟩
theorem Blks.tail {bs:Nat}{B:List RV}{Bs:List (List RV)}(h:Blks bs (B::Bs)):Blks bs Bs:=⟨fun B' h'=>h.len B' (List.mem_cons_of_mem _ h'),fun B' h'=>h.srt B' (List.mem_cons_of_mem _ h')⟩
def Stab1 (base g ob cap:Nat)(L:List RV)(w wr:World)(a:Nat):Prop:=∃Bs R,Blks 20 Bs∧Bs.flatten.length=a∧(Bs.flatten++R).Perm L∧SAt base g ob wr cap (Bs.flatten++R)∧w.grownBy wr (some g)
def Stab2 (base g ob cap:Nat)(L:List RV)(w wr:World)(bs:Nat):Prop:=∃Bs R,Blks bs Bs∧Sm.Srt ltR R∧R.length < bs∧(Bs.flatten++R).Perm L∧SAt base g ob wr cap (Bs.flatten++R)∧w.grownBy wr (some g)
def Stab3 (base g ob cap:Nat)(L:List RV)(w wr:World)(bs a:Nat):Prop:=∃Cs Bs R,Blks (2 * bs) Cs∧Blks bs Bs∧Sm.Srt ltR R∧R.length < bs∧Cs.flatten.length=a∧(Cs.flatten++(Bs.flatten++R)).Perm L∧SAt base g ob wr cap (Cs.flatten++(Bs.flatten++R))∧w.grownBy wr (some g)
def StabEnd (base g ob cap:Nat)(L:List RV)(w:World)(e:Ending)(w':World):Prop:=
 e=.returned (.tuple #[])∧∃M,M.Perm L∧Sm.Srt ltR M∧SAt base g ob w' cap M∧w.grownBy w' (some g)
section
variable {base g ob cap:Nat} {L:List RV} {w wr:World}
theorem Stab1.start (h:SAt base g ob w cap L):Stab1 base g ob cap L w w 0:=⟨[],L,Blks.nil _,rfl,List.Perm.refl _,h,grown_refl _ _⟩
theorem Stab1.one {a n:Nat}(h:Stab1 base g ob cap L w wr a)(hL:L.length=n)(hn:n≤1000000)(hb:a+20≤n) :
  Calls Tryz.prog 257 #[.slice (some ⟨g,0,none⟩) n cap,.int .i64 a,.int .i64 (a+20:Nat),.func (.func 254) #[] #[.pointer (some ⟨ob,0,none⟩)]] wr fun e w'=>e=.returned (.tuple #[])∧Stab1 base g ob cap L w w' (a+20):=by
 obtain⟨Bs,R,h1,h2,h3,h4,h5⟩:=h
 have hl:=h3.length_eq
 rw[List.length_append] at hl
 have e0:Bs.flatten++R=Bs.flatten++R.take 20++R.drop 20:=by rw[List.append_assoc,List.take_append_drop]
 have hlen:(Bs.flatten++R.take 20++R.drop 20).length=n:=by rw[← e0,List.length_append];omega
 have ht:(R.take 20).length=20:=by rw[List.length_take];omega
 rw[e0] at h4
 have key:=insertR_any base g ob cap Bs.flatten (R.take 20) (R.drop 20) wr h4 (by omega)
 rw[hlen,h2,ht] at key
 refine key.mono ?_
 rintro e w' ⟨he,M,p1,q1,s1,g1⟩
 refine⟨he,Bs++[M],R.drop 20,h1.more (by rw[p1.length_eq,ht]) q1,?_,?_,?_,grown_trans h5 g1⟩
 ·rw[List.flatten_append,List.length_append,h2];simp[p1.length_eq,ht]
 ·refine List.Perm.trans ?_ h3
  rw[e0]
  simp only[List.flatten_append,List.flatten_cons,List.flatten_nil,List.append_nil]
  exact (p1.append_left _).append_right _
 ·simpa using s1
theorem Stab1.last {a n:Nat}(h:Stab1 base g ob cap L w wr a)(hL:L.length=n)(hn:n≤1000000)(hb:n < a+20) :
  Calls Tryz.prog 257 #[.slice (some ⟨g,0,none⟩) n cap,.int .i64 a,.int .i64 n,.func (.func 254) #[] #[.pointer (some ⟨ob,0,none⟩)]] wr fun e w'=>e=.returned (.tuple #[])∧Stab2 base g ob cap L w w' 20:=by
 obtain⟨Bs,R,h1,h2,h3,h4,h5⟩:=h
 have hl:=h3.length_eq
 rw[List.length_append] at hl
 have e0:Bs.flatten++R=Bs.flatten++R++[]:=by simp
 have hlen:(Bs.flatten++R++[]).length=n:=by rw[← e0,List.length_append];omega
 have hr:a+R.length=n:=by omega
 rw[e0] at h4
 have key:=insertR_any base g ob cap Bs.flatten R [] wr h4 (by omega)
 rw[hlen,h2,hr] at key
 refine key.mono ?_
 rintro e w' ⟨he,M,p1,q1,s1,g1⟩
 refine⟨he,Bs,M,h1,q1,by rw[p1.length_eq];omega,(p1.append_left _).trans h3,by simpa using s1,grown_trans h5 g1⟩
theorem Stab2.start {bs:Nat}(h:Stab2 base g ob cap L w wr bs):Stab3 base g ob cap L w wr bs 0:=by
 obtain⟨Bs,R,h1,h2,h3,h4,h5,h6⟩:=h
 exact⟨[],Bs,R,Blks.nil _,h1,h2,h3,rfl,by simpa using h4,by simpa using h5,h6⟩
theorem Stab2.fin {bs n:Nat}(h:Stab2 base g ob cap L w wr bs)(hL:L.length=n)(hb:n≤bs):StabEnd base g ob cap L w (.returned (.tuple #[])) wr:=by
 obtain⟨Bs,R,h1,h2,h3,h4,h5,h6⟩:=h
 have hl:=h4.length_eq
 rw[List.length_append,h1.flat] at hl
 have hB:Sm.Srt ltR (Bs.flatten++R):=by
  match Bs,hl,h1 with
  | [],_,_=>simpa using h2
  | [B],hl,h1=>
   simp at hl
   obtain rfl:R=[]:=List.eq_nil_of_length_eq_zero (by omega)
   simpa using h1.srt B (by simp)
  | B1::B2::Bs',hl,_=>
   exfalso
   have:(B1::B2::Bs').length * bs=Bs'.length * bs+2 * bs:=by rw[List.length_cons,List.length_cons,Nat.add_mul,Nat.add_mul];omega
   rw[this] at hl
   omega
 exact⟨rfl,_,h4,hB,h5,h6⟩
end
structure CmpAt (w:World)(cb ob:Nat):Prop where
 var:w.heap[cb]?=some (.cells #[.func (.func 254) #[] #[.pointer (some ⟨ob,0,none⟩)]] 292 (0,0))
 ord:OrdAt w ob
theorem CmpAt.below {w w':World}{cb ob:Nat}(h:CmpAt w cb ob)(hb:Below w.heap.size w w'):CmpAt w' cb ob:=⟨(hb.block _ (lt_of_block h.var)).trans h.var,h.ord.below hb⟩
theorem CmpAt.grown {base g ob cap cb:Nat}{w w':World}{l:List RV}(h:CmpAt w cb ob)(hS:SAt base g ob w cap l)(hg:w.grownBy w' (some g)):CmpAt w' cb ob:=
 ⟨(hg.block _ (lt_of_block h.var) (hS.ne h.var (by decide))).trans h.var,h.ord.grown hg (fun _ _ _ _ hi ht=>hS.ne hi ht)⟩
theorem own_front {w:World}{base g n cap size:Nat}{e:TypeId}{xs:List Value}(h:w.ownsRow base e size (.slice (some ⟨g,0,none⟩) n cap) n xs)(k:Nat)(hk:k≤n):w.ownsRow base e size (.slice (some ⟨g,0,none⟩) k cap) k (xs.take (k * size)):=by
 obtain⟨hl,⟨he,-⟩ | ⟨g',cap',cur,he,h1,h2,h3,h4,h5,h6⟩⟩:=h
 ·cases he
 ·cases he
  have hkn:k * size≤n * size:=Nat.mul_le_mul_right _ hk
  refine⟨by rw[List.length_take];omega,Or.inr ⟨g,cap,cur,rfl,h1,h2,by omega,h4,h5,?_⟩⟩
  rw[← h6,List.take_take,Nat.min_eq_left hkn]
theorem own_behind {base g n cap size:Nat}{e:TypeId}{xs:List Value}:∀(vs:List Value) (o:Nat) (w:World),w.ownsRow base e size (.slice (some ⟨g,0,none⟩) n cap) n xs→xs.length≤o→(w.setCells g o vs).ownsRow base e size (.slice (some ⟨g,0,none⟩) n cap) n xs
 | [],_,_,h,_=>h
 | v::vs,o,w,h,ho=>by
  have h1:=own_write h o v
  rw[List.set_eq_of_length_le ho] at h1
  exact own_behind vs (o+1) _ h1 (by omega)
theorem grown_setCells {g:Nat}:∀(vs:List Value) (o:Nat) (w:World),w.grownBy (w.setCells g o vs) (some g)
 | [],_,_=>grown_refl _ _
 | v::vs,o,w=>grown_trans (grown_set w g o v) (grown_setCells vs (o+1) _)
def upR:RV→List RV→List RV
 | _,[]=>[]
 | x,y::t=>if En.cmpR y.1 x.1=0 then upR y t else y::upR y t
def cmpctR:List RV→List RV
 | []=>[]
 | x::t=>x::upR x t
theorem upR_snoc (l:List RV)(x z y:RV):upR x (l++[z]++[y])=upR x (l++[z])++(if En.cmpR y.1 z.1=0 then [] else [y]):=by
 induction l generalizing x with
 | nil=>simp only[List.nil_append,List.cons_append,upR];split<;>split<;>simp
 | cons a l ih=>
  simp only[List.cons_append,upR] at ih ⊢
  rw[ih]
  split<;>simp
theorem cmpct_snoc (l:List RV)(z y:RV):cmpctR (l++[z]++[y])=cmpctR (l++[z])++(if En.cmpR y.1 z.1=0 then [] else [y]):=by
 cases l with
 | nil=>simp only[List.nil_append,List.cons_append,cmpctR,upR]
 | cons a l=>
  have:=upR_snoc l a z y
  simp only[List.cons_append,cmpctR] at this ⊢
  rw[this]
theorem cmpct_take (D:List RV)(p:Nat)(hp:p+1 < D.length):cmpctR (D.take (p+1+1))=cmpctR (D.take (p+1))++(if En.cmpR D[p+1].1 D[p].1=0 then [] else [D[p+1]]):=by
 have e1:D.take (p+1)=D.take p++[D[p]]:=by rw[List.take_succ_eq_append_getElem (by omega)]
 have e2:D.take (p+1+1)=D.take p++[D[p]]++[D[p+1]]:=by rw[List.take_succ_eq_append_getElem hp,e1]
 rw[e2,e1]
 exact cmpct_snoc _ _ _
theorem upR_len:∀(l:List RV) (x:RV),(upR x l).length≤l.length
 | [],_=>by simp[upR]
 | y::t,x=>by
  unfold upR
  have:=upR_len t y
  split<;>simp<;>omega
theorem cmpct_len (l:List RV):(cmpctR l).length≤l.length:=by
 cases l with
 | nil=>simp[cmpctR]
 | cons x t=>simp[cmpctR,upR_len]
theorem upR_mem:∀(l:List RV) (x z:RV),z∈upR x l→z∈l
 | [],_,_,h=>by simp[upR] at h
 | y::t,x,z,h=>by
  unfold upR at h
  split at h
  ·exact List.mem_cons_of_mem _ (upR_mem t y z h)
  ·rcases List.mem_cons.1 h with h | h
   ·rw[h];exact List.mem_cons_self
   ·exact List.mem_cons_of_mem _ (upR_mem t y z h)
theorem cmpct_mem (l:List RV)(z:RV)(h:z∈cmpctR l):z∈l:=by
 cases l with
 | nil=>simp[cmpctR] at h
 | cons x t=>
  rcases List.mem_cons.1 h with h | h
  ·rw[h];exact List.mem_cons_self
  ·exact List.mem_cons_of_mem _ (upR_mem t x z h)
def Cp1 (base g ob cb cap:Nat)(D:List RV)(w wr:World)(k:Nat):Prop:=cmpctR (D.take k)=D.take k∧SAt base g ob wr cap D∧CmpAt wr cb ob∧w.grownBy wr (some g)
def Cp2 (base g ob cb cap:Nat)(D:List RV)(w wr:World)(k p:Nat):Prop:=∃E:List RV,E.length=D.length∧E.drop (p - 1)=D.drop (p - 1)∧E.take k=cmpctR (D.take p)∧(∀x∈E,x∈D)∧SAt base g ob wr cap E∧CmpAt wr cb ob∧w.grownBy wr (some g)
def CompEnd (base g ob cap:Nat)(D:List RV)(w:World)(e:Ending)(w':World):Prop:=
 e=.returned (.slice (some ⟨g,0,none⟩) (cmpctR D).length cap)∧SAt base g ob w' cap (cmpctR D)∧w.grownBy w' (some g)
section
variable {base g ob cb cap:Nat} {D:List RV} {w wr:World}
theorem Cp1.step {k:Nat}(h:Cp1 base g ob cb cap D w wr (k+1))(hk:k+1 < D.length)(hne:En.cmpR D[k+1].1 D[k].1≠0){w':World}(hb:Below wr.heap.size wr w'):Cp1 base g ob cb cap D w w' (k+1+1):=by
 obtain⟨h1,h2,h3,h4⟩:=h
 refine⟨?_,h2.below hb,h3.below hb,grown_trans h4 (grown_below hb _)⟩
 rw[cmpct_take D k hk,if_neg hne,h1,List.take_succ_eq_append_getElem hk]
theorem Cp1.turn {k:Nat}(h:Cp1 base g ob cb cap D w wr (k+1))(hk:k+1 < D.length)(he:En.cmpR D[k+1].1 D[k].1=0){w':World}(hb:Below wr.heap.size wr w'):Cp2 base g ob cb cap D w w' (k+1) (k+1+1):=by
 obtain⟨h1,h2,h3,h4⟩:=h
 exact⟨D,rfl,rfl,by rw[cmpct_take D k hk,if_pos he,h1,List.append_nil],fun x hx=>hx,h2.below hb,h3.below hb,grown_trans h4 (grown_below hb _)⟩
theorem Cp2.get {q:Nat}{E:List RV}(h1:E.length=D.length)(h2:E.drop q=D.drop q){i:Nat}(hi:q≤i)(hD:i < D.length):E[i]'(by omega)=D[i]:=by
 have e1:(E.drop q)[i - q]?=E[i]?:=by rw[List.getElem?_drop,show q+(i - q)=i by omega]
 have e2:(D.drop q)[i - q]?=D[i]?:=by rw[List.getElem?_drop,show q+(i - q)=i by omega]
 rw[h2,e2,List.getElem?_eq_getElem hD,List.getElem?_eq_getElem (by omega)] at e1
 exact (Option.some.inj e1).symm
theorem drop_one {E D:List RV}{q:Nat}(h:E.drop q=D.drop q):E.drop (q+1)=D.drop (q+1):=by
 rw[← List.drop_drop,← List.drop_drop,h]
theorem Cp2.skip {k q:Nat}(h:Cp2 base g ob cb cap D w wr k (q+1))(hk:q+1 < D.length)(he:En.cmpR D[q+1].1 D[q].1=0){w':World}(hb:Below wr.heap.size wr w'):Cp2 base g ob cb cap D w w' k (q+1+1):=by
 obtain⟨E,h1,h2,h3,h4,h5,h6,h7⟩:=h
 exact⟨E,h1,drop_one h2,by rw[cmpct_take D q hk,if_pos he,List.append_nil];exact h3,h4,h5.below hb,h6.below hb,grown_trans h7 (grown_below hb _)⟩
theorem Cp2.keep {k q:Nat}(h:Cp2 base g ob cb cap D w wr k (q+1))(hkq:k≤q)(hk:q+1 < D.length)(he:En.cmpR D[q+1].1 D[q].1≠0){w':World}(hb:Below wr.heap.size wr w') :
  Cp2 base g ob cb cap D w (put3 w' g k (.int .i64 D[q+1].1.step) D[q+1].2 (.int .i64 D[q+1].1.first)) (k+1) (q+1+1):=by
 obtain⟨E,h1,h2,h3,h4,h5,h6,h7⟩:=h
 have hg:E[q+1]'(by omega)=D[q+1]:=Cp2.get h1 h2 (by simp) hk
 have hm:D[q+1]∈E:=by rw[← hg];exact List.getElem_mem _
 have hS:=(h5.below hb)
 have hP:=hS.put k D[q+1] hm
 refine⟨E.set k D[q+1],by simpa using h1,?_,?_,fun x hx=>?_,hP,(h6.below hb).grown hS (put3_grown _ _ _ _ _ _),grown_trans h7 (grown_trans (grown_below hb _) (put3_grown _ _ _ _ _ _))⟩
 ·rw[List.drop_set_of_lt (by omega)]
  exact drop_one h2
 ·rw[cmpct_take D q hk,if_neg he,← h3,List.take_succ_eq_append_getElem (by simp;omega),List.take_set_of_le (by omega)]
  simp
 ·rcases List.mem_or_eq_of_mem_set hx with h | h
  ·exact h4 x h
  ·rw[h];exact List.getElem_mem _
theorem Cp2.drew {k p:Nat}(h:Cp2 base g ob cb cap D w wr k p):Cp2 base g ob cb cap D w wr.drew k p:=by
 obtain⟨E,h1,h2,h3,h4,h5,h6,h7⟩:=h
 exact⟨E,h1,h2,h3,h4,h5.drew,⟨h6.var,h6.ord⟩,grown_drew h7⟩
theorem Cp2.fin {k:Nat}(h:Cp2 base g ob cb cap D w wr k D.length)(hk:k≤D.length):(cmpctR D).length=k∧SAt base g ob wr cap (cmpctR D)∧w.grownBy wr (some g)∧∀vs,SAt base g ob (wr.setCells g (k * 3) vs) cap (cmpctR D):=by
 obtain⟨E,h1,h2,h3,h4,h5,h6,h7⟩:=h
 rw[List.take_length] at h3
 have hl:(cmpctR D).length=k:=by rw[← h3,List.length_take];omega
 have hrow:wr.ownsRow base 164 3 (.slice (some ⟨g,0,none⟩) k cap) k (runCells (E.take k)):=by
  rw[← runCells_take]
  exact own_front h5.row k (by omega)
 have hsub:∀x∈E.take k,x∈E:=fun x hx=>List.mem_of_mem_take hx
 rw[h3] at hrow hsub
 refine⟨hl,⟨by rw[hl];exact hrow,h5.ord,fun x hx=>h5.offs x (hsub x hx)⟩,h7,fun vs=>?_⟩
 refine h5.turn (grown_setCells vs _ _) hsub ?_
 rw[hl]
 exact own_behind vs (k * 3) wr hrow (by rw[runCells_length,hl];omega)
end
end Go.Proofs.YtfldcmdhneegmaaGreatDoor

import Derived.Test.YtfldcmdhneegmaaGreatDoorX01
import Derived.Deep.RegionWith
set_option maxHeartbeats 4000000
set_option maxRecDepth 1000000
namespace Go.Proofs.YtfldcmdhneegmaaGreatDoor
open Go.RowKit Go.Lib
def stCells (l:List (Int × Bool)):List Value:=l.flatMap fun x=>[.int .i32 x.1,.bool x.2]
theorem stCells_get (l:List (Int × Bool))(k:Nat)(hk:k < l.length):(stCells l)[k * 2]?=some (.int .i32 l[k].1)∧(stCells l)[k * 2+1]?=some (.bool l[k].2):=by
 induction l generalizing k with
 | nil=>simp at hk
 | cons x r ih=>
  cases k with
  | zero=>exact⟨rfl,rfl⟩
  | succ k=>
   have:=ih k (by simpa using hk)
   have e1:(k+1) * 2=k * 2+1+1:=by omega
   rw[e1]
   exact this
def StepsAt (F:Nat→Prop)(w:World)(v:Value)(l:List (Int × Bool)):Prop:=RowAt F w v 2 l.length (stCells l)
theorem StepsAt.below {F:Nat→Prop}{w w':World}{v:Value}{l:List (Int × Bool)}(h:StepsAt F w v l)(hb:Below w.heap.size w w'):StepsAt F w' v l:=RowAt.below h hb
theorem StepsAt.get {F:Nat→Prop}{w:World}{ao:Option Addr}{n cap:Nat}{l:List (Int × Bool)}(h:StepsAt F w (.slice ao n cap) l){i:Nat}(hi:i < l.length):∃b o,ao=some ⟨b,o,none⟩∧b < w.heap.size∧w.cell? ⟨b,o+i * 2,none⟩=some (.int .i32 l[i].1)∧w.cell? ⟨b,o+i * 2+1,none⟩=some (.bool l[i].2):=by
 rcases h.2 with ⟨_,h0⟩ | ⟨b,o,cap',he,_,hb,_,_,r⟩
 ·omega
 ·cases he
  obtain⟨g0,g1⟩:=stCells_get l i hi
  exact⟨b,o,rfl,hb,r _ _ g0,r _ _ g1⟩
theorem pIsLast_any (F:Nat→Prop)(v:Value)(l:List (Int × Bool))(win:Int)(s:Nat)(w:World)(h:StepsAt F w v l)(hl:l.length≤1000) :
  Calls Tryz.prog 179 #[.agg #[v,.int .i64 win],.int .i64 s] w fun e w'=>e=.returned (.bool (decide (s+1=l.length)))∧Below w.heap.size w w':=by
 obtain⟨ao,cap,rfl,-,-⟩:=RowAt.slice h
 clear h
 go_enter Tryz.func179,Tryz.ntmps179
 go_wp2
 go_ret
 refine⟨?_,(Below.refl _ _).alloc (Nat.le_refl _) _⟩
 have e:(((s:Nat):Int) == (l.length:Int) - 1)=decide (s+1=l.length):=by
  rw[Bool.eq_iff_iff]
  simp
  omega
 rw[← e]
 rfl
def goesOn (l:List (Int × Bool))(s:Nat):Bool:=!decide (s+1=l.length) || (l.getD s (0,false)).2
theorem pGoesOn_any (F:Nat→Prop)(v:Value)(l:List (Int × Bool))(win:Int)(s:Nat)(w:World)(h:StepsAt F w v l)(hl:l.length≤1000)(hs:s < l.length) :
  Calls Tryz.prog 178 #[.agg #[v,.int .i64 win],.int .i64 s] w fun e w'=>e=.returned (.bool (goesOn l s))∧Below w.heap.size w w':=by
 obtain⟨ao,cap,rfl,-,-⟩:=RowAt.slice h
 have HL:=hid (fun o=>pIsLast_any F (.slice ao l.length cap) l win s (w.alloc o) (h.below ((Below.refl _ _).alloc (Nat.le_refl _) _)) hl)
 obtain⟨b1,o1,rfl,hb1,d0,d1⟩:=StepsAt.get h hs
 have hg:goesOn l s=(!decide (s+1=l.length) || l[s].2):=by unfold goesOn;simp[hs]
 have HG:=hid hg
 have hs':(s:Int) < (l.length:Int):=by omega
 generalize l[s]=x at *
 clear h hg
 go_enter Tryz.func178,Tryz.ntmps178
 cases hd:decide (s+1=l.length)
 ·rw[hd] at HL HG
  clear hd
  go_wp2_with (go_at_call 179;refine (HL.out _).mono ?_;rintro e w1 ⟨rfl,hb⟩;have HB:=hid hb;clear hb)
  go_ret
  refine⟨by rw[HG.out];rfl,((Below.refl _ _).alloc (Nat.le_refl _) _).trans (HB.out.mono (by simp))⟩
 ·rw[hd] at HL HG
  clear hd
  go_wp2_with (go_at_call 179;refine (HL.out _).mono ?_;rintro e w1 ⟨rfl,hb⟩;have p0:w1.cell? ⟨w.heap.size,0,none⟩=some (.slice (some ⟨b1,o1,none⟩) l.length cap):=(cell_bel hb ⟨w.heap.size,0,none⟩ (by simp)).trans (by simp);have d1':w1.cell? ⟨b1,o1+s * 2+1,none⟩=some (.bool x.2):=(cell_bel hb ⟨b1,o1+s * 2+1,none⟩ (by simp;omega)).trans ((World.cell?_alloc_lt w _ ⟨b1,o1+s * 2+1,none⟩ hb1).trans d1);have HB:=hid hb;clear hb)
  go_ret
  refine⟨by rw[HG.out];rfl,((Below.refl _ _).alloc (Nat.le_refl _) _).trans (HB.out.mono (by simp))⟩
def leads (l:List (Int × Bool))(frm:Int)(to':Nat)(kind:Int):Bool:=((l.getD to' (0,false)).1 == kind) && (decide ((to':Int)=frm+1) || (decide ((to':Int)=frm) && (l.getD to' (0,false)).2))
theorem pHas1_any (x:Int × Bool)(kind:Int)(kb:Nat)(w:World)(hc:w.cell? ⟨kb,0,none⟩=some (.int .i32 kind)) :
  Calls Tryz.prog 163 #[.agg #[.int .i32 x.1,.bool x.2],.pointer (some ⟨kb,0,none⟩)] w fun e w'=>e=.returned (.bool (x.1 == kind))∧Below w.heap.size w w':=by
 have hlt:kb < w.heap.size:=World.block_lt_of_cell? w ⟨kb,0,none⟩ hc
 have hca:∀o,(w.alloc o).cell? ⟨kb,0,none⟩=some (.int .i32 kind):=fun o=>(World.cell?_alloc_lt w o ⟨kb,0,none⟩ hlt).trans hc
 go_enter Tryz.func163,Tryz.ntmps163
 go_wp2
 go_ret
 exact⟨rfl,(Below.refl _ _).alloc (Nat.le_refl _) _⟩
theorem indexS_any (F:Nat→Prop)(v:Value)(l:List (Int × Bool))(kind:Int)(kb:Nat)(w:World)(h:StepsAt F w v l)(hl:l.length≤1000)(hc:w.cell? ⟨kb,0,none⟩=some (.int .i32 kind)) :
  Calls Tryz.prog 218 #[v,.func (.func 163) #[] #[.pointer (some ⟨kb,0,none⟩)]] w fun e w'=>∃i:Int,e=.returned (.int .i64 i)∧decide (0≤i)=(l.any fun x=>x.1 == kind)∧-1≤i∧i≤1000∧Below w.heap.size w w':=by
 obtain⟨ao,cap,rfl,-,-⟩:=RowAt.slice h
 have hlt:kb < w.heap.size:=World.block_lt_of_cell? w ⟨kb,0,none⟩ hc
 have H:=hid h
 clear h
 go_enter Tryz.func218,Tryz.ntmps218
 go_wp2
 go_loopw [8] (fun i wr=>∃k:Nat,k≤l.length∧i=.int .i64 k∧Hid ((l.drop k).any (fun x=>x.1 == kind)=(l.any fun x=>x.1 == kind)∧Below w.heap.size w wr)) (fun i _=>l.length - (intOf i).toNat)
 case atStart=>exact⟨0,Nat.zero_le _,rfl,rfl,Below.refl _ _⟩
 case round=>
  obtain⟨k,hk,rfl,hr⟩:=hrel
  by_cases hlt2:k < l.length
  ·obtain⟨b1,o1,hb,hb1,d0,d1⟩:=StepsAt.get (H.out.below hr.out.2) hlt2
   subst hb
   have hd:(l.drop k).any (fun x=>x.1 == kind)=((l[k].1 == kind) || (l.drop (k+1)).any fun x=>x.1 == kind):=by rw[List.drop_eq_getElem_cons hlt2];rfl
   rw[hr.out.1] at hd
   have hk':(k:Int) < (l.length:Int):=by omega
   have HP:=hid (pHas1_any l[k] kind kb wr ((cell_bel hr.out.2 ⟨kb,0,none⟩ hlt).trans hc))
   generalize l[k]=x at *
   cases he:(x.1 == kind)
   ·rw[he] at HP hd
    have HD:=hid hd
    clear hd he
    go_wp2_with (go_at_call 163;refine HP.out.mono ?_;rintro e w1 ⟨rfl,hb⟩;have HB:=hid (hr.out.2.trans (hb.mono hr.out.2.size));clear hb)
    go_roundw
    case rel=>exact⟨k+1,by omega,by go_num,by rw[HD.out];rfl,HB.out⟩
    case measure=>simp[intOf];omega
   ·rw[he] at HP hd
    have HD:=hid hd
    clear hd he
    go_wp2_with (go_at_call 163;refine HP.out.mono ?_;rintro e w1 ⟨rfl,hb⟩;have HB:=hid (hr.out.2.trans (hb.mono hr.out.2.size));clear hb)
    go_ret
    exact⟨k,rfl,by rw[HD.out];simp,by omega,by omega,HB.out⟩
  ·go_wp2
   go_ret
   refine⟨-1,rfl,?_,by omega,by omega,hr.out.2⟩
   have:=hr.out.1
   rw[List.drop_eq_nil_of_le (by omega)] at this
   rw[← this]
   rfl
theorem containsS_any (F:Nat→Prop)(v:Value)(l:List (Int × Bool))(kind:Int)(kb:Nat)(w:World)(h:StepsAt F w v l)(hl:l.length≤1000)(hc:w.cell? ⟨kb,0,none⟩=some (.int .i32 kind)) :
  Calls Tryz.prog 162 #[v,.func (.func 163) #[] #[.pointer (some ⟨kb,0,none⟩)]] w fun e w'=>e=.returned (.bool (l.any fun x=>x.1 == kind))∧Below w.heap.size w w':=by
 have HI:=hid (indexS_any F v l kind kb w h hl hc)
 clear h
 go_enter Tryz.func162,Tryz.ntmps162
 go_wp2_with (go_at_call 218;refine HI.out.mono ?_;rintro e w1 ⟨i,rfl,h1,h2,h3,h4⟩;have H1:=hid (And.intro h1 h4);clear h1 h4)
 go_ret
 exact⟨by rw[← H1.out.1];rfl,H1.out.2⟩
theorem pHas_any (F:Nat→Prop)(v:Value)(l:List (Int × Bool))(win kind:Int)(w:World)(h:StepsAt F w v l)(hl:l.length≤1000) :
  Calls Tryz.prog 100 #[.agg #[v,.int .i64 win],.int .i32 kind] w fun e w'=>e=.returned (.bool (l.any fun x=>x.1 == kind))∧Below w.heap.size w w':=by
 obtain⟨ao,cap,rfl,-,-⟩:=RowAt.slice h
 have hmf:∀(fn:Fn) (first cap:Array Value) (w:World),(Instr.makeFunc fn first cap).run Tryz.prog w=.ok (.func fn first cap) w:=fun _ _ _ _=>rfl
 have HC:=hid (fun o o2 hc=>containsS_any F (.slice ao l.length cap) l kind (w.heap.size+1) ((w.alloc o).alloc o2) (h.below (((Below.refl _ _).alloc (Nat.le_refl _) _).alloc (by simp) _)) hl hc)
 clear h
 go_enter Tryz.func100,Tryz.ntmps100
 go_wp2_with (go_at_call 162;refine (HC.out _ _ (by rw[World.cell?_alloc_at _ _ _ _ (by simp)];rfl)).mono ?_;rintro e w1 ⟨rfl,hb⟩;have HB:=hid hb;clear hb)
 go_ret
 exact⟨rfl,(((Below.refl _ w).alloc (Nat.le_refl _) _).alloc (by simp) _).trans (HB.out.mono (by simp;omega))⟩
theorem pFits1_any (x:Int × Bool)(w:World) :
  Calls Tryz.prog 260 #[.agg #[.int .i32 x.1,.bool x.2]] w fun e w'=>e=.returned (.bool x.2)∧Below w.heap.size w w':=by
 go_enter Tryz.func260,Tryz.ntmps260
 go_wp2
 go_ret
 exact⟨rfl,(Below.refl _ _).alloc (Nat.le_refl _) _⟩
theorem indexM_any (F:Nat→Prop)(v:Value)(l:List (Int × Bool))(w:World)(h:StepsAt F w v l)(hl:l.length≤1000) :
  Calls Tryz.prog 218 #[v,.func (.func 260) #[] #[]] w fun e w'=>∃i:Int,e=.returned (.int .i64 i)∧decide (0≤i)=(l.any fun x=>x.2)∧-1≤i∧i≤1000∧Below w.heap.size w w':=by
 obtain⟨ao,cap,rfl,-,-⟩:=RowAt.slice h
 have H:=hid h
 clear h
 go_enter Tryz.func218,Tryz.ntmps218
 go_wp2
 go_loopw [8] (fun i wr=>∃k:Nat,k≤l.length∧i=.int .i64 k∧Hid ((l.drop k).any (fun x=>x.2)=(l.any fun x=>x.2)∧Below w.heap.size w wr)) (fun i _=>l.length - (intOf i).toNat)
 case atStart=>exact⟨0,Nat.zero_le _,rfl,rfl,Below.refl _ _⟩
 case round=>
  obtain⟨k,hk,rfl,hr⟩:=hrel
  by_cases hlt2:k < l.length
  ·obtain⟨b1,o1,hb,hb1,d0,d1⟩:=StepsAt.get (H.out.below hr.out.2) hlt2
   subst hb
   have hd:(l.drop k).any (fun x=>x.2)=(l[k].2 || (l.drop (k+1)).any fun x=>x.2):=by rw[List.drop_eq_getElem_cons hlt2];rfl
   rw[hr.out.1] at hd
   have hk':(k:Int) < (l.length:Int):=by omega
   have HP:=hid (pFits1_any l[k] wr)
   generalize l[k]=x at *
   obtain⟨xk,xm⟩:=x
   cases xm
   ·have HD:=hid hd
    clear hd
    go_wp2_with (go_at_call 260;refine HP.out.mono ?_;rintro e w1 ⟨rfl,hb⟩;have HB:=hid (hr.out.2.trans (hb.mono hr.out.2.size));clear hb)
    go_roundw
    case rel=>exact⟨k+1,by omega,by go_num,by rw[HD.out];rfl,HB.out⟩
    case measure=>simp[intOf];omega
   ·have HD:=hid hd
    clear hd
    go_wp2_with (go_at_call 260;refine HP.out.mono ?_;rintro e w1 ⟨rfl,hb⟩;have HB:=hid (hr.out.2.trans (hb.mono hr.out.2.size));clear hb)
    go_ret
    exact⟨k,rfl,by rw[HD.out];simp,by omega,by omega,HB.out⟩
  ·go_wp2
   go_ret
   refine⟨-1,rfl,?_,by omega,by omega,hr.out.2⟩
   have:=hr.out.1
   rw[List.drop_eq_nil_of_le (by omega)] at this
   rw[← this]
   rfl
theorem containsM_any (F:Nat→Prop)(v:Value)(l:List (Int × Bool))(w:World)(h:StepsAt F w v l)(hl:l.length≤1000) :
  Calls Tryz.prog 162 #[v,.func (.func 260) #[] #[]] w fun e w'=>e=.returned (.bool (l.any fun x=>x.2))∧Below w.heap.size w w':=by
 have HI:=hid (indexM_any F v l w h hl)
 clear h
 go_enter Tryz.func162,Tryz.ntmps162
 go_wp2_with (go_at_call 218;refine HI.out.mono ?_;rintro e w1 ⟨i,rfl,h1,h2,h3,h4⟩;have H1:=hid (And.intro h1 h4);clear h1 h4)
 go_ret
 exact⟨by rw[← H1.out.1];rfl,H1.out.2⟩
theorem stCells_take (l:List (Int × Bool))(k:Nat):stCells (l.take k)=(stCells l).take (k * 2):=by
 induction l generalizing k with
 | nil=>simp[stCells]
 | cons x r ih=>
  cases k with
  | zero=>rfl
  | succ k=>
   have e1:(k+1) * 2=k * 2+1+1:=by omega
   rw[e1]
   show _::_::stCells (r.take k)=_::_::(stCells r).take (k * 2)
   rw[ih]
theorem Tryz.elemSteps:Tryz.prog.elem 152=225:=by kernel_rfl
theorem StepsAt.head {F:Nat→Prop}{w:World}{a:Addr}{cap:Nat}{l:List (Int × Bool)}(h:StepsAt F w (.slice (some a) l.length cap) l)(i:Int)(k:Nat)(hi:i=k)(hk:k≤l.length)(hc:l.length≤cap) :
  ∃a' c',(∀W,(Instr.slice 152 (.slice (some a) l.length cap) none (some (.int .i64 i)) none).run Tryz.prog W=.ok (.slice (some a') k c') W)∧StepsAt F w (.slice (some a') k c') (l.take k):=by
 subst hi
 have hsl:∃a' c',Go.sliced (some a) 0 k cap 2=.slice (some a') k c':=by
  unfold Go.sliced
  split
  ·exact⟨_,_,rfl⟩
  ·exact⟨_,_,rfl⟩
 obtain⟨a',c',e⟩:=hsl
 refine⟨a',c',fun W=>?_,?_⟩
 ·rw[← e]
  rw[run_slice_h W 152 (some a) l.length cap (by rw[Tryz.elemSteps];exact Tryz.underlying152) .i64 k (by omega) (by omega),Tryz.elemSteps,Tryz.sizeOf225]
  simp[Result.andThen]
 ·have:=RowAt.sliced (k:=2) h 0 k (by omega) hk
  rw[e] at this
  unfold StepsAt
  have e1:(l.take k).length=k - 0:=by rw[List.length_take];omega
  have e2:stCells (l.take k)=((stCells l).drop (0 * 2)).take ((k - 0) * 2):=by rw[stCells_take];simp
  rw[e1,e2]
  exact this
def fits (l:List (Int × Bool))(s n:Nat):Bool:=decide (n=s+1) || (decide (s+1 < n) && (l.take (s+1)).any fun x=>x.2)
theorem pFits_any (F:Nat→Prop)(v:Value)(l:List (Int × Bool))(win:Int)(s n:Nat)(w:World)(h:StepsAt F w v l)(hl:l.length≤1000)(hs:s < l.length) :
  Calls Tryz.prog 233 #[.agg #[v,.int .i64 win],.int .i64 s,.int .i64 n] w fun e w'=>e=.returned (.bool (fits l s n))∧Below w.heap.size w w':=by
 obtain⟨ao,cap,rfl,hcap,-⟩:=RowAt.slice h
 obtain⟨b1,o1,rfl,hb1,-,-⟩:=StepsAt.get h hs
 have hmf:∀(fn:Fn) (first cap:Array Value) (w:World),(Instr.makeFunc fn first cap).run Tryz.prog w=.ok (.func fn first cap) w:=fun _ _ _ _=>rfl
 by_cases hn:n≤s+1
 ·have h1:decide ((n:Int)≤(s:Int)+1)=true:=decide_eq_true (by omega)
  have HG:Hid (((n:Int) == (s:Int)+1)=fits l s n):=by
   show _=_
   unfold fits
   rw[decide_eq_false (p:=s+1 < n) (by omega),Bool.false_and,Bool.or_false,Bool.eq_iff_iff]
   simp
   omega
  clear h
  go_enter Tryz.func233,Tryz.ntmps233
  go_wp2
  go_ret
  exact⟨by rw[← HG.out];rfl,(Below.refl _ _).alloc (Nat.le_refl _) _⟩
 ·have h1:decide ((n:Int)≤(s:Int)+1)=false:=decide_eq_false (by omega)
  have HG:Hid (((l.take (s+1)).any fun x=>x.2)=fits l s n):=by
   show _=_
   unfold fits
   rw[decide_eq_true (p:=s+1 < n) (by omega),decide_eq_false (p:=n=s+1) (by omega),Bool.true_and,Bool.false_or]
  obtain⟨a',c',hs1,hv1⟩:=h.head ((s:Int)+1) (s+1) (by omega) (by omega) hcap
  have HC:=hid (fun o=>containsM_any F (.slice (some a') (s+1) c') (l.take (s+1)) (w.alloc o) (hv1.below ((Below.refl _ _).alloc (Nat.le_refl _) _)) (by rw[List.length_take];omega))
  clear h hv1
  go_enter Tryz.func233,Tryz.ntmps233
  go_wp2_with (go_at_call 162;refine (HC.out _).mono ?_;rintro e w1 ⟨rfl,hb⟩;have HB:=hid hb;clear hb)
  go_ret
  exact⟨by rw[← HG.out];rfl,((Below.refl _ w).alloc (Nat.le_refl _) _).trans (HB.out.mono (by simp))⟩
end Go.Proofs.YtfldcmdhneegmaaGreatDoor

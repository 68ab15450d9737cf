import Derived.Test.YtfldcmdhneegmaaGreatDoorX03
import Derived.RowKitTokens
set_option maxHeartbeats 4000000
set_option maxRecDepth 1000000
namespace Go.Proofs.YtfldcmdhneegmaaGreatDoor
open Go.RowKit Go.Lib
structure QAt (base:Nat)(w:World)(qb qo g n cap:Nat)(l:List En.Ev):Prop where
 cell:w.cell? ⟨qb,qo,none⟩=some (.slice (some ⟨g,0,none⟩) n cap)
 row:QRow base w (.slice (some ⟨g,0,none⟩) n cap) l
 ne:qb≠g
theorem wrapChk (P:Program)(t ty:TypeId)(a:Addr)(x y:String)(w:World):(Builtin.ssaWrapNilChk_ #[t] ty #[.pointer (some a),strVal x,strVal y]).run P w=.ok (.pointer (some a)) w:=rfl
theorem loadQ (a:Addr)(w:World)(v:Value)(h:w.cell? a=some v):(loadVar 156 a).run Tryz.prog w=.ok v w:=by
 simp[loadVar,isAgg,underlying,Tryz.underlying156,h,Result.andThen]
theorem Tryz.findLess:(Tryz.prog.info? 282).bind (fun i=>(i.methods.find? (·.name == "Less")).map fun m=>(m.path,m.func))=some (#[],some (188,false)):=by kernel_rfl
theorem Tryz.methodLess (a:Addr)(w:World)(v:Value)(h:w.cell? a=some v):(Go.method (452+100) 282 (.pointer (some a)) "Less").run Tryz.prog w=.ok (188,v) w:=by
 obtain⟨i,hi,hm⟩:=Option.bind_eq_some_iff.1 Tryz.findLess
 obtain⟨m,hm,he⟩:=Option.map_eq_some_iff.1 hm
 simp only[Prod.mk.injEq] at he
 obtain⟨hp,hf⟩:=he
 have hq:=loadQ a w v h
 rw[show 452+100=(452+99)+1 from rfl,Go.method]
 simp[typeInfo,hi,hm,hp,hf,follow,receiverAt,underlying,Tryz.underlying282,Place.get,wrapChk,asAddr,hq,Result.andThen]
theorem Tryz.findSwap:(Tryz.prog.info? 282).bind (fun i=>(i.methods.find? (·.name == "Swap")).map fun m=>(m.path,m.func))=some (#[],some (322,false)):=by kernel_rfl
theorem Tryz.methodSwap (a:Addr)(w:World)(v:Value)(h:w.cell? a=some v):(Go.method (452+100) 282 (.pointer (some a)) "Swap").run Tryz.prog w=.ok (322,v) w:=by
 obtain⟨i,hi,hm⟩:=Option.bind_eq_some_iff.1 Tryz.findSwap
 obtain⟨m,hm,he⟩:=Option.map_eq_some_iff.1 hm
 simp only[Prod.mk.injEq] at he
 obtain⟨hp,hf⟩:=he
 have hq:=loadQ a w v h
 rw[show 452+100=(452+99)+1 from rfl,Go.method]
 simp[typeInfo,hi,hm,hp,hf,follow,receiverAt,underlying,Tryz.underlying282,Place.get,wrapChk,asAddr,hq,Result.andThen]
theorem Tryz.findLen:(Tryz.prog.info? 282).bind (fun i=>(i.methods.find? (·.name == "Len")).map fun m=>(m.path,m.func))=some (#[],some (321,false)):=by kernel_rfl
theorem Tryz.methodLen (a:Addr)(w:World)(v:Value)(h:w.cell? a=some v):(Go.method (452+100) 282 (.pointer (some a)) "Len").run Tryz.prog w=.ok (321,v) w:=by
 obtain⟨i,hi,hm⟩:=Option.bind_eq_some_iff.1 Tryz.findLen
 obtain⟨m,hm,he⟩:=Option.map_eq_some_iff.1 hm
 simp only[Prod.mk.injEq] at he
 obtain⟨hp,hf⟩:=he
 have hq:=loadQ a w v h
 rw[show 452+100=(452+99)+1 from rfl,Go.method]
 simp[typeInfo,hi,hm,hp,hf,follow,receiverAt,underlying,Tryz.underlying282,Place.get,wrapChk,asAddr,hq,Result.andThen]
theorem Tryz.methodPop (a:Addr)(w:World):(Go.method (452+100) 282 (.pointer (some a)) "Pop").run Tryz.prog w=.ok (326,.pointer (some a)) w:=by kernel_rfl
theorem Tryz.methodPush (a:Addr)(w:World):(Go.method (452+100) 282 (.pointer (some a)) "Push").run Tryz.prog w=.ok (327,.pointer (some a)) w:=by kernel_rfl
structure DnRel (base qb qo g n cap nn:Nat)(l:List En.Ev)(w wr:World)(ii:Nat)(l':List En.Ev):Prop where
 at':QAt base wr qb qo g n cap l'
 perm:l'.Perm l
 inv:En.DownInv l' nn ii
 grown:w.grownBy wr (some g)
 tail:∀k,nn≤k→En.nth l' k=En.nth l k
theorem qLess_at {base n cap g:Nat}{wr:World}{l':List En.Ev}(h:QRow base wr (.slice (some ⟨g,0,none⟩) n cap) l')(a b:Nat)(ha:a < l'.length)(hb:b < l'.length)(c:Bool)(hc:En.evLt (En.nth l' a) (En.nth l' b)=c)(q:Nat)(x y:Int)(hx:x=a)(hy:y=b) :
  Calls Tryz.prog 188 #[.slice (some ⟨g,0,none⟩) n cap,.int .i64 x,.int .i64 y] (wr.drewN q) fun e w'=>e=.returned (.bool c)∧∃q',w'=wr.drewN q':=by
 subst hx hy hc
 refine (qLess_any (fun b=>base≤b) _ l' a b (wr.drewN q) (h.drewN q).evs ha hb).mono ?_
 rintro e w' ⟨rfl,q',rfl⟩
 exact⟨rfl,_,World.drewN_drewN _ _ _⟩
theorem qLess_at0 {base n cap g:Nat}{wr:World}{l':List En.Ev}(h:QRow base wr (.slice (some ⟨g,0,none⟩) n cap) l')(a b:Nat)(ha:a < l'.length)(hb:b < l'.length)(c:Bool)(hc:En.evLt (En.nth l' a) (En.nth l' b)=c)(x y:Int)(hx:x=a)(hy:y=b) :
  Calls Tryz.prog 188 #[.slice (some ⟨g,0,none⟩) n cap,.int .i64 x,.int .i64 y] wr fun e w'=>e=.returned (.bool c)∧∃q',w'=wr.drewN q':=qLess_at h a b ha hb c hc 0 x y hx hy
theorem qSwap_at {base n cap g:Nat}{wr:World}{l':List En.Ev}(h:QRow base wr (.slice (some ⟨g,0,none⟩) n cap) l')(a b:Nat)(ha:a < l'.length)(hb:b < l'.length)(q:Nat)(x y:Int)(hx:x=a)(hy:y=b) :
  Calls Tryz.prog 322 #[.slice (some ⟨g,0,none⟩) n cap,.int .i64 x,.int .i64 y] (wr.drewN q) fun e w'=>e=.returned (.tuple #[])∧QRow base w' (.slice (some ⟨g,0,none⟩) n cap) (En.swap l' a b)∧wr.grownBy w' (some g):=by
 subst hx hy
 have hn:=h.len
 subst hn
 refine (qSwap_any base g cap l' a b (wr.drewN q) (h.drewN q) ha hb).mono ?_
 rintro e w' ⟨rfl,h1,h2⟩
 exact⟨rfl,h1,⟨h2.os,h2.tape,h2.output,h2.size,h2.block⟩⟩
theorem DnRel.swapped {base qb qo g n cap nn:Nat}{l:List En.Ev}{w wr w2:World}{ii:Nat}{l':List En.Ev}(h:DnRel base qb qo g n cap nn l w wr ii l'){j:Nat}(hj:j < nn)(hc:j=2 * ii+1∨j=2 * ii+2)(hlt:En.evLt (En.nth l' j) (En.nth l' ii)=true)(hb:∀k,k < nn→(k=2 * ii+1∨k=2 * ii+2)→En.evLe (En.nth l' j) (En.nth l' k))
  (hr:QRow base w2 (.slice (some ⟨g,0,none⟩) n cap) (En.swap l' ii j)) (hg:wr.grownBy w2 (some g)):DnRel base qb qo g n cap nn l w w2 j (En.swap l' ii j):=by
 have hle:=h.inv.le
 refine⟨⟨?_,hr,h.at'.ne⟩,(En.swap_perm (by omega) (by omega)).trans h.perm,h.inv.step hj hc hlt hb,grown_trans h.grown hg,fun k hk=>?_⟩
 ·have hlt2:qb < wr.heap.size:=World.block_lt_of_cell? wr ⟨qb,qo,none⟩ h.at'.cell
  rw[World.cell?_of_block (a:=⟨qb,qo,none⟩) (hg.block qb hlt2 (by intro e;cases e;exact h.at'.ne rfl))]
  exact h.at'.cell
 ·rw[En.nth_swap (by omega) (by omega),if_neg (by omega),if_neg (by omega)]
  exact h.tail k hk
theorem DnRel.drawn {base qb qo g n cap nn:Nat}{l:List En.Ev}{w wr:World}{ii:Nat}{l':List En.Ev}(h:DnRel base qb qo g n cap nn l w wr ii l')(q:Nat):DnRel base qb qo g n cap nn l w (wr.drewN q) ii l':=
 ⟨⟨h.at'.cell,h.at'.row.drewN q,h.at'.ne⟩,h.perm,h.inv,grown_drewN h.grown q,h.tail⟩
def DownEnd (base qb qo g n cap nn:Nat)(l:List En.Ev)(w:World)(e:Ending)(w':World):Prop:=
 ∃(c:Bool) (l':List En.Ev),e=.returned (.bool c)∧QAt base w' qb qo g n cap l'∧l'.Perm l∧En.Hp l' nn∧w.grownBy w' (some g)∧∀k,nn≤k→En.nth l' k=En.nth l k
theorem DnRel.fin {base qb qo g n cap nn:Nat}{l:List En.Ev}{w wr:World}{ii:Nat}{l':List En.Ev}(h:DnRel base qb qo g n cap nn l w wr ii l')(h1:2 * ii+1 < nn→En.evLe (En.nth l' ii) (En.nth l' (2 * ii+1)))(h2:2 * ii+2 < nn→En.evLe (En.nth l' ii) (En.nth l' (2 * ii+2)))(c:Bool):DownEnd base qb qo g n cap nn l w (.returned (.bool c)) wr:=
 ⟨c,l',rfl,h.at',h.perm,h.inv.done h1 h2,h.grown,h.tail⟩
theorem hDown_any (base qb qo g n cap nn:Nat)(l:List En.Ev)(w:World)(h:QAt base w qb qo g n cap l)(hi:En.DownInv l nn 0)(hl:l.length≤1000) :
  Calls Tryz.prog 220 #[.iface 282 (.pointer (some ⟨qb,qo,none⟩)),.int .i64 0,.int .i64 nn] w (DownEnd base qb qo g n cap nn l w):=by
 have hle:=hi.le
 go_enter Tryz.func220,Tryz.ntmps220
 go_wp2
 go_loopw [7] (fun iv wr=>∃(ii:Nat) (l':List En.Ev),iv=.int .i64 ii∧ii≤1000∧Hid (DnRel base qb qo g n cap nn l w wr ii l')) (fun iv _=>nn - (intOf iv).toNat)
 case atStart=>exact⟨0,l,rfl,by omega,h,List.Perm.refl _,hi,grown_refl _ _,fun _ _=>rfl⟩
 case round=>
  obtain⟨ii,l',rfl,hii,hr⟩:=hrel
  have hlen:l'.length=l.length:=hr.out.perm.length_eq
  have c1:=hr.out.at'.cell
  by_cases hb1:nn≤2 * ii+1
  ·have hb1':(nn:Int)≤2 * (ii:Int)+1:=by omega
   go_wp2
   go_ret
   exact hr.out.fin (by omega) (by omega) _
  ·have hb1':decide ((nn:Int)≤2 * (ii:Int)+1)=false:=decide_eq_false (by omega)
   have hb0:decide (2 * (ii:Int)+1 < 0)=false:=decide_eq_false (by omega)
   have hr0:=hr.out.at'.row
   have mL:=fun q=>Tryz.methodLess ⟨qb,qo,none⟩ (wr.drewN q) _ c1
   have mS:=fun q=>Tryz.methodSwap ⟨qb,qo,none⟩ (wr.drewN q) _ c1
   have mL0:=Tryz.methodLess ⟨qb,qo,none⟩ wr _ c1
   have HQ:=hid hr0
   clear hr0
   have hlle:=hr.out.inv.le
   by_cases hb2:nn≤2 * ii+2
   ·have hb2':decide (2 * (ii:Int)+1+1 < (nn:Int))=false:=decide_eq_false (by omega)
    have hb3':decide (2 * (ii:Int)+2 < (nn:Int))=false:=decide_eq_false (by omega)
    cases hlt:En.evLt (En.nth l' (2 * ii+1)) (En.nth l' ii)
    ·have HLT:=hid hlt
     clear hlt
     go_wp2_with (first
      | (go_at_call 188;refine (qLess_at0 HQ.out (2 * ii+1) (ii) (by omega) (by omega) false HLT.out _ _ (by omega) (by omega)).mono ?_;rintro e w1 ⟨rfl,q1,hw1⟩;subst hw1;have mL1:=mL q1;have mS1:=mS q1))
     go_ret
     exact (hr.out.drawn q1).fin (fun _=>HLT.out) (by omega) _
    ·have HLT:=hid hlt
     clear hlt
     go_wp2_with (first
      | (go_at_call 188;refine (qLess_at0 HQ.out (2 * ii+1) (ii) (by omega) (by omega) true HLT.out _ _ (by omega) (by omega)).mono ?_;rintro e w1 ⟨rfl,q1,hw1⟩;subst hw1;have mL1:=mL q1;have mS1:=mS q1)
      | (go_at_call 322;refine (qSwap_at HQ.out (ii) (2 * ii+1) (by omega) (by omega) q1 _ _ (by omega) (by omega)).mono ?_;rintro e w3 ⟨rfl,h2,h3⟩;have HW:=hid (And.intro h2 h3);clear h2 h3))
     go_roundw
     case rel=>exact⟨2 * ii+1,En.swap l' ii (2 * ii+1),by go_num,by omega,hr.out.swapped (by omega) (by omega) HLT.out (fun k hk hc=>by have e:k=2 * ii+1:=(by omega);subst e;exact En.evLe.refl _) HW.out.1 HW.out.2⟩
     case measure=>simp[intOf];omega
   ·have hb2':(2 * (ii:Int)+1+1 < (nn:Int)):=by omega
    have hb3':(2 * (ii:Int)+2 < (nn:Int)):=by omega
    cases hfs:En.evLt (En.nth l' (2 * ii+2)) (En.nth l' (2 * ii+1))
    ·have HFS:=hid hfs
     clear hfs
     cases hlt:En.evLt (En.nth l' (2 * ii+1)) (En.nth l' ii)
     ·have HLT:=hid hlt
      clear hlt
      go_wp2_with (first
       | (go_at_call 188;refine (qLess_at0 HQ.out (2 * ii+2) (2 * ii+1) (by omega) (by omega) false HFS.out _ _ (by omega) (by omega)).mono ?_;rintro e w1 ⟨rfl,q1,hw1⟩;subst hw1;have mL1:=mL q1;have mS1:=mS q1)
       | (go_at_call 188;refine (qLess_at HQ.out (2 * ii+1) (ii) (by omega) (by omega) false HLT.out q1 _ _ (by omega) (by omega)).mono ?_;rintro e w2 ⟨rfl,q2,hw2⟩;subst hw2;have mS2:=mS q2))
      go_ret
      exact (hr.out.drawn q2).fin (fun _=>HLT.out) (fun _=>(show En.evLe _ _ from HLT.out).trans HFS.out) _
     ·have HLT:=hid hlt
      clear hlt
      go_wp2_with (first
       | (go_at_call 188;refine (qLess_at0 HQ.out (2 * ii+2) (2 * ii+1) (by omega) (by omega) false HFS.out _ _ (by omega) (by omega)).mono ?_;rintro e w1 ⟨rfl,q1,hw1⟩;subst hw1;have mL1:=mL q1;have mS1:=mS q1)
       | (go_at_call 188;refine (qLess_at HQ.out (2 * ii+1) (ii) (by omega) (by omega) true HLT.out q1 _ _ (by omega) (by omega)).mono ?_;rintro e w2 ⟨rfl,q2,hw2⟩;subst hw2;have mS2:=mS q2)
       | (go_at_call 322;refine (qSwap_at HQ.out (ii) (2 * ii+1) (by omega) (by omega) q2 _ _ (by omega) (by omega)).mono ?_;rintro e w3 ⟨rfl,h2,h3⟩;have HW:=hid (And.intro h2 h3);clear h2 h3))
      go_roundw
      case rel=>exact⟨2 * ii+1,En.swap l' ii (2 * ii+1),by go_num,by omega,hr.out.swapped (by omega) (by omega) HLT.out (fun k hk hc=>by rcases hc with rfl | rfl;exact En.evLe.refl _;exact HFS.out) HW.out.1 HW.out.2⟩
      case measure=>simp[intOf];omega
    ·have HFS:=hid hfs
     clear hfs
     cases hlt:En.evLt (En.nth l' (2 * ii+2)) (En.nth l' ii)
     ·have HLT:=hid hlt
      clear hlt
      go_wp2_with (first
       | (go_at_call 188;refine (qLess_at0 HQ.out (2 * ii+2) (2 * ii+1) (by omega) (by omega) true HFS.out _ _ (by omega) (by omega)).mono ?_;rintro e w1 ⟨rfl,q1,hw1⟩;subst hw1;have mL1:=mL q1;have mS1:=mS q1)
       | (go_at_call 188;refine (qLess_at HQ.out (2 * ii+2) (ii) (by omega) (by omega) false HLT.out q1 _ _ (by omega) (by omega)).mono ?_;rintro e w2 ⟨rfl,q2,hw2⟩;subst hw2;have mS2:=mS q2))
      go_ret
      exact (hr.out.drawn q2).fin (fun _=>(show En.evLe _ _ from HLT.out).trans (En.evLt.le HFS.out)) (fun _=>HLT.out) _
     ·have HLT:=hid hlt
      clear hlt
      go_wp2_with (first
       | (go_at_call 188;refine (qLess_at0 HQ.out (2 * ii+2) (2 * ii+1) (by omega) (by omega) true HFS.out _ _ (by omega) (by omega)).mono ?_;rintro e w1 ⟨rfl,q1,hw1⟩;subst hw1;have mL1:=mL q1;have mS1:=mS q1)
       | (go_at_call 188;refine (qLess_at HQ.out (2 * ii+2) (ii) (by omega) (by omega) true HLT.out q1 _ _ (by omega) (by omega)).mono ?_;rintro e w2 ⟨rfl,q2,hw2⟩;subst hw2;have mS2:=mS q2)
       | (go_at_call 322;refine (qSwap_at HQ.out (ii) (2 * ii+2) (by omega) (by omega) q2 _ _ (by omega) (by omega)).mono ?_;rintro e w3 ⟨rfl,h2,h3⟩;have HW:=hid (And.intro h2 h3);clear h2 h3))
      go_roundw
      case rel=>exact⟨2 * ii+2,En.swap l' ii (2 * ii+2),by go_num,by omega,hr.out.swapped (by omega) (by omega) HLT.out (fun k hk hc=>by rcases hc with rfl | rfl;exact En.evLt.le HFS.out;exact En.evLe.refl _) HW.out.1 HW.out.2⟩
      case measure=>simp[intOf];omega
end Go.Proofs.YtfldcmdhneegmaaGreatDoor

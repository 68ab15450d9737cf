import Derived.Test.YtfldcmdhneegmaaGreatDoorX30
import Derived.Test.YtfldcmdhneegmaaGreatDoorX38
import Derived.Test.YtfldcmdhneegmaaGreatDoorX41
set_option maxHeartbeats 4000000
set_option maxRecDepth 1000000
namespace Go.Proofs.YtfldcmdhneegmaaGreatDoor
open Go.RowKit Go.Lib
def StS {α:Type}(o:Option (α × List UInt8))(a:α)(l:List UInt8)(bad:Bool):Prop:=
 match o with
 | some (m,r)=>bad=false∧a=m∧l=r
 | none=>bad=true
def nextS (top:Nat)(bad:Bool)(l:List UInt8):Option (Nat × List UInt8):=if bad=true then none else Fr.rdB (top+1) l
def momS (bad:Bool)(l:List UInt8):Option (Int × List UInt8):=if bad=true then none else Fr.rdM l
def NumS (l:List UInt8)(bad:Bool)(top b:Nat)(w:World)(e:Ending)(w':World):Prop:=
 But b w w'∧∃(n:Nat) (r:List UInt8) (x:Bool),e=.returned (.int .u64 n)∧n < 18446744073709551616∧RdrAt w' b r x∧r.length≤l.length∧StS (nextS top bad l) n r x
def MomS (l:List UInt8)(bad:Bool)(b:Nat)(w:World)(e:Ending)(w':World):Prop:=
 But b w w'∧∃(t:Int) (r:List UInt8) (x:Bool),e=.returned (.int .i64 t)∧-9223372036854775808≤t∧t < 9223372036854775808∧RdrAt w' b r x∧r.length≤l.length∧StS (momS bad l) t r x
theorem rrNumber_s (l:List UInt8)(bad:Bool)(top b:Nat)(w:World)(hb:RdrAt w b l bad)(hl:l.length≤1000000) :
  Calls Tryz.prog 35 #[.pointer (some ⟨b,0,none⟩),.int .u64 top] w (NumS l bad top b w):=by
 refine (rrNumber_any l bad top b w hb hl).mono fun e w' h=>?_
 obtain⟨h1,h2⟩:=h
 refine⟨h1,?_⟩
 cases hr:Fr.rdRaw l with
 | none=>
  rw[hr] at h2
  refine⟨0,[],true,h2.1,by omega,h2.2,by simp,?_⟩
  unfold StS nextS Fr.rdB Fr.rd
  rw[hr]
  split<;>simp_all
 | some q=>
  obtain⟨n,z,r⟩:=q
  rw[hr] at h2
  obtain⟨k1,k2⟩:=Fr.rdRaw_lt hr
  refine⟨n,r,_,h2.1,k1,h2.2,by omega,?_⟩
  unfold StS nextS Fr.rdB Fr.rd
  rw[hr]
  cases bad<;>cases z<;>simp
  by_cases h3:n < top+1
  ·simp[h3]
   omega
  ·simp[h3]
   omega
theorem rrMoment_s (l:List UInt8)(bad:Bool)(b:Nat)(w:World)(hb:RdrAt w b l bad)(hl:l.length≤1000000) :
  Calls Tryz.prog 36 #[.pointer (some ⟨b,0,none⟩)] w (MomS l bad b w):=by
 refine (rrMoment_any l bad b w hb hl).mono fun e w' h=>?_
 obtain⟨h1,h2⟩:=h
 refine⟨h1,?_⟩
 cases hr:Fr.rdRaw l with
 | none=>
  rw[hr] at h2
  refine⟨0,[],true,h2.1,by omega,by omega,h2.2,by simp,?_⟩
  unfold StS momS Fr.rdM Fr.rd
  rw[hr]
  split<;>simp_all
 | some q=>
  obtain⟨n,z,r⟩:=q
  rw[hr] at h2
  obtain⟨k1,k2⟩:=Fr.rdRaw_lt hr
  obtain⟨k3,k4⟩:=Fr.zag_range k1
  refine⟨Fr.zag n,r,_,h2.1,k3,k4,h2.2,by omega,?_⟩
  unfold StS momS Fr.rdM Fr.rd
  rw[hr]
  cases bad<;>cases z<;>simp
namespace Fr
def dOff (nx:Nat)(Q:List En.Ev)(acc:List Int)(l:List UInt8):Option (Nat × List UInt8):=
 match rdB 9007199254740992 l with
 | none=>none
 | some (o,r)=>if o < nx∧¬ (o:Int)∈acc∧(Q.any fun y=>y.off == (o:Int))=false then some (o,r) else none
def dOffs (nx:Nat)(Q:List En.Ev):Nat→List Int→List UInt8→Option (List Int × List UInt8)
 | 0,acc,l=>some (acc,l)
 | k+1,acc,l=>
  match dOff nx Q acc l with
  | none=>none
  | some (o,r)=>dOffs nx Q k (acc++[(o:Int)]) r
def dRun (steps:List (Int × Bool))(win:Int)(nx:Nat)(wm:Int)(Q:List En.Ev)(l:List UInt8):Option (En.Rn × List UInt8):=
 match rdB steps.length l with
 | none=>none
 | some (s,r1)=>
  match rdB 1048577 r1 with
  | none=>none
  | some (n,r2)=>
   match dOffs nx Q n [] r2 with
   | none=>none
   | some (os,r3)=>
    match rdM r3 with
    | none=>none
    | some (t,r4)=>if goesOn steps s=true∧fits steps s os.length=true∧t≤wm∧En.far wm t < win then some (⟨s,os,t⟩,r4) else none
def dTail (steps:List (Int × Bool))(win wm:Int)(st:Nat)(o:Option (List Int × List UInt8)):Option (En.Rn × List UInt8):=
 match o with
 | none=>none
 | some (os,r3)=>
  match rdM r3 with
  | none=>none
  | some (t,r4)=>if goesOn steps st=true∧fits steps st os.length=true∧t≤wm∧En.far wm t < win then some (⟨st,os,t⟩,r4) else none
theorem dRun_eq (steps:List (Int × Bool))(win:Int)(nx:Nat)(wm:Int)(Q:List En.Ev)(l:List UInt8):dRun steps win nx wm Q l=match rdB steps.length l with
  | none=>none
  | some (s,r1)=>match rdB 1048577 r1 with
   | none=>none
   | some (n,r2)=>dTail steps win wm s (dOffs nx Q n [] r2):=by
 unfold dRun dTail
 rfl
def DRel (D:Option (En.Rn × List UInt8))(steps:List (Int × Bool))(win:Int)(nx:Nat)(wm:Int)(Q:List En.Ev)(st n i:Nat)(os:List Int)(r:List UInt8)(x:Bool):Prop:=
 (x=true∧D=none)∨(x=false∧i≤n∧n≤1048576∧st < steps.length∧D=dTail steps win wm st (dOffs nx Q (n - i) os r))
theorem DRel.start {steps:List (Int × Bool)}{win:Int}{nx:Nat}{wm:Int}{Q:List En.Ev}{l r1 r2:List UInt8}{bad x1 x2:Bool}{st n:Nat}(h1:StS (nextS (steps.length - 1) bad l) st r1 x1)(h2:StS (nextS 1048576 x1 r1) n r2 x2)(hs:0 < steps.length) :
  DRel (if bad=true then none else dRun steps win nx wm Q l) steps win nx wm Q st n 0 [] r2 x2:=by
 unfold nextS at h1 h2
 cases bad with
 | true=>
  simp only[if_true,StS] at h1
  subst h1
  simp only[if_true,StS] at h2
  exact Or.inl ⟨h2,rfl⟩
 | false=>
  simp only[Bool.false_eq_true,if_false] at h1 ⊢
  rw[show steps.length - 1+1=steps.length by omega] at h1
  rw[dRun_eq]
  cases e1:rdB steps.length l with
  | none=>
   rw[e1] at h1
   simp only[StS] at h1
   subst h1
   simp only[if_true,StS] at h2
   exact Or.inl ⟨h2,rfl⟩
  | some q=>
   obtain⟨m,r⟩:=q
   rw[e1] at h1
   simp only[StS] at h1
   obtain⟨rfl,rfl,rfl⟩:=h1
   simp only[Bool.false_eq_true,if_false] at h2
   cases e2:rdB 1048577 r1 with
   | none=>
    rw[e2] at h2
    simp only[StS] at h2
    exact Or.inl ⟨h2,by simp only[e2]⟩
   | some q2=>
    obtain⟨m2,r'⟩:=q2
    rw[e2] at h2
    simp only[StS] at h2
    obtain⟨rfl,rfl,rfl⟩:=h2
    have:=(rdB_some e1).2
    have:=(rdB_some e2).2
    exact Or.inr ⟨rfl,Nat.zero_le _,by omega,by omega,by simp only[e2,Nat.sub_zero]⟩
theorem DRel.step {D:Option (En.Rn × List UInt8)}{steps:List (Int × Bool)}{win:Int}{nx:Nat}{wm:Int}{Q:List En.Ev}{st n i o:Nat}{os:List Int}{r r':List UInt8}{y x:Bool}(h:DRel D steps win nx wm Q st n i os r false)(hi:i < n)(ho:o < 18446744073709551616)(h1:StS (nextS 9007199254740991 false r) o r' y)
  (hx:x=(((y || decide ((nx:Int)≤wrap64 o)) || os.any fun z=>z == wrap64 o) || Q.any fun e=>e.off == wrap64 o)):DRel D steps win nx wm Q st n (i+1) (os++[wrap64 o]) r' x:=by
 rcases h with ⟨h,-⟩ | ⟨-,h3,h4,h5,h6⟩
 ·cases h
 ·rw[show n - i=(n - (i+1))+1 by omega,dOffs] at h6
  unfold nextS at h1
  simp only[Bool.false_eq_true,if_false] at h1
  unfold dOff at h6
  cases e1:rdB 9007199254740992 r with
  | none=>
   rw[e1] at h1 h6
   simp only[StS] at h1
   subst h1
   exact Or.inl ⟨by rw[hx];simp,h6⟩
  | some q=>
   obtain⟨m,r1⟩:=q
   rw[e1] at h1 h6
   simp only[StS] at h1
   obtain⟨rfl,rfl,rfl⟩:=h1
   have hm:=(rdB_some e1).2
   have hw:wrap64 (o:Int)=o:=by unfold wrap64;omega
   rw[hw] at hx ⊢
   simp only[Bool.false_or] at hx
   by_cases hc:o < nx∧¬ (o:Int)∈os∧(Q.any fun y=>y.off == (o:Int))=false
   ·simp only[if_pos hc] at h6
    refine Or.inr ⟨?_,by omega,h4,h5,h6⟩
    have h7:os.any (fun z=>z == (o:Int))=false:=by
     rw[List.any_eq_false]
     intro z hz e
     exact hc.2.1 (by have:=(beq_iff_eq.1 e);rw[← this];exact hz)
    rw[hx,h7,hc.2.2]
    simp
    omega
   ·simp only[if_neg hc] at h6
    refine Or.inl ⟨?_,h6⟩
    rw[hx]
    by_cases a1:o < nx
    ·by_cases a2:(o:Int)∈os
     ·have:os.any (fun z=>z == (o:Int))=true:=List.any_eq_true.2 ⟨_,a2,by simp⟩
      rw[this]
      simp
     ·have a3:(Q.any fun y=>y.off == (o:Int))=true:=by
       cases hq:(Q.any fun y=>y.off == (o:Int)) with
       | true=>rfl
       | false=>exact absurd ⟨a1,a2,hq⟩ hc
      rw[a3]
      simp
    ·have:decide ((nx:Int)≤(o:Int))=true:=decide_eq_true (by omega)
     rw[this]
     simp
end Fr
structure RlP where
 F:Nat→Prop
 eb:Nat
 pb:Nat
 b:Nat
 P:En.Pat
 W:Int
 nx:Nat
 vs:Value
 vw:Value
 vd:Value
 vo:Value
 Q:List En.Ev
 old:List RV
structure RlP.At (p:RlP)(w:World):Prop where
 blk:w.heap[p.eb]?=some (.cells #[.pointer (some ⟨p.pb,0,none⟩),.int .i64 p.W,.int .i64 p.nx,p.vw,p.vd,p.vo] 86 (0,0))
 pat:w.heap[p.pb]?=some (.cells #[p.vs,.int .i64 p.P.win] 99 (0,0))
 steps:RowAt p.F w p.vs 2 p.P.steps.length (stepRow p.P.steps)
 wait:EvsAt p.F w p.vw p.Q
structure RlP.Ok (p:RlP):Prop where
 fine:Pl.Fine p.P.steps p.P.win
 w0:-9223372036854775808≤p.W
 w1:p.W < 9223372036854775808
 n1:p.nx < 9007199254740992
 q12:p.Q.length≤12
 be:p.b≠p.eb
 bp:p.b≠p.pb
 bf:¬ p.F p.b
theorem RlP.At.but {p:RlP}{w w':World}(h:p.At w)(O:p.Ok)(hb:But p.b w w'):p.At w':=
 ⟨(hb.block _ (lt_of_block h.blk) (by simpa using O.be.symm)).trans h.blk,(hb.block _ (lt_of_block h.pat) (by simpa using O.bp.symm)).trans h.pat,RowAt.but h.steps hb O.bf,RowAt.but h.wait hb O.bf⟩
def DRunEnd (p:RlP)(l:List UInt8)(bad:Bool)(w:World)(e:Ending)(w':World):Prop:=
 But p.b w w'∧∃(z:Int) (vo:Value) (t:Int) (os:List Int) (r:List UInt8) (x:Bool),e=.returned (.agg #[.int .i64 z,vo,.int .i64 t])∧w'.ownsRow w.heap.size 3 1 vo os.length (intCells os)∧RdrAt w' p.b r x∧r.length≤l.length ∧
  ∃st:Nat,StS (if bad=true then none else Fr.dRun p.P.steps p.P.win p.nx p.W p.Q l) ⟨st,os,t⟩ r x∧(x=false→z=st)
end Go.Proofs.YtfldcmdhneegmaaGreatDoor

import Derived.Test.YtfldcmdhneegmaaGreatDoorX31
import Derived.Test.YtfldcmdhneegmaaGreatDoorX12
import Derived.Test.YtfldcmdhneegmaaGreatDoorX08
set_option maxHeartbeats 4000000
set_option maxRecDepth 1000000
namespace Go.Proofs.YtfldcmdhneegmaaGreatDoor
open Go.RowKit Go.Lib
theorem readOffset_any (F:Nat→Prop)(v:Value)(l:List UInt8)(b k eb nx:Nat)(w:World)(hr:RdAt w b v k)(hv:BytesAt F w v l)(hF:¬ F b)(hk:k≤l.length)(hl:l.length≤1000000)(hn:w.cell? ⟨eb,3,none⟩=some (.int .i64 nx))(hlim:nx < 9223372036854775808) :
  Calls Tryz.prog 229 #[.pointer (some ⟨eb,0,none⟩),.pointer (some ⟨b,0,none⟩)] w (BelowEnd l k v nx b w):=by
 have HC:=hid (fun s=>fBelow_any F v l b k nx s w hr hv hF hk hl hlim)
 clear hr hv
 cases hx:Fr.rd (l.drop k) with
 | none=>
  have HX:=hid hx
  clear hx
  go_enter Tryz.func229,Tryz.ntmps229
  go_wp2_with (go_at_call 116;refine (HC.out _).mono ?_;rintro e w1 ⟨hb,he⟩;rw[HX.out] at he;obtain⟨n1,s1,rfl⟩:=he;have HB:=hid hb;clear hb)
  refine⟨rfl,HB.out,?_⟩
  rw[HX.out]
  exact⟨_,_,rfl⟩
 | some x=>
  obtain⟨n,r⟩:=x
  have HX:=hid hx
  clear hx
  by_cases hlt:n < nx
  ·have HL:=hid hlt
   clear hlt
   go_enter Tryz.func229,Tryz.ntmps229
   go_wp2_with (go_at_call 116;refine (HC.out _).mono ?_;rintro e w1 ⟨hb,he⟩;rw[HX.out] at he;simp only[] at he;rw[if_pos HL.out] at he;obtain⟨rfl,hr2⟩:=he;have HB:=hid (And.intro hb hr2);clear hb hr2)
   go_ret
   refine⟨HB.out.1,?_⟩
   rw[HX.out]
   simp only[]
   rw[if_pos HL.out]
   exact⟨rfl,HB.out.2⟩
  ·have HL:=hid hlt
   clear hlt
   go_enter Tryz.func229,Tryz.ntmps229
   go_wp2_with (go_at_call 116;refine (HC.out _).mono ?_;rintro e w1 ⟨hb,he⟩;rw[HX.out] at he;simp only[] at he;rw[if_neg HL.out] at he;obtain⟨n1,s1,rfl⟩:=he;have HB:=hid hb;clear hb)
   refine⟨rfl,HB.out,?_⟩
   rw[HX.out]
   simp only[]
   rw[if_neg HL.out]
   exact⟨_,_,rfl⟩
theorem cell_but {b:Nat}{w w':World}(h:But b w w')(x:Addr)(hx:x.block < w.heap.size)(hn:x.block≠b):w'.cell? x=w.cell? x:=
 World.cell?_of_block (h.block _ hx (by simpa using hn))
def RunOffEnd (l:List UInt8)(k:Nat)(v:Value)(nx:Nat)(evs:List En.Ev)(b:Nat)(w:World)(e:Ending)(w':World):Prop:=
 But b w w' ∧
  match Fr.rd (l.drop k) with
  | some (n,r)=>if n < nx∧(evs.any fun x=>x.off == (n:Int))=false then e=.returned (.int .i64 n)∧RdAt w' b v (l.length - r.length) else BytesPanic e
  | none=>BytesPanic e
theorem readRunOffset_any (F G:Nat→Prop)(v vq:Value)(l:List UInt8)(evs:List En.Ev)(b k eb nx:Nat)(w:World)(hr:RdAt w b v k)(hv:BytesAt F w v l)(hF:¬ F b)(hk:k≤l.length)(hl:l.length≤1000000)(hn:w.cell? ⟨eb,3,none⟩=some (.int .i64 nx))(hlim:nx < 9223372036854775808)
  (hq:w.cell? ⟨eb,4,none⟩=some vq) (hqv:EvsAt G w vq evs) (hG:¬ G b) (heb:eb≠b) (hel:evs.length≤1000000) :
  Calls Tryz.prog 232 #[.pointer (some ⟨eb,0,none⟩),.pointer (some ⟨b,0,none⟩)] w (RunOffEnd l k v nx evs b w):=by
 have HC:=hid (readOffset_any F v l b k eb nx w hr hv hF hk hl hn hlim)
 have hlt:eb < w.heap.size:=World.block_lt_of_cell? w ⟨eb,4,none⟩ hq
 obtain⟨ao,cap,rfl,-,-⟩:=RowAt.slice hqv
 have HQ:=hid hqv
 clear hr hv hqv
 cases hx:Fr.rd (l.drop k) with
 | none=>
  have HX:=hid hx
  clear hx
  go_enter Tryz.func232,Tryz.ntmps232
  go_wp2_with (go_at_call 229;refine HC.out.mono ?_;rintro e w1 ⟨hb,he⟩;rw[HX.out] at he;obtain⟨n1,s1,rfl⟩:=he;have HB:=hid hb;clear hb)
  refine⟨rfl,HB.out,?_⟩
  rw[HX.out]
  exact⟨_,_,rfl⟩
 | some x=>
  obtain⟨n,r⟩:=x
  have HX:=hid hx
  clear hx
  by_cases hlt2:n < nx
  ·have HL:=hid hlt2
   have hn':(n:Int) < 9223372036854775808:=by omega
   clear hlt2
   have HH:Hid (∀W,But b w W→Calls Tryz.prog 187 #[.slice ao evs.length cap,.int .i64 n] W fun e w'=>e=.returned (.bool (evs.any fun x=>x.off == (n:Int)))∧Below W.heap.size W w'):=fun W hW=>qHas_any G _ evs n W (RowAt.but HQ.out hW hG) hel
   cases ha:evs.any fun x=>x.off == (n:Int)
   ·rw[ha] at HH
    have HA:=hid ha
    clear ha
    go_enter Tryz.func232,Tryz.ntmps232
    go_wp2_with (first
     | (go_at_call 229;refine HC.out.mono ?_;rintro e w1 ⟨hb,he⟩;rw[HX.out] at he;simp only[] at he;rw[if_pos HL.out] at he;obtain⟨rfl,hr2⟩:=he;have q1:w1.cell? ⟨eb,4,none⟩=some (.slice ao evs.length cap):=(cell_but hb ⟨eb,4,none⟩ hlt heb).trans hq;have HB:=hid (And.intro hb hr2);clear hb hr2)
     | (go_at_call 187;refine (HH.out _ HB.out.1).mono ?_;rintro e w2 ⟨rfl,hw⟩;have HB2:=hid hw;clear hw)
     | (go_at_call_of 113 (Value.bool true);refine (fNeed_true b _ _).mono ?_;rintro e w3 ⟨rfl,hw⟩;subst hw))
    go_ret
    refine⟨HB.out.1.trans (But.ofBelow HB2.out),?_⟩
    rw[HX.out]
    simp only[]
    rw[if_pos ⟨HL.out,HA.out⟩]
    exact⟨rfl,(HB2.out.block _ (lt_of_block HB.out.2)).trans HB.out.2⟩
   ·rw[ha] at HH
    have HA:=hid ha
    clear ha
    go_enter Tryz.func232,Tryz.ntmps232
    go_wp2_with (first
     | (go_at_call 229;refine HC.out.mono ?_;rintro e w1 ⟨hb,he⟩;rw[HX.out] at he;simp only[] at he;rw[if_pos HL.out] at he;obtain⟨rfl,hr2⟩:=he;have q1:w1.cell? ⟨eb,4,none⟩=some (.slice ao evs.length cap):=(cell_but hb ⟨eb,4,none⟩ hlt heb).trans hq;have HB:=hid (And.intro hb hr2);clear hb hr2)
     | (go_at_call 187;refine (HH.out _ HB.out.1).mono ?_;rintro e w2 ⟨rfl,hw⟩;have hr3:RdAt w2 b v (l.length - r.length):=(hw.block _ (lt_of_block HB.out.2)).trans HB.out.2;have HB2:=hid (And.intro hw hr3);clear hw hr3)
     | (go_at_call_of 113 (Value.bool false);refine (fNeed_false b _ _ _ HB2.out.2.c1).mono ?_;rintro e w3 ⟨rfl,hw⟩;subst hw))
    refine⟨rfl,HB.out.1.trans (But.ofBelow HB2.out.1),?_⟩
    rw[HX.out]
    simp only[]
    rw[if_neg (by rw[HA.out];simp)]
    exact⟨_,_,rfl⟩
  ·have HL:=hid hlt2
   clear hlt2
   go_enter Tryz.func232,Tryz.ntmps232
   go_wp2_with (go_at_call 229;refine HC.out.mono ?_;rintro e w1 ⟨hb,he⟩;rw[HX.out] at he;simp only[] at he;rw[if_neg HL.out] at he;obtain⟨n1,s1,rfl⟩:=he;have HB:=hid hb;clear hb)
   refine⟨rfl,HB.out,?_⟩
   rw[HX.out]
   simp only[]
   rw[if_neg (fun h=>HL.out h.1)]
   exact⟨_,_,rfl⟩
end Go.Proofs.YtfldcmdhneegmaaGreatDoor
namespace Go.Proofs.YtfldcmdhneegmaaGreatDoor.Fr
def rdB (limit:Nat)(l:List UInt8):Option (Nat × List UInt8):=
 match rd l with
 | some (n,r)=>if n < limit then some (n,r) else none
 | none=>none
theorem rdB_some {limit:Nat}{l:List UInt8}{n:Nat}{r:List UInt8}(h:rdB limit l=some (n,r)):rd l=some (n,r)∧n < limit:=by
 unfold rdB at h
 split at h
 ·split at h
  ·simp only[Option.some.injEq,Prod.mk.injEq] at h
   obtain⟨rfl,rfl⟩:=h
   exact⟨by assumption,by assumption⟩
  ·cases h
 ·cases h
def rdM (l:List UInt8):Option (Int × List UInt8):=(rd l).map fun x=>(zag x.1,x.2)
theorem rd_len {l:List UInt8}{n:Nat}{r:List UInt8}(h:rd l=some (n,r)):r.length≤l.length:=by
 have:=(rd_back h).1
 rw[this,List.length_append]
 omega
theorem rd_left {l:List UInt8}{k n:Nat}{r:List UInt8}(h:rd (l.drop k)=some (n,r)):l.drop (l.length - r.length)=r∧r.length≤l.length:=by
 have h1:=(rd_back h).1
 have hl:r.length≤l.length:=by
  have:=rd_len h
  rw[List.length_drop] at this
  omega
 refine⟨?_,hl⟩
 have e:l=(l.take k++num n)++r:=by rw[List.append_assoc,← h1,List.take_append_drop]
 have e2:l.length - r.length=(l.take k++num n).length:=by
  have:=congrArg List.length e
  rw[List.length_append] at this
  omega
 rw[e2]
 generalize l.take k++num n=p at e
 rw[e]
 exact List.drop_left
def Left (l r:List UInt8):Prop:=l.drop (l.length - r.length)=r∧r.length≤l.length
theorem Left.rd {l r r2:List UInt8}{n:Nat}(h:Left l r)(h2:Fr.rd r=some (n,r2)):Left l r2:=by
 rw[← h.1] at h2
 exact rd_left h2
theorem Left.of_drop (l:List UInt8)(k:Nat):Left l (l.drop k):=by
 refine⟨?_,by rw[List.length_drop];omega⟩
 rw[List.length_drop]
 by_cases h:k≤l.length
 ·rw[show l.length - (l.length - k)=k by omega]
 ·rw[show l.length - (l.length - k)=l.length by omega,List.drop_eq_nil_of_le (by omega),List.drop_eq_nil_of_le (by omega)]
end Go.Proofs.YtfldcmdhneegmaaGreatDoor.Fr
namespace Go.Proofs.YtfldcmdhneegmaaGreatDoor
open Go.RowKit Go.Lib
def REnd {α:Type}(o:Option (α × List UInt8))(val:α→Value)(L:Nat)(v:Value)(b:Nat)(w:World)(e:Ending)(w':World):Prop:=
 But b w w' ∧
  match o with
  | some (x,r)=>e=.returned (val x)∧RdAt w' b v (L - r.length)
  | none=>BytesPanic e
theorem BelowEnd.rend {l:List UInt8}{k limit b:Nat}{v:Value}{w w':World}{e:Ending}(h:BelowEnd l k v limit b w e w'):REnd (Fr.rdB limit (l.drop k)) (fun n=>.int .i64 n) l.length v b w e w':=by
 obtain⟨h1,h2⟩:=h
 refine⟨h1,?_⟩
 unfold Fr.rdB
 cases hx:Fr.rd (l.drop k) with
 | none=>rw[hx] at h2;exact h2
 | some x=>
  obtain⟨n,r⟩:=x
  rw[hx] at h2
  simp only[] at h2 ⊢
  by_cases hlt:n < limit
  ·rw[if_pos hlt] at h2 ⊢;exact h2
  ·rw[if_neg hlt] at h2 ⊢;exact h2
theorem PMomEnd.rend {l:List UInt8}{k b:Nat}{v:Value}{w w':World}{e:Ending}(h:PMomEnd l k v b w e w'):REnd (Fr.rdM (l.drop k)) (fun t=>.int .i64 t) l.length v b w e w':=by
 obtain⟨h1,h2⟩:=h
 refine⟨h1,?_⟩
 unfold Fr.rdM
 cases hx:Fr.rd (l.drop k) with
 | none=>rw[hx] at h2;exact h2
 | some x=>rw[hx] at h2;exact h2
theorem RunOffEnd.rend {l:List UInt8}{k nx b:Nat}{evs:List En.Ev}{v:Value}{w w':World}{e:Ending}(h:RunOffEnd l k v nx evs b w e w'):REnd (α:=Nat) ((Fr.rdB nx (l.drop k)).filter fun x=>!(evs.any fun y=>y.off == ((x.1:Nat):Int))) (fun n=>.int .i64 n) l.length v b w e w':=by
 obtain⟨h1,h2⟩:=h
 refine⟨h1,?_⟩
 unfold Fr.rdB
 cases hx:Fr.rd (l.drop k) with
 | none=>rw[hx] at h2;exact h2
 | some x=>
  obtain⟨n,r⟩:=x
  rw[hx] at h2
  simp only[] at h2 ⊢
  by_cases hlt:n < nx
  ·rw[if_pos hlt]
   cases ha:evs.any fun y=>y.off == (n:Int)
   ·rw[if_pos ⟨hlt,ha⟩] at h2
    simp only[Option.filter,ha]
    exact h2
   ·rw[if_neg (by rw[ha];simp)] at h2
    simp only[Option.filter,ha]
    exact h2
  ·rw[if_neg (fun h=>hlt h.1)] at h2
   rw[if_neg hlt]
   exact h2
theorem fBelow_left (F:Nat→Prop)(v:Value)(l r:List UInt8)(b limit:Nat)(s:ByteArray)(w:World)(hr:RdAt w b v (l.length - r.length))(hv:BytesAt F w v l)(hF:¬ F b)(hle:Fr.Left l r)(hl:l.length≤1000000)(hlim:limit < 9223372036854775808) :
  Calls Tryz.prog 116 #[.pointer (some ⟨b,0,none⟩),.int .i64 limit,.string s] w (REnd (Fr.rdB limit r) (fun n=>.int .i64 n) l.length v b w):=by
 have:=fBelow_any F v l b (l.length - r.length) limit s w hr hv hF (by omega) hl hlim
 refine this.mono fun e w' h=>?_
 have h':=h.rend
 rw[hle.1] at h'
 exact h'
theorem fMoment_left (F:Nat→Prop)(v:Value)(l r:List UInt8)(b:Nat)(w:World)(hr:RdAt w b v (l.length - r.length))(hv:BytesAt F w v l)(hF:¬ F b)(hle:Fr.Left l r)(hl:l.length≤1000000) :
  Calls Tryz.prog 115 #[.pointer (some ⟨b,0,none⟩)] w (REnd (Fr.rdM r) (fun t=>.int .i64 t) l.length v b w):=by
 have:=fMoment_any F v l b (l.length - r.length) w hr hv hF (by omega) hl
 refine this.mono fun e w' h=>?_
 have h':=h.rend
 rw[hle.1] at h'
 exact h'
theorem readOffset_left (F:Nat→Prop)(v:Value)(l r:List UInt8)(b eb nx:Nat)(w:World)(hr:RdAt w b v (l.length - r.length))(hv:BytesAt F w v l)(hF:¬ F b)(hle:Fr.Left l r)(hl:l.length≤1000000)(hn:w.cell? ⟨eb,3,none⟩=some (.int .i64 nx))(hlim:nx < 9223372036854775808) :
  Calls Tryz.prog 229 #[.pointer (some ⟨eb,0,none⟩),.pointer (some ⟨b,0,none⟩)] w (REnd (Fr.rdB nx r) (fun n=>.int .i64 n) l.length v b w):=by
 have:=readOffset_any F v l b (l.length - r.length) eb nx w hr hv hF (by omega) hl hn hlim
 refine this.mono fun e w' h=>?_
 have h':=h.rend
 rw[hle.1] at h'
 exact h'
end Go.Proofs.YtfldcmdhneegmaaGreatDoor
namespace Go.Proofs.YtfldcmdhneegmaaGreatDoor.Fr
def rdEv (steps:List (Int × Bool))(nx:Nat)(wm:Int)(l:List UInt8):Option (En.Ev × List UInt8):=
 match rdB nx l with
 | none=>none
 | some (n,r1)=>
  match rdB 1114112 r1 with
  | none=>none
  | some (c,r2)=>
   if (steps.any fun x=>x.1 == (c:Int))=true then
    match rdM r2 with
    | none=>none
    | some (t,r3)=>if wm < t then some (⟨n,c,t⟩,r3) else none
   else none
end Go.Proofs.YtfldcmdhneegmaaGreatDoor.Fr
namespace Go.Proofs.YtfldcmdhneegmaaGreatDoor
open Go.RowKit Go.Lib
structure LdCtx (F S:Nat→Prop)(v vs:Value)(l:List UInt8)(steps:List (Int × Bool))(b eb g0 g nx:Nat)(win wm:Int)(w W:World)(r:List UInt8)(x y z:Value):Prop where
 rd:RdAt W b v (l.length - r.length)
 le:Fr.Left l r
 bytes:BytesAt F W v l
 c0:W.cell? ⟨eb,0,none⟩=some vs
 c1:W.cell? ⟨eb,1,none⟩=some (.int .i64 win)
 c2:W.cell? ⟨eb,2,none⟩=some (.int .i64 wm)
 c3:W.cell? ⟨eb,3,none⟩=some (.int .i64 nx)
 st:StepsAt S W vs steps
 ev:W.heap[g]?=some (.cells #[x,y,z] 194 (0,0))
 res:W.heap[g0]?=some (.cells #[.int .i64 0,.int .i32 0,.int .i64 0] 194 (0,0))
 but:But b w W
theorem LdCtx.on {F S:Nat→Prop}{v vs:Value}{l:List UInt8}{steps:List (Int × Bool)}{b eb g0 g nx:Nat}{win wm:Int}{w W W':World}{r r':List UInt8}{x y z:Value}(h:LdCtx F S v vs l steps b eb g0 g nx win wm w W r x y z)(hF:¬ F b)(hS:¬ S b)(he:eb≠b)(hg:g≠b)(hg0:g0≠b)(hb:But b W W')(hr:RdAt W' b v (l.length - r'.length))(hl:Fr.Left l r'):LdCtx F S v vs l steps b eb g0 g nx win wm w W' r' x y z:=by
 have hlt:eb < W.heap.size:=World.block_lt_of_cell? W ⟨eb,0,none⟩ h.c0
 exact⟨hr,hl,h.bytes.but hb hF,(cell_but hb ⟨eb,0,none⟩ hlt he).trans h.c0,(cell_but hb ⟨eb,1,none⟩ hlt he).trans h.c1,(cell_but hb ⟨eb,2,none⟩ hlt he).trans h.c2,(cell_but hb ⟨eb,3,none⟩ hlt he).trans h.c3,RowAt.but h.st hb hS,(hb.block _ (lt_of_block h.ev) (by simpa using hg)).trans h.ev,(hb.block _ (lt_of_block h.res) (by simpa using hg0)).trans h.res,h.but.trans hb⟩
theorem blk_set3 {w:World}{b:Nat}{x y z:Value}{t:TypeId}(h:w.heap[b]?=some (.cells #[x,y,z] t (0,0)))(u:Value) :
  (w.setCell ⟨b,0,none⟩ u).heap[b]?=some (.cells #[u,y,z] t (0,0))∧(w.setCell ⟨b,1,none⟩ u).heap[b]?=some (.cells #[x,u,z] t (0,0))∧(w.setCell ⟨b,2,none⟩ u).heap[b]?=some (.cells #[x,y,u] t (0,0)):=by
 have hlt:=lt_of_block h
 have h':w.heap[b]=.cells #[x,y,z] t (0,0):=by simpa [Array.getElem?_eq_getElem hlt] using h
 refine⟨?_,?_,?_⟩
 all_goals
  show (w.heap.modify b _)[b]?=_
  rw[Array.getElem?_eq_getElem (by simpa using hlt),Array.getElem_modify_self,h']
  rfl
theorem LdCtx.put {F S:Nat→Prop}{v vs:Value}{l:List UInt8}{steps:List (Int × Bool)}{b eb g0 g nx:Nat}{win wm:Int}{w W:World}{r:List UInt8}{x y z x' y' z':Value}(h:LdCtx F S v vs l steps b eb g0 g nx win wm w W r x y z)(hF:¬ F g)(hS:¬ S g)(he:eb≠g)(hg:g≠b)(hg0:g0≠g)(hw:w.heap.size≤g)(i:Nat)(u:Value)(hev:(W.setCell ⟨g,i,none⟩ u).heap[g]?=some (.cells #[x',y',z'] 194 (0,0))):LdCtx F S v vs l steps b eb g0 g nx win wm w (W.setCell ⟨g,i,none⟩ u) r x' y' z':=by
 have hlt:eb < W.heap.size:=World.block_lt_of_cell? W ⟨eb,0,none⟩ h.c0
 have hb:=but_set W g i u
 exact⟨(hb.block _ (lt_of_block h.rd) (by simpa using hg.symm)).trans h.rd,h.le,h.bytes.but hb hF,(cell_but hb ⟨eb,0,none⟩ hlt he).trans h.c0,(cell_but hb ⟨eb,1,none⟩ hlt he).trans h.c1,(cell_but hb ⟨eb,2,none⟩ hlt he).trans h.c2,(cell_but hb ⟨eb,3,none⟩ hlt he).trans h.c3,RowAt.but h.st hb hS,hev,(hb.block _ (lt_of_block h.res) (by simpa using hg0)).trans h.res,
  ⟨hb.os.trans h.but.os,hb.tape.trans h.but.tape,hb.output.trans h.but.output,Nat.le_trans h.but.size hb.size,fun k hk hne=>(hb.block k (Nat.lt_of_lt_of_le hk h.but.size) (by simp;omega)).trans (h.but.block k hk hne)⟩⟩
theorem res_three {W:World}{b:Nat}{x y z:Value}{t:TypeId}(h:W.heap[b]?=some (.cells #[x,y,z] t (0,0))):W.cell? ⟨b,0,none⟩=some x∧W.cell? ⟨b,1,none⟩=some y∧W.cell? ⟨b,2,none⟩=some z∧W.frozen? ⟨b,0,none⟩=false∧W.frozen? ⟨b,1,none⟩=false∧W.frozen? ⟨b,2,none⟩=false:=by
 simp[World.cell?,World.frozen?,h]
theorem LdCtx.bel {F S:Nat→Prop}{v vs:Value}{l:List UInt8}{steps:List (Int × Bool)}{b eb g0 g nx:Nat}{win wm:Int}{w W W':World}{r:List UInt8}{x y z:Value}(h:LdCtx F S v vs l steps b eb g0 g nx win wm w W r x y z)(hF:¬ F b)(hS:¬ S b)(he:eb≠b)(hg:g≠b)(hg0:g0≠b)(hb:Below W.heap.size W W'):LdCtx F S v vs l steps b eb g0 g nx win wm w W' r x y z:=
 h.on hF hS he hg hg0 (But.ofBelow hb) ((hb.block _ (lt_of_block h.rd)).trans h.rd) h.le
theorem ended_hereF {G:Prop}{P:Program}{md:Region.Mode}{ops:Array Oper}{Q:Exit→Act→World→Prop}{S:World→Prop}{K:Act→World→Prop}{fuel:Nat}{listed:Array Bool}(_:Shut (∀a w,S w→(S w→wpAnyH P md ops Q S fuel listed a w)→K a w))(a:Act)(w:World)(g:G)(_:False→K a w):G:=g
theorem RdAt.below {w w':World}{b k:Nat}{v:Value}(h:RdAt w b v k)(hb:Below w.heap.size w w'):RdAt w' b v k:=(hb.block _ (lt_of_block h)).trans h
theorem But.drew1 {b:Nat}{w w':World}(h:But b w w'):But b w w'.drew:=⟨h.os,h.tape,h.output,h.size,h.block⟩
theorem Fr.rdM_some {l:List UInt8}{t:Int}{r:List UInt8}(h:Fr.rdM l=some (t,r)):∃n,Fr.rd l=some (n,r)∧t=Fr.zag n:=by
 unfold Fr.rdM at h
 cases hx:Fr.rd l with
 | none=>rw[hx] at h;cases h
 | some x=>
  rw[hx] at h
  simp only[Option.map_some,Option.some.injEq,Prod.mk.injEq] at h
  obtain⟨h1,rfl⟩:=h
  exact⟨x.1,rfl,h1.symm⟩
theorem But.setNew {b:Nat}{w W:World}(h:But b w W){g:Nat}(i:Nat)(u:Value)(hg:w.heap.size≤g):But b w (W.setCell ⟨g,i,none⟩ u):=by
 have hb:=but_set W g i u
 exact⟨hb.os.trans h.os,hb.tape.trans h.tape,hb.output.trans h.output,Nat.le_trans h.size hb.size,fun k hk hne=>(hb.block k (Nat.lt_of_lt_of_le hk h.size) (by simp;omega)).trans (h.block k hk hne)⟩
theorem RdAt.setNe {W:World}{b k:Nat}{v:Value}(h:RdAt W b v k){g:Nat}(i:Nat)(u:Value)(hg:g≠b):RdAt (W.setCell ⟨g,i,none⟩ u) b v k:=
 ((but_set W g i u).block _ (lt_of_block h) (by simpa using hg.symm)).trans h
theorem readEvent_any (F S:Nat→Prop)(v vs:Value)(l r:List UInt8)(steps:List (Int × Bool))(b eb nx:Nat)(win wm:Int)(w:World)(hr:RdAt w b v (l.length - r.length))(hle:Fr.Left l r)(hv:BytesAt F w v l)(hF:¬ F b)(hS:¬ S b)(heb:eb≠b)(hF2:∀c,F c→c < w.heap.size)(hS2:∀c,S c→c < w.heap.size)(hl:l.length≤1000000)(hlim:nx < 9223372036854775808)
  (h0:w.cell? ⟨eb,0,none⟩=some vs) (h1:w.cell? ⟨eb,1,none⟩=some (.int .i64 win)) (h2:w.cell? ⟨eb,2,none⟩=some (.int .i64 wm)) (h3:w.cell? ⟨eb,3,none⟩=some (.int .i64 nx)) (hst:StepsAt S w vs steps) (hsl:steps.length≤1000) :
  Calls Tryz.prog 186 #[.pointer (some ⟨eb,0,none⟩),.pointer (some ⟨b,0,none⟩)] w (REnd (Fr.rdEv steps nx wm r) (fun x=>.agg #[.int .i64 x.off,.int .i32 x.kind,.int .i64 x.time]) l.length v b w):=by
 have hltE:eb < w.heap.size:=World.block_lt_of_cell? w ⟨eb,0,none⟩ h0
 have hltB:b < w.heap.size:=lt_of_block hr
 have HF:Hid (¬ F (w.heap.size+1)):=fun h=>absurd (hF2 _ h) (by omega)
 have HS:Hid (¬ S (w.heap.size+1)):=fun h=>absurd (hS2 _ h) (by omega)
 have K0:Hid (LdCtx F S v vs l steps b eb w.heap.size (w.heap.size+1) nx win wm w ((w.alloc (.cells #[.int .i64 0,.int .i32 0,.int .i64 0] 194)).alloc (.cells #[.int .i64 0,.int .i32 0,.int .i64 0] 194)) r (.int .i64 0) (.int .i32 0) (.int .i64 0)):=by
  have hb:Below w.heap.size w ((w.alloc (.cells #[.int .i64 0,.int .i32 0,.int .i64 0] 194)).alloc (.cells #[.int .i64 0,.int .i32 0,.int .i64 0] 194)):=((Below.refl _ _).alloc (Nat.le_refl _) _).alloc (by simp) _
  have hn1:=heap_alloc_new (w.alloc (.cells #[.int .i64 0,.int .i32 0,.int .i64 0] 194)) (.cells #[.int .i64 0,.int .i32 0,.int .i64 0] 194)
  have hs1:(w.alloc (.cells #[.int .i64 0,.int .i32 0,.int .i64 0] 194)).heap.size=w.heap.size+1:=by simp
  rw[hs1] at hn1
  have hb1:Below (w.heap.size+1) (w.alloc (.cells #[.int .i64 0,.int .i32 0,.int .i64 0] 194)) ((w.alloc (.cells #[.int .i64 0,.int .i32 0,.int .i64 0] 194)).alloc (.cells #[.int .i64 0,.int .i32 0,.int .i64 0] 194)):=(Below.refl _ _).alloc (by simp) _
  exact⟨(hb.block _ hltB).trans hr,hle,hv.below hb,(cell_bel hb ⟨eb,0,none⟩ hltE).trans h0,(cell_bel hb ⟨eb,1,none⟩ hltE).trans h1,(cell_bel hb ⟨eb,2,none⟩ hltE).trans h2,(cell_bel hb ⟨eb,3,none⟩ hltE).trans h3,hst.below hb,hn1,(hb1.block _ (by omega)).trans (heap_alloc_new w _),But.ofBelow hb⟩
 have HD:=hid (And.intro hF (And.intro hS (And.intro heb (And.intro hl (And.intro hlim hsl)))))
 obtain⟨ao,cap,rfl,-,-⟩:=RowAt.slice hst
 clear hr hle hv hF hS hF2 hS2 hl hst hsl h0 h1 h2 h3
 go_enter Tryz.func186,Tryz.ntmps186
 go_wp2_with (go_at_call 229;fail)
 refine (readOffset_left F v l r b eb nx _ K0.out.rd K0.out.bytes HD.out.1 K0.out.le HD.out.2.2.2.1 K0.out.c3 HD.out.2.2.2.2.1).mono ?_
 rintro e w1 ⟨hb,he⟩
 cases x1:Fr.rdB nx r with
 | none=>
  rw[x1] at he
  obtain⟨n1,s1,rfl⟩:=he
  have HE:Hid (Fr.rdEv steps nx wm r=none):=by show _=_;unfold Fr.rdEv;rw[x1]
  have HB:=hid (K0.out.but.trans hb)
  clear hb x1
  go_wp2
  refine⟨rfl,HB.out,?_⟩
  rw[HE.out]
  exact⟨_,_,rfl⟩
 | some p1=>
  obtain⟨n,r1⟩:=p1
  rw[x1] at he
  obtain⟨rfl,hr2⟩:=he
  have y1:=Fr.rdB_some x1
  have hn':(n:Int) < 9223372036854775808:=by omega
  have X1:=hid (And.intro x1 y1)
  have K1:=hid (K0.out.on HD.out.1 HD.out.2.1 HD.out.2.2.1 (by omega) (by omega) hb hr2 (K0.out.le.rd X1.out.2.1))
  obtain⟨d0,d1,d2,f0,f1,f2⟩:=res_three K1.out.ev
  clear hb hr2 x1 y1
  have K2:=hid (K1.out.put (u:=.int .i64 n) (i:=0) HF.out HS.out (by omega) (by omega) (by omega) (by omega) (blk_set3 K1.out.ev _).1)
  go_wp2_with (go_at_call 116;fail)
  refine (fBelow_left F v l r1 b 1114112 _ _ K2.out.rd K2.out.bytes HD.out.1 K2.out.le HD.out.2.2.2.1 (by omega)).mono ?_
  rintro e w2 ⟨hb,he⟩
  cases x2:Fr.rdB 1114112 r1 with
  | none=>
   rw[x2] at he
   obtain⟨n1,s1,rfl⟩:=he
   have HE:Hid (Fr.rdEv steps nx wm r=none):=by show _=_;unfold Fr.rdEv;rw[X1.out.1];simp only[];rw[x2]
   have HB:=hid (K2.out.but.trans hb)
   clear hb x2
   go_wp2
   refine⟨rfl,HB.out,?_⟩
   rw[HE.out]
   exact⟨_,_,rfl⟩
  | some p2=>
   obtain⟨c,r2⟩:=p2
   rw[x2] at he
   obtain⟨rfl,hr2⟩:=he
   have y2:=Fr.rdB_some x2
   have hc':(c:Int) < 1114112:=by omega
   have X2:=hid (And.intro x2 y2)
   have K3:=hid (K2.out.on HD.out.1 HD.out.2.1 HD.out.2.2.1 (by omega) (by omega) hb hr2 (K2.out.le.rd X2.out.2.1))
   obtain⟨g0,g1,g2,e0,e1,e2⟩:=res_three K3.out.ev
   clear hb hr2 x2 y2
   have HH:Hid (∀W,StepsAt S W (.slice ao steps.length cap) steps→Calls Tryz.prog 100 #[.agg #[.slice ao steps.length cap,.int .i64 win],.int .i32 c] W fun e w'=>e=.returned (.bool (steps.any fun x=>x.1 == (c:Int)))∧Below W.heap.size W w'):=fun W h=>pHas_any S _ steps win c W h HD.out.2.2.2.2.2
   go_wp2
   have K4:=hid (K3.out.put (u:=.int .i32 c) (i:=1) HF.out HS.out (by omega) (by omega) (by omega) (by omega) (blk_set3 K3.out.ev _).2.1)
   obtain⟨k0,k1,k2,m0,m1,m2⟩:=res_three K4.out.ev
   have q0:=K4.out.c0
   have q1:=K4.out.c1
   generalize w2.setCell ⟨w.heap.size+1,1,none⟩ (.int .i32 c)=W4 at *
   clear K0 K1 K2 K3 d0 d1 d2 f0 f1 f2 g0 g1 g2 e0 e1 e2
   cases x3:steps.any fun x=>x.1 == (c:Int)
   ·have HE:Hid (Fr.rdEv steps nx wm r=none):=by show _=_;unfold Fr.rdEv;rw[X1.out.1];simp only[];rw[X2.out.1];simp only[];rw[x3];rfl
    rw[x3] at HH
    clear x3
    go_region_held2 (fun W=>W.cell? ⟨eb,0,none⟩=some (.slice ao steps.length cap)∧W.cell? ⟨eb,1,none⟩=some (.int .i64 win)∧W.cell? ⟨w.heap.size+1,1,none⟩=some (.int .i32 c)) (go_keep) (first
     | (go_at_call 100;refine (HH.out _ (StepsAt.below K4.out.st (by exact Below.drew (Below.refl _ _)))).mono ?_;rintro e w3 ⟨rfl,hb⟩;have K5:=hid (K4.out.bel HD.out.1 HD.out.2.1 HD.out.2.2.1 (by omega) (by omega) (by exact (Below.drew (Below.refl _ _)).trans hb));clear hb;obtain⟨i0,i1,i2,j0,j1,j2⟩:=res_three K5.out.ev;have t0:=K5.out.c0;have t1:=K5.out.c1;have rc1:=K5.out.rd.c1)
     | (go_at_call_of 113 (Value.bool false);refine (fNeed_false b _ _ _ rc1).mono ?_;rintro e w4 ⟨rfl,hw⟩;have hw':=hw.symm;subst hw';refine ended_hereF (by assumption) ⟨#[],[]⟩ w3 (by show _∧_;exact⟨rfl,K5.out.but,by rw[HE.out];exact⟨_,_,rfl⟩⟩) (fun hfls=>?_)))
    exact hfls.elim
   ·have X3:=hid x3
    rw[x3] at HH
    clear x3
    go_region_held2 (fun W=>W.cell? ⟨eb,0,none⟩=some (.slice ao steps.length cap)∧W.cell? ⟨eb,1,none⟩=some (.int .i64 win)∧W.cell? ⟨w.heap.size+1,1,none⟩=some (.int .i32 c)) (go_keep) (first
     | (go_at_call 100;refine (HH.out _ (StepsAt.below K4.out.st (by exact Below.drew (Below.refl _ _)))).mono ?_;rintro e w3 ⟨rfl,hb⟩;have K5:=hid (K4.out.bel HD.out.1 HD.out.2.1 HD.out.2.2.1 (by omega) (by omega) (by exact (Below.drew (Below.refl _ _)).trans hb));clear hb;obtain⟨i0,i1,i2,j0,j1,j2⟩:=res_three K5.out.ev;have c2w:=K5.out.c2;have t0:=K5.out.c0;have t1:=K5.out.c1;have rc1:=K5.out.rd.c1)
     | (go_at_call_of 113 (Value.bool true);refine (fNeed_true b _ _).mono ?_;rintro e w4 ⟨rfl,hw⟩;have hw':=hw.symm;subst hw'))
    clear k0 k1 k2 m0 m1 m2 q0 q1
    go_wp2_with (go_at_call 115;fail)
    refine (fMoment_left F v l r2 b _ K5.out.rd K5.out.bytes HD.out.1 K5.out.le HD.out.2.2.2.1).mono ?_
    rintro e w5 ⟨hb,he⟩
    cases x4:Fr.rdM r2 with
    | none=>
     rw[x4] at he
     obtain⟨n1,s1,rfl⟩:=he
     have HE:Hid (Fr.rdEv steps nx wm r=none):=by show _=_;unfold Fr.rdEv;rw[X1.out.1];simp only[];rw[X2.out.1];simp only[];rw[X3.out,if_pos rfl,x4]
     have HB:=hid (K5.out.but.trans hb)
     clear hb x4
     go_wp2
     refine⟨rfl,HB.out,?_⟩
     rw[HE.out]
     exact⟨_,_,rfl⟩
    | some p4=>
     obtain⟨t,r3⟩:=p4
     rw[x4] at he
     obtain⟨rfl,hr2⟩:=he
     obtain⟨m,hm1,hm2⟩:=Fr.rdM_some x4
     have HE:Hid (Fr.rdEv steps nx wm r=if wm < t then some (⟨n,c,t⟩,r3) else none):=by show _=_;unfold Fr.rdEv;rw[X1.out.1];simp only[];rw[X2.out.1];simp only[];rw[X3.out,if_pos rfl,x4]
     have K6:=hid (K5.out.on HD.out.1 HD.out.2.1 HD.out.2.2.1 (by omega) (by omega) hb hr2 (K5.out.le.rd hm1))
     clear hb hr2 x4 hm1 hm2
     clear i0 i1 i2 j0 j1 j2 c2w t0 t1 rc1
     obtain⟨u0,u1,u2,v0,v1,v2⟩:=res_three K6.out.ev
     go_wp2
     have K7:=hid (K6.out.put (u:=.int .i64 t) (i:=2) HF.out HS.out (by omega) (by omega) (by omega) (by omega) (blk_set3 K6.out.ev _).2.2)
     generalize w5.setCell ⟨w.heap.size+1,2,none⟩ (.int .i64 t)=W7 at *
     clear u0 u1 u2 v0 v1 v2
     obtain⟨k0,k1,k2,m0,m1,m2⟩:=res_three K7.out.ev
     obtain⟨o0,o1,o2,n0,n1,n2⟩:=res_three K7.out.res
     have q2:=K7.out.c2
     have rc1:=K7.out.rd.c1
     by_cases ht:wm < t
     ·have HT:=hid ht
      go_region_held2 (fun W=>W.cell? ⟨eb,2,none⟩=some (.int .i64 wm)∧W.cell? ⟨w.heap.size+1,2,none⟩=some (.int .i64 t)) (go_keep) ((go_at_call_of 113 (Value.bool true);refine (fNeed_true b _ _).mono ?_;rintro e w6 ⟨rfl,hw⟩;have hw':=hw.symm;subst hw'))
      clear HH X1 X2 X3 ht hc' hn'
      clear K4 K5 K6
      go_wp2
      have B3:=(blk_set3 (blk_set3 (blk_set3 K7.out.res (.int .i64 n)).1 (.int .i32 c)).2.1 (.int .i64 t)).2.2
      obtain⟨t0,t1,t2,-,-,-⟩:=res_three B3
      refine bodyPost_ret (v:=.agg #[.int .i64 n,.int .i32 c,.int .i64 t]) (by simp[results,Tryz.results186,go_sem,t0,t1,t2]) rfl ?_
      refine⟨(((K7.out.but.setNew 0 _ (Nat.le_refl _)).setNew 1 _ (Nat.le_refl _)).setNew 2 _ (Nat.le_refl _)).drew1,?_⟩
      rw[HE.out,if_pos HT.out]
      exact⟨rfl,((K7.out.rd.setNe 0 _ (by omega)).setNe 1 _ (by omega)).setNe 2 _ (by omega)⟩
     ·have ht':decide (t > wm)=false:=decide_eq_false ht
      have HT:=hid ht
      clear ht
      go_region_held2 (fun W=>W.cell? ⟨eb,2,none⟩=some (.int .i64 wm)∧W.cell? ⟨w.heap.size+1,2,none⟩=some (.int .i64 t)) (go_keep) ((go_at_call_of 113 (Value.bool false);refine (fNeed_false b _ _ _ (by exact rc1)).mono ?_;rintro e w6 ⟨rfl,hw⟩;have hw':=hw.symm;subst hw';refine ended_hereF (by assumption) ⟨#[],[]⟩ W7.drew (by show _∧_;exact⟨rfl,K7.out.but.drew1,by rw[HE.out,if_neg HT.out];exact⟨_,_,rfl⟩⟩) (fun hfls=>?_)))
      exact hfls.elim
end Go.Proofs.YtfldcmdhneegmaaGreatDoor

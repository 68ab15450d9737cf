import Derived.Lib.IsU
import Derived.Lib.RuneBytes
import Derived.Lib.DecodeN
import Derived.Test.YtfldcmdhneegmaaGreatDoorX00
import Derived.BigQuiet
import Derived.Deep.QuietTactic
import Derived.RegionTactic
import Derived.BigRegion
import Derived.BigCall
set_option maxHeartbeats 4000000
set_option maxRecDepth 1000000
namespace Go.Proofs.YtfldcmdhneegmaaGreatDoor
namespace Pl
open Go.Lib
structure St where
 pl:Int
 l:List (Int × Bool)
 win:Int
def St.init:St:={ pl:=0,l:=[],win:=0 }
def plusLast:List (Int × Bool)→List (Int × Bool)
 | []=>[]
 | [x]=>[(x.1,true)]
 | x::y::r=>x::plusLast (y::r)
def addPlus (s:St):Option St:=if s.pl=1 then some { s with pl:=2,l:=plusLast s.l } else none
def addStep (s:St)(c:Int):Option St:=if s.pl=0∧s.l.length≠4 then some { s with pl:=1,l:=s.l++[(c,false)] } else none
def addDigit (s:St)(d:Int):Option St:=
 if s.pl=5 then none else if s.pl=4∧s.win=0 then none else if s.win * 10+d≤9999 then some { s with pl:=4,win:=s.win * 10+d } else none
def takeSteps (s:St)(c:Int):Option St:=
 if c=32 then some { s with pl:=0 }
 else if c=43 then addPlus s
 else if c=47 then (if 0 < s.l.length then some { s with pl:=3 } else none)
 else if isLetterU c then addStep s c else none
def takeWindow (s:St)(c:Int):Option St:=
 if c=32 then some (if s.pl=4 then { s with pl:=5 } else s)
 else if 48≤c∧c≤57 then addDigit s (c - 48) else none
def take (s:St)(c:Int):Option St:=if s.pl=0∨s.pl=1∨s.pl=2 then takeSteps s c else takeWindow s c
def Valid (c:Int):Prop:=(0≤c∧c < 55296)∨(57343 < c∧c≤1114111)
theorem decodeN_valid (n b0 b1 b2 b3:Nat)(h0:b0 < 256):Valid (decodeN n b0 b1 b2 b3).1:=by
 unfold decodeN Valid
 repeat' split
 all_goals (simp only[];omega)
theorem decode_valid (s:ByteArray)(i:Nat):Valid (Utf8.decode s i).1:=by
 rw[decode_at]
 exact decodeN_valid _ _ _ _ _ (UInt8.toNat_lt _)
structure Ok (s:St):Prop where
 p0:0≤s.pl
 p5:s.pl≤5
 l4:s.l.length≤4
 w0:0≤s.win
 w9:s.win≤9999
 one:1≤s.pl→s.l≠[]
 ltr:∀x∈s.l,isLetterU x.1=true∧Valid x.1
theorem plusLast_length (l:List (Int × Bool)):(plusLast l).length=l.length:=by
 induction l with
 | nil=>rfl
 | cons x r ih=>
  cases r with
  | nil=>rfl
  | cons y r=>simpa [plusLast] using ih
theorem plusLast_ne {l:List (Int × Bool)}(h:l≠[]):plusLast l≠[]:=by
 intro e
 have:=plusLast_length l
 rw[e] at this
 exact h (List.length_eq_zero_iff.1 this.symm)
theorem plusLast_fst (l:List (Int × Bool)):(plusLast l).map (·.1)=l.map (·.1):=by
 induction l with
 | nil=>rfl
 | cons x r ih=>
  cases r with
  | nil=>rfl
  | cons y r=>simpa [plusLast] using ih
theorem all_plus {l:List (Int × Bool)}(h:∀x∈l,isLetterU x.1=true∧Valid x.1):∀x∈plusLast l,isLetterU x.1=true∧Valid x.1:=by
 intro x hx
 have h1:x.1∈(plusLast l).map (·.1):=List.mem_map_of_mem hx
 rw[plusLast_fst] at h1
 obtain⟨y,hy,e⟩:=List.mem_map.1 h1
 rw[← e]
 exact h y hy
theorem ok_init:Ok St.init:=⟨by decide,by decide,by decide,by decide,by decide,by decide,by simp[St.init]⟩
theorem ok_take {s s':St}{c:Int}(h:Ok s)(hv:Valid c)(e:take s c=some s'):Ok s':=by
 obtain⟨p0,p5,l4,w0,w9,one,lt⟩:=h
 unfold take takeSteps takeWindow addPlus addStep addDigit at e
 split at e
 ·split at e
  ·cases e;exact⟨by simp,by simp,l4,w0,w9,by simp,lt⟩
  ·split at e
   ·split at e
    ·cases e;exact⟨by simp,by simp,by simpa [plusLast_length] using l4,w0,w9,fun _=>plusLast_ne (one (by omega)),all_plus lt⟩
    ·cases e
   ·split at e
    ·split at e
     ·rename_i hl;cases e;exact⟨by simp,by simp,l4,w0,w9,fun _=>List.length_pos_iff.1 hl,lt⟩
     ·cases e
    ·split at e
     ·rename_i hlet
      split at e
      ·cases e
       refine⟨by simp,by simp,by simp;omega,w0,w9,by simp,?_⟩
       intro x hx
       rcases List.mem_append.1 hx with h1 | h1
       ·exact lt x h1
       ·rw[List.mem_singleton.1 h1];exact⟨hlet,hv⟩
      ·cases e
     ·cases e
 ·split at e
  ·cases e
   split
   ·exact⟨by simp,by simp,l4,w0,w9,fun _=>one (by omega),lt⟩
   ·exact⟨p0,p5,l4,w0,w9,one,lt⟩
  ·split at e
   ·split at e
    ·cases e
    ·split at e
     ·cases e
     ·split at e
      ·cases e;exact⟨by simp,by simp,l4,by simp;omega,by simpa using ‹_›,fun _=>one (by omega),lt⟩
      ·cases e
   ·cases e
def runFrom (s:ByteArray):Nat→Nat→St→Option St
 | 0,_,st=>some st
 | fuel+1,pos,st=>if pos < s.size then (match take st (Utf8.decode s pos).1 with
   | none=>none
   | some st'=>runFrom s fuel (pos+(Utf8.decode s pos).2) st') else some st
def complete (s:St):Bool:=decide (s.pl=4∨s.pl=5)
def parse (s:ByteArray):Option (List (Int × Bool) × Int):=
 match runFrom s s.size 0 St.init with
 | none=>none
 | some st=>if complete st then some (st.l,st.win) else none
theorem ok_run (s:ByteArray)(fuel pos:Nat)(st st':St)(h:Ok st)(e:runFrom s fuel pos st=some st'):Ok st':=by
 induction fuel generalizing pos st with
 | zero=>cases e;exact h
 | succ f ih=>
  unfold runFrom at e
  split at e
  ·generalize hq:take st (Utf8.decode s pos).1=q at e
   cases q with
   | none=>cases e
   | some st1=>exact ih _ _ (ok_take h (decode_valid s pos) hq) e
  ·cases e;exact h
structure Fine (l:List (Int × Bool))(win:Int):Prop where
 ne:l≠[]
 l4:l.length≤4
 w0:0≤win
 w9:win≤9999
 ltr:∀x∈l,isLetterU x.1=true∧Valid x.1
theorem fine_parse {s:ByteArray}{l:List (Int × Bool)}{win:Int}(e:parse s=some (l,win)):Fine l win:=by
 unfold parse at e
 generalize hq:runFrom s s.size 0 St.init=q at e
 cases q with
 | none=>cases e
 | some st=>
  have ho:=ok_run s _ _ _ _ ok_init hq
  simp only at e
  split at e
  ·rename_i hc
   cases e
   unfold complete at hc
   have hc':=of_decide_eq_true hc
   exact⟨ho.one (by omega),ho.l4,ho.w0,ho.w9,ho.ltr⟩
  ·cases e
end Pl
end Go.Proofs.YtfldcmdhneegmaaGreatDoor
namespace Go.Proofs.YtfldcmdhneegmaaGreatDoor
open Go.RowKit Go.Lib
def stepCells (l:List (Int × Bool)):List Value:=l.flatMap fun x=>[.int .i32 x.1,.bool x.2]
structure Rd (b base:Nat)(s:Pl.St)(v:Value)(w:World):Prop where
 blk:w.heap[b]?=some (.cells #[.int .i64 s.pl,v,.int .i64 s.win] 236 (0,0))
 own:w.ownsRow base 225 2 v s.l.length (stepCells s.l)
 lt:b < base
 le:base≤w.heap.size
theorem Rd.c0 {b base:Nat}{s:Pl.St}{v:Value}{w:World}(h:Rd b base s v w):w.cell? ⟨b,0,none⟩=some (.int .i64 s.pl):=by simp[World.cell?,h.blk]
theorem Rd.c1 {b base:Nat}{s:Pl.St}{v:Value}{w:World}(h:Rd b base s v w):w.cell? ⟨b,1,none⟩=some v:=by simp[World.cell?,h.blk]
theorem Rd.c2 {b base:Nat}{s:Pl.St}{v:Value}{w:World}(h:Rd b base s v w):w.cell? ⟨b,2,none⟩=some (.int .i64 s.win):=by simp[World.cell?,h.blk]
theorem Rd.fz {b base:Nat}{s:Pl.St}{v:Value}{w:World}(h:Rd b base s v w)(o:Nat):w.frozen? ⟨b,o,none⟩=false:=by simp[World.frozen?,h.blk]
structure Kept (b:Nat)(w w':World):Prop where
 below:Below b w w'
 others:OthersKept 225 (some b) w w'
theorem Kept.refl (b:Nat)(w:World):Kept b w w:=⟨Below.refl _ _,OthersKept.refl _ _ _⟩
theorem Kept.trans {b:Nat}{a c d:World}(h:Kept b a c)(k:Kept b c d):Kept b a d:=⟨h.below.trans k.below,h.others.trans k.others⟩
theorem Kept.setCell {b:Nat}{a w:World}(h:Kept b a w)(o:Nat)(u:Value):Kept b a (w.setCell ⟨b,o,none⟩ u):=
 ⟨h.below.setCell (Nat.le_refl _) u,h.others.setCell _ rfl u⟩
def After (b base:Nat)(r:Option Pl.St)(w:World)(e:Ending)(w':World):Prop:=
 Kept b w w'∧match r with
  | none=>e=.returned (.bool false)
  | some s=>e=.returned (.bool true)∧∃v,Rd b base s v w'
theorem blk_set {w:World}{b:Nat}{x y z:Value}{t:TypeId}(h:w.heap[b]?=some (.cells #[x,y,z] t (0,0)))(u:Value) :
  (w.setCell ⟨b,0,none⟩ u).heap[b]?=some (.cells #[u,y,z] t (0,0))∧(w.setCell ⟨b,1,none⟩ u).heap[b]?=some (.cells #[x,u,z] t (0,0))∧(w.setCell ⟨b,2,none⟩ u).heap[b]?=some (.cells #[x,y,u] t (0,0)):=by
 have hlt:=lt_of_block h
 have h':w.heap[b]=.cells #[x,y,z] t (0,0):=by simpa [Array.getElem?_eq_getElem hlt] using h
 refine⟨?_,?_,?_⟩
 all_goals
  show (w.heap.modify b _)[b]?=_
  rw[Array.getElem?_eq_getElem (by simpa using hlt),Array.getElem_modify_self,h']
  rfl
theorem Rd.setPl {b base:Nat}{s:Pl.St}{v:Value}{w:World}(h:Rd b base s v w)(p:Int):Rd b base { s with pl:=p } v (w.setCell ⟨b,0,none⟩ (.int .i64 p)):=
 ⟨(blk_set h.blk _).1,ownsRow_setCell_below h.own h.lt _,h.lt,by simpa [World.setCell] using h.le⟩
theorem Rd.setWin {b base:Nat}{s:Pl.St}{v:Value}{w:World}(h:Rd b base s v w)(x:Int):Rd b base { s with win:=x } v (w.setCell ⟨b,2,none⟩ (.int .i64 x)):=
 ⟨(blk_set h.blk _).2.2,ownsRow_setCell_below h.own h.lt _,h.lt,by simpa [World.setCell] using h.le⟩
theorem complete_any (b base:Nat)(s:Pl.St)(v:Value)(w:World)(h:Rd b base s v w) :
  Calls Tryz.prog 130 #[.pointer (some ⟨b,0,none⟩)] w fun e w'=>e=.returned (.bool (Pl.complete s))∧w'=w:=by
 have c0:=h.c0
 unfold Pl.complete
 clear h
 by_cases h4:s.pl=4
 ·rw[h4] at c0
  go_enter Tryz.func130,Tryz.ntmps130
  go_wp2
  go_ret
  exact⟨by simp[h4],rfl⟩
 ·have h4':(s.pl == 4)=false:=by simpa using h4
  by_cases h5:s.pl=5
  ·have h5':(s.pl == 5)=true:=by simpa using h5
   have H5:Hid (s.pl=5):=h5
   clear h5
   go_enter Tryz.func130,Tryz.ntmps130
   go_wp2
   go_ret
   exact⟨by simp[H5.out],rfl⟩
  ·have h5':(s.pl == 5)=false:=by simpa using h5
   go_enter Tryz.func130,Tryz.ntmps130
   go_wp2
   go_ret
   exact⟨by simp[h4,h5],rfl⟩
theorem addDigit_any (b base:Nat)(s:Pl.St)(v:Value)(d:Int)(w:World)(h:Rd b base s v w)(ho:Pl.Ok s)(d0:0≤d)(d9:d≤9) :
  Calls Tryz.prog 246 #[.pointer (some ⟨b,0,none⟩),.int .i64 d] w fun e w'=>After b base (Pl.addDigit s d) w e w':=by
 have c0:=h.c0
 have c2:=h.c2
 have f0:=h.fz 0
 have f2:=h.fz 2
 have hw0:=ho.w0
 have hw9:=ho.w9
 have HR:Hid (Rd b base s v w):=h
 clear h
 obtain⟨pl,l,win⟩:=s
 simp only at c0 c2 hw0 hw9
 by_cases h5:pl=5
 ·have h5':(pl == 5)=true:=by simpa using h5
  have H5:Hid (pl=5):=h5
  clear h5
  go_enter Tryz.func246,Tryz.ntmps246
  go_wp2
  go_ret
  rw[show Pl.addDigit ⟨pl,l,win⟩ d=none by simp[Pl.addDigit,H5.out]]
  exact⟨Kept.refl _ _,rfl⟩
 ·have h5':(pl == 5)=false:=by simpa using h5
  by_cases h4:pl=4∧win=0
  ·obtain⟨ha,hb⟩:=h4
   have ha':(pl == 4)=true:=by simpa using ha
   have hb':(win == 0)=true:=by simpa using hb
   have HA:Hid (pl=4):=ha
   have HB:Hid (win=0):=hb
   clear ha hb
   go_enter Tryz.func246,Tryz.ntmps246
   go_wp2
   go_ret
   rw[show Pl.addDigit ⟨pl,l,win⟩ d=none by simp[Pl.addDigit,HA.out,HB.out]]
   exact⟨Kept.refl _ _,rfl⟩
  ·have R2:Hid (Rd b base { pl:=4,l:=l,win:=win * 10+d } v ((w.setCell ⟨b,0,none⟩ (.int .i64 4)).setCell ⟨b,2,none⟩ (.int .i64 (win * 10+d)))):=(HR.out.setPl 4).setWin _
   have K2:Hid (Kept b w ((w.setCell ⟨b,0,none⟩ (.int .i64 4)).setCell ⟨b,2,none⟩ (.int .i64 (win * 10+d)))):=((Kept.refl b w).setCell 0 _).setCell 2 _
   have H5:Hid (¬ pl=5):=h5
   have H4:Hid (¬ (pl=4∧win=0)):=h4
   clear h5 h4
   by_cases ha:pl=4
   ·have hb:(win == 0)=false:=by have:=H4.out;simp;omega
    have ha':(pl == 4)=true:=by simpa using ha
    have HA:Hid (pl=4):=ha
    clear ha
    by_cases h9:win * 10+d≤9999
    ·go_enter Tryz.func246,Tryz.ntmps246
     go_wp2
     go_ret
     rw[show Pl.addDigit ⟨pl,l,win⟩ d=some { pl:=4,l:=l,win:=win * 10+d } by simp only[Pl.addDigit];rw[if_neg H5.out,if_neg H4.out,if_pos h9]]
     exact⟨K2.out,by simp,v,R2.out⟩
    ·go_enter Tryz.func246,Tryz.ntmps246
     go_wp2
     go_ret
     rw[show Pl.addDigit ⟨pl,l,win⟩ d=none by simp only[Pl.addDigit];rw[if_neg H5.out,if_neg H4.out,if_neg (by omega)]]
     exact⟨K2.out,by simp⟩
   ·have ha':(pl == 4)=false:=by simpa using ha
    have HA:Hid (¬ pl=4):=ha
    clear ha
    by_cases h9:win * 10+d≤9999
    ·go_enter Tryz.func246,Tryz.ntmps246
     go_wp2
     go_ret
     rw[show Pl.addDigit ⟨pl,l,win⟩ d=some { pl:=4,l:=l,win:=win * 10+d } by simp only[Pl.addDigit];rw[if_neg H5.out,if_neg H4.out,if_pos h9]]
     exact⟨K2.out,by simp,v,R2.out⟩
    ·go_enter Tryz.func246,Tryz.ntmps246
     go_wp2
     go_ret
     rw[show Pl.addDigit ⟨pl,l,win⟩ d=none by simp only[Pl.addDigit];rw[if_neg H5.out,if_neg H4.out,if_neg (by omega)]]
     exact⟨K2.out,by simp⟩
theorem takeWindow_any (b base:Nat)(s:Pl.St)(v:Value)(c:Int)(w:World)(h:Rd b base s v w)(ho:Pl.Ok s)(c0:-2147483648≤c)(c9:c≤2147483647) :
  Calls Tryz.prog 198 #[.pointer (some ⟨b,0,none⟩),.int .i32 c] w fun e w'=>After b base (Pl.takeWindow s c) w e w':=by
 by_cases h32:c=32
 ·have hc:=h.c0
  have hf:=h.fz 0
  by_cases h4:s.pl=4
  ·have h4':(s.pl == 4)=true:=by simpa using h4
   have R2:Hid (Rd b base { s with pl:=5 } v (w.setCell ⟨b,0,none⟩ (.int .i64 5))):=h.setPl 5
   have K2:Hid (Kept b w (w.setCell ⟨b,0,none⟩ (.int .i64 5))):=(Kept.refl b w).setCell 0 _
   have H4:Hid (s.pl=4):=h4
   clear h h4
   subst h32
   go_enter Tryz.func198,Tryz.ntmps198
   go_wp2
   go_ret
   rw[show Pl.takeWindow s 32=some { s with pl:=5 } by simp[Pl.takeWindow,H4.out]]
   exact⟨K2.out,rfl,v,R2.out⟩
  ·have h4':(s.pl == 4)=false:=by simpa using h4
   have R2:Hid (Rd b base s v w):=h
   clear h
   subst h32
   go_enter Tryz.func198,Tryz.ntmps198
   go_wp2
   go_ret
   rw[show Pl.takeWindow s 32=some s by simp[Pl.takeWindow,h4]]
   exact⟨Kept.refl _ _,rfl,v,R2.out⟩
 ·have h32':(c == 32)=false:=by simpa using h32
  by_cases hd:48≤c∧c≤57
  ·have hcall:=addDigit_any b base s v (c - 48) w h ho (by omega) (by omega)
   have HC:Hid (Calls Tryz.prog 246 #[.pointer (some ⟨b,0,none⟩),.int .i64 (c - 48)] w fun e w'=>After b base (Pl.addDigit s (c - 48)) w e w'):=hcall
   obtain⟨h48,h57⟩:=hd
   clear h hcall
   rw[show Pl.takeWindow s c=Pl.addDigit s (c - 48) by simp[Pl.takeWindow,h32,h48,h57]]
   generalize Pl.addDigit s (c - 48)=r at HC ⊢
   cases r with
   | none=>
    go_enter Tryz.func198,Tryz.ntmps198
    go_wp2_with (go_at_call 246;refine HC.out.mono ?_;rintro e w' ⟨k,rfl⟩;have K2:Hid (Kept b w w'):=k;clear k)
    go_ret
    exact⟨K2.out,rfl⟩
   | some s'=>
    go_enter Tryz.func198,Tryz.ntmps198
    go_wp2_with (go_at_call 246;refine HC.out.mono ?_;rintro e w' ⟨k,rfl,r'⟩;have K2:Hid (Kept b w w'∧∃v',Rd b base s' v' w'):=⟨k,r'⟩;clear k r')
    go_ret
    exact⟨K2.out.1,rfl,K2.out.2⟩
  ·have hr:Pl.takeWindow s c=none:=by simp only[Pl.takeWindow];rw[if_neg h32,if_neg hd]
   rw[hr]
   clear h hr
   by_cases h48:48≤c
   ·have h57:¬ c≤57:=by omega
    clear hd
    go_enter Tryz.func198,Tryz.ntmps198
    go_wp2
    go_ret
    exact⟨Kept.refl _ _,rfl⟩
   ·clear hd
    go_enter Tryz.func198,Tryz.ntmps198
    go_wp2
    go_ret
    exact⟨Kept.refl _ _,rfl⟩
theorem Tryz.infoStep:(Tryz.prog.info? 225).map (fun i=>(i.zero,i.size,i.bytes))=some (some (.agg #[.int .i32 0,.bool false]),2,8):=by kernel_rfl
theorem rd_grown {b base:Nat}{s:Pl.St}{v v':Value}{c:Int}{w w1:World}{o:Obj}(h:Rd b base s v w)
  (hown:w1.ownsRow base 225 2 v' (s.l.length+1) (stepCells s.l++[.int .i32 c,.bool false])) (hg:(w.alloc o).grownBy w1 v.ownBlock) :
  Rd b base { s with pl:=1,l:=s.l++[(c,false)] } v' ((w1.setCell ⟨b,1,none⟩ v').setCell ⟨b,0,none⟩ (.int .i64 1))∧Kept b w ((w1.setCell ⟨b,1,none⟩ v').setCell ⟨b,0,none⟩ (.int .i64 1))∧w1.cell? ⟨b,1,none⟩=some v∧w1.cell? ⟨b,0,none⟩=some (.int .i64 s.pl)∧(∀k,w1.frozen? ⟨b,k,none⟩=false):=by
 have hbs:b < w.heap.size:=lt_of_block h.blk
 have hne:some b≠v.ownBlock:=fun e=>by have:=(own_block h.own b e.symm).1;have:=h.lt;omega
 have hb1:w1.heap[b]?=some (.cells #[.int .i64 s.pl,v,.int .i64 s.win] 236 (0,0)):=by
  rw[hg.block b (by simp;omega) hne,Below.heap_alloc _ _ _ hbs];exact h.blk
 have hsz:w.heap.size+1≤w1.heap.size:=by have:=hg.size;simpa using this
 refine⟨⟨?_,?_,h.lt,?_⟩,⟨?_,?_⟩,by simp[World.cell?,hb1],by simp[World.cell?,hb1],fun k=>by simp[World.frozen?,hb1]⟩
 ·exact (blk_set (blk_set hb1 v').2.1 _).1
 ·have:=ownsRow_setCell_below (ownsRow_setCell_below hown (a:=⟨b,1,none⟩) h.lt v') (a:=⟨b,0,none⟩) h.lt (.int .i64 1)
  simpa [stepCells] using this
 ·have:=h.le;simp[World.setCell];omega
 ·exact ((((Below.refl b w).alloc (by omega) o).grown hg (by simp;omega) (fun k hk=>by have:=(own_block h.own k hk).1;have:=h.lt;omega)).setCell (Nat.le_refl _) _).setCell (Nat.le_refl _) _
 ·refine ((((OthersKept.refl _ (some b) w).alloc o).grown hg (fun g hg'=>?_)).setCell _ rfl _).setCell _ rfl _
  obtain⟨c',fz,e1⟩:=(own_block h.own g hg').2
  exact⟨c',fz,by rw[Below.heap_alloc _ _ _ (lt_of_block e1)];exact e1⟩
theorem addStep_any (b base:Nat)(s:Pl.St)(v:Value)(c:Int)(w:World)(h:Rd b base s v w)(ho:Pl.Ok s) :
  Calls Tryz.prog 245 #[.pointer (some ⟨b,0,none⟩),.int .i32 c] w fun e w'=>After b base (Pl.addStep s c) w e w':=by
 have c0:=h.c0
 have c1:=h.c1
 have f0:=h.fz 0
 have f1:=h.fz 1
 have h4:=ho.l4
 obtain⟨ao,cap,rfl⟩:=own_slice h.own
 have HR:Hid (Rd b base s (.slice ao s.l.length cap) w):=h
 clear h
 by_cases h0:s.pl=0
 ·by_cases hl:s.l.length=4
  ·have h0':(s.pl == 0)=true:=by simpa using h0
   have h0n:(s.pl != 0)=false:=by simpa using h0
   have hl':((s.l.length:Int) == 4)=true:=by simp;omega
   rw[show Pl.addStep s c=none by simp[Pl.addStep,hl]]
   clear h0 hl
   go_enter Tryz.func245,Tryz.ntmps245
   go_wp2
   go_ret
   exact⟨Kept.refl _ _,rfl⟩
  ·have h0n:(s.pl != 0)=false:=by simpa using h0
   have hl':((s.l.length:Int) == 4)=false:=by simp;omega
   rw[show Pl.addStep s c=some { s with pl:=1,l:=s.l++[(c,false)] } by simp[Pl.addStep,h0,hl]]
   clear h0 hl
   obtain⟨i0,hi,hz0,hz1,hz2⟩:=info_parts Tryz.infoStep
   go_enter Tryz.func245,Tryz.ntmps245
   go_wp2_with (at_builtin;refine wpList_append_own _ rfl _ _ 152 rfl base 225 i0 (.agg #[.int .i32 0,.bool false]) 2 8 Tryz.underlying152 hi hz0 hz1 hz2 rfl (by decide) _ _ _ rfl (HR.out.own.alloc _) ⟨w.heap.size,0,none⟩ 1 1 [.int .i32 c,.bool false] rfl rfl ?c1 ?c2 ?c3 ?c4 ?c5 ?_)
   case c1=>
    intro j u hj
    match j,hj with
    | 0,hj=>simp at hj;subst hj;simp[Addr.add]
    | 1,hj=>simp at hj;subst hj;simp[Addr.add]
   case c2=>intro u hu;simp at hu;rcases hu with rfl | rfl<;>rfl
   case c3=>unfold maxLen;omega
   case c4=>omega
   case c5=>have:=HR.out.le;simp;omega
   intro v' w1 hown' hgrow _
   obtain⟨ao',cap',rfl⟩:=own_slice hown'
   obtain⟨r1,k1,d1,d0,fz⟩:=rd_grown HR.out hown' hgrow
   have g0:=fz 0
   have g1:=fz 1
   have R2:Hid (_∧_):=⟨r1,k1⟩
   clear r1 k1 hown' hgrow fz
   go_wp2
   go_ret
   exact⟨R2.out.2,rfl,_,R2.out.1⟩
 ·have h0n:(s.pl != 0)=true:=by simpa using h0
  rw[show Pl.addStep s c=none by simp[Pl.addStep,h0]]
  go_enter Tryz.func245,Tryz.ntmps245
  go_wp2
  go_ret
  exact⟨Kept.refl _ _,rfl⟩
theorem stepCells_plus (l:List (Int × Bool))(m:Nat)(hm:l.length=m+1):stepCells (Pl.plusLast l)=(stepCells l).set (m * 2+1) (.bool true):=by
 induction l generalizing m with
 | nil=>simp at hm
 | cons x r ih=>
  cases r with
  | nil=>
   obtain rfl:m=0:=by simpa using hm.symm
   rfl
  | cons y r=>
   obtain⟨k,rfl⟩:∃k,m=k+1:=⟨m - 1,by simp at hm;omega⟩
   have:=ih k (by simpa using hm)
   have e:(k+1) * 2+1=(k * 2+1)+1+1:=by omega
   show [Value.int .i32 x.1,.bool x.2]++stepCells (Pl.plusLast (y::r))=([Value.int .i32 x.1,.bool x.2]++stepCells (y::r)).set _ _
   rw[this,e]
   rfl
theorem rd_plus {b base g cap m:Nat}{s:Pl.St}{w:World}(h:Rd b base s (.slice (some ⟨g,0,none⟩) s.l.length cap) w)(hm:s.l.length=m+1) :
  Rd b base { s with pl:=2,l:=Pl.plusLast s.l } (.slice (some ⟨g,0,none⟩) s.l.length cap) ((w.setCell ⟨g,m * 2+1,none⟩ (.bool true)).setCell ⟨b,0,none⟩ (.int .i64 2)).drew ∧
  Kept b w ((w.setCell ⟨g,m * 2+1,none⟩ (.bool true)).setCell ⟨b,0,none⟩ (.int .i64 2)).drew:=by
 obtain⟨hbg,c',fz,hgg⟩:=own_block h.own g rfl
 have hlt:=h.lt
 obtain⟨h1,h2⟩:=h.own.stored (m * 2+1) (.bool true)
 refine⟨⟨?_,?_,h.lt,by simpa [World.setCell,World.drew] using h.le⟩,⟨?_,?_⟩⟩
 ·exact (blk_set (by rw[Below.heap_setCell _ _ _ _ (by show b≠g;omega)];exact h.blk) _).1
 ·have:=(ownsRow_setCell_below h1 (a:=⟨b,0,none⟩) h.lt (.int .i64 2)).drew
  rw[← stepCells_plus s.l m hm] at this
  simpa [Pl.plusLast_length] using this
 ·exact (((Below.refl b w).setCell (p:=⟨g,m * 2+1,none⟩) (by show b≤g;omega) _).setCell (p:=⟨b,0,none⟩) (Nat.le_refl _) _).drew
 ·exact (((OthersKept.refl _ (some b) w).grown h2 (fun k hk=>by cases hk;exact⟨c',fz,hgg⟩)).setCell _ rfl _).drew
theorem addPlus_any (b base:Nat)(s:Pl.St)(v:Value)(w:World)(h:Rd b base s v w)(ho:Pl.Ok s) :
  Calls Tryz.prog 244 #[.pointer (some ⟨b,0,none⟩)] w fun e w'=>After b base (Pl.addPlus s) w e w':=by
 have c0:=h.c0
 have c1:=h.c1
 have f0:=h.fz 0
 by_cases h1:s.pl=1
 ·have hne:=ho.one (by omega)
  have h4:=ho.l4
  have h1n:(s.pl != 1)=false:=by simpa using h1
  rcases h.own.2 with ⟨_,hz⟩ | ⟨g,cap,cur,rfl,hg,hgg,hnc,hcm,hcs,htk⟩
  ·exact absurd (List.length_eq_zero_iff.1 hz) hne
  ·obtain⟨m,hm⟩:∃m,s.l.length=m+1:=⟨s.l.length - 1,by have:=List.length_pos_iff.2 hne;omega⟩
   rw[hm] at hnc
   have hgl:g < w.heap.size:=lt_of_block hgg
   have hcg:∃u,w.cell? ⟨g,m * 2+1,none⟩=some u:=by
    refine⟨cur[m * 2+1]'(by omega),?_⟩
    simp[World.cell?,hgg]
   obtain⟨u,hcg⟩:=hcg
   have hfg:w.frozen? ⟨g,m * 2+1,none⟩=false:=by simp[World.frozen?,hgg]
   have HR:Hid (Rd b base s (.slice (some ⟨g,0,none⟩) s.l.length cap) w):=h
   rw[hm] at c1
   have hbg:b≠g:=by have:=h.lt;omega
   rw[show Pl.addPlus s=some { s with pl:=2,l:=Pl.plusLast s.l } by simp[Pl.addPlus,h1]]
   clear h h1 htk hcs hgg ho
   have Hm:Hid (s.l.length=m+1):=hm
   have hm4:m+1≤4:=by omega
   clear hm h4
   go_enter Tryz.func244,Tryz.ntmps244
   go_wp2
   go_region
   all_goals go_wp2
   all_goals go_ret
   all_goals exact⟨(rd_plus HR.out Hm.out).2,rfl,_,(rd_plus HR.out Hm.out).1⟩
 ·have h1n:(s.pl != 1)=true:=by simpa using h1
  rw[show Pl.addPlus s=none by simp[Pl.addPlus,h1]]
  clear h
  go_enter Tryz.func244,Tryz.ntmps244
  go_wp2
  go_ret
  exact⟨Kept.refl _ _,rfl⟩
theorem Rd.below {b base:Nat}{s:Pl.St}{v:Value}{w w1:World}(h:Rd b base s v w)(hb:Below w.heap.size w w1):Rd b base s v w1:=
 ⟨by rw[hb.block b (lt_of_block h.blk)];exact h.blk,own_below h.own hb,h.lt,Nat.le_trans h.le hb.size⟩
theorem kept_below {b:Nat}{w w1:World}(hlt:b < w.heap.size)(hb:Below w.heap.size w w1):Kept b w w1:=
 ⟨hb.mono (by omega),fun k o hk _ _=>by rw[hb.block k (lt_of_block hk)];exact hk⟩
theorem After.trans {b base:Nat}{r:Option Pl.St}{w w1 w2:World}{e:Ending}(k:Kept b w w1)(h:After b base r w1 e w2):After b base r w e w2:=⟨k.trans h.1,h.2⟩
theorem after_none {b base:Nat}{w w':World}{e:Ending}(h:After b base none w e w'):Hid (Kept b w w')∧e=.returned (.bool false):=h
theorem after_some {b base:Nat}{s:Pl.St}{w w':World}{e:Ending}(h:After b base (some s) w e w'):Hid (Kept b w w'∧∃v,Rd b base s v w')∧e=.returned (.bool true):=⟨⟨h.1,h.2.2⟩,h.2.1⟩
theorem takeSteps_any (b base:Nat)(s:Pl.St)(v:Value)(c:Int)(w:World)(h:Rd b base s v w)(ho:Pl.Ok s)(clo:-2147483648≤c)(chi:c≤2147483647)
  (hL:Calls Tryz.prog 45 #[.int .i32 c] w fun e w'=>e=.returned (.bool (isLetterU c))∧Below w.heap.size w w') :
  Calls Tryz.prog 197 #[.pointer (some ⟨b,0,none⟩),.int .i32 c] w fun e w'=>After b base (Pl.takeSteps s c) w e w':=by
 have c0:=h.c0
 have c1:=h.c1
 have f0:=h.fz 0
 have HL:=hid (hL)
 clear hL
 by_cases h32:c=32
 ·have R2:Hid (Rd b base { s with pl:=0 } v (w.setCell ⟨b,0,none⟩ (.int .i64 0))):=h.setPl 0
  have K2:Hid (Kept b w (w.setCell ⟨b,0,none⟩ (.int .i64 0))):=(Kept.refl b w).setCell 0 _
  subst h32
  rw[show Pl.takeSteps s 32=some { s with pl:=0 } by simp[Pl.takeSteps]]
  clear h
  go_enter Tryz.func197,Tryz.ntmps197
  go_wp2
  go_ret
  exact⟨K2.out,rfl,v,R2.out⟩
 by_cases h43:c=43
 ·subst h43
  have HC:=hid (addPlus_any b base s v w h ho)
  rw[show Pl.takeSteps s 43=Pl.addPlus s by simp[Pl.takeSteps]]
  generalize Pl.addPlus s=r at HC ⊢
  clear h h32
  cases r with
  | none=>
   go_enter Tryz.func197,Tryz.ntmps197
   go_wp2_with (go_at_call 244;refine HC.out.mono ?_;intro e w' ha;obtain⟨hk,rfl⟩:=after_none ha;clear ha)
   go_ret
   exact⟨hk.out,rfl⟩
  | some s'=>
   go_enter Tryz.func197,Tryz.ntmps197
   go_wp2_with (go_at_call 244;refine HC.out.mono ?_;intro e w' ha;obtain⟨hk,rfl⟩:=after_some ha;clear ha)
   go_ret
   exact⟨hk.out.1,rfl,hk.out.2⟩
 by_cases h47:c=47
 ·subst h47
  obtain⟨ao,cap,rfl⟩:=own_slice h.own
  have R2:Hid (Rd b base { s with pl:=3 } (.slice ao s.l.length cap) (w.setCell ⟨b,0,none⟩ (.int .i64 3))):=h.setPl 3
  have K2:Hid (Kept b w (w.setCell ⟨b,0,none⟩ (.int .i64 3))):=(Kept.refl b w).setCell 0 _
  have h4:=ho.l4
  clear h h32 h43
  by_cases hl:0 < s.l.length
  ·have hl':(0:Int) < (s.l.length:Int):=by omega
   rw[show Pl.takeSteps s 47=some { s with pl:=3 } by simp[Pl.takeSteps,List.length_pos_iff.1 hl]]
   go_enter Tryz.func197,Tryz.ntmps197
   go_wp2
   go_ret
   exact⟨K2.out,by simp,_,R2.out⟩
  ·have hl0:s.l=[]:=List.length_eq_zero_iff.1 (by omega)
   have hl':¬ (0:Int) < (s.l.length:Int):=by omega
   rw[show Pl.takeSteps s 47=none by simp[Pl.takeSteps,hl0]]
   have HZ:=hid hl0
   clear hl0 hl
   go_enter Tryz.func197,Tryz.ntmps197
   go_wp2
   go_ret
   exact⟨K2.out,by simp;exact HZ.out⟩
 have h32':(c == 32)=false:=by simpa using h32
 have h43':(c == 43)=false:=by simpa using h43
 have h47':(c == 47)=false:=by simpa using h47
 by_cases hl:isLetterU c=true
 ·rw[show Pl.takeSteps s c=Pl.addStep s c by simp[Pl.takeSteps,h32,h43,h47,hl]]
  have HC:Hid (∀w1,Below w.heap.size w w1→Calls Tryz.prog 245 #[.pointer (some ⟨b,0,none⟩),.int .i32 c] w1 fun e w'=>After b base (Pl.addStep s c) w e w'):=fun w1 hb=>
   (addStep_any b base s v c w1 (h.below hb) ho).mono fun e w' ha=>After.trans (kept_below (lt_of_block h.blk) hb) ha
  generalize Pl.addStep s c=r at HC ⊢
  rw[hl] at HL
  clear h
  cases r with
  | none=>
   go_enter Tryz.func197,Tryz.ntmps197
   go_wp2_with (first | (go_at_call 45;refine HL.out.mono ?_;rintro e w1 ⟨rfl,hb⟩) | (go_at_call 245;refine (HC.out _ (by assumption)).mono ?_;intro e w' ha;obtain⟨hk,rfl⟩:=after_none ha;clear ha))
   go_ret
   exact⟨hk.out,rfl⟩
  | some s'=>
   go_enter Tryz.func197,Tryz.ntmps197
   go_wp2_with (first | (go_at_call 45;refine HL.out.mono ?_;rintro e w1 ⟨rfl,hb⟩) | (go_at_call 245;refine (HC.out _ (by assumption)).mono ?_;intro e w' ha;obtain⟨hk,rfl⟩:=after_some ha;clear ha))
   go_ret
   exact⟨hk.out.1,rfl,hk.out.2⟩
 ·have hl':isLetterU c=false:=by simpa using hl
  rw[show Pl.takeSteps s c=none by simp[Pl.takeSteps,h32,h43,h47,hl']]
  rw[hl'] at HL
  have hlt:b < w.heap.size:=lt_of_block h.blk
  clear h
  go_enter Tryz.func197,Tryz.ntmps197
  go_wp2_with (go_at_call 45;refine HL.out.mono ?_;rintro e w1 ⟨rfl,hb⟩)
  go_ret
  exact⟨kept_below hlt hb,rfl⟩
theorem take_any (b base:Nat)(s:Pl.St)(v:Value)(c:Int)(w:World)(h:Rd b base s v w)(ho:Pl.Ok s)(clo:-2147483648≤c)(chi:c≤2147483647)
  (hL:Calls Tryz.prog 45 #[.int .i32 c] w fun e w'=>e=.returned (.bool (isLetterU c))∧Below w.heap.size w w') :
  Calls Tryz.prog 129 #[.pointer (some ⟨b,0,none⟩),.int .i32 c] w fun e w'=>After b base (Pl.take s c) w e w':=by
 have c0:=h.c0
 have hS:=hid (takeSteps_any b base s v c w h ho clo chi hL)
 have hW:=hid (takeWindow_any b base s v c w h ho clo chi)
 have p0:=ho.p0
 have p5:=ho.p5
 clear hL h
 by_cases hp:s.pl=0∨s.pl=1∨s.pl=2
 ·rw[show Pl.take s c=Pl.takeSteps s c by simp only[Pl.take];rw[if_pos hp]]
  generalize Pl.takeSteps s c=r at hS ⊢
  clear hW
  rcases hp with hp | hp | hp
  all_goals
   rw[hp] at c0
   have HP:=hid (hp)
   clear hp
   cases r with
   | none=>
    go_enter Tryz.func129,Tryz.ntmps129
    go_wp2_with (go_at_call 197;refine hS.out.mono ?_;intro e w' ha;obtain⟨hk,rfl⟩:=after_none ha;clear ha)
    go_ret
    exact⟨hk.out,rfl⟩
   | some s'=>
    go_enter Tryz.func129,Tryz.ntmps129
    go_wp2_with (go_at_call 197;refine hS.out.mono ?_;intro e w' ha;obtain⟨hk,rfl⟩:=after_some ha;clear ha)
    go_ret
    exact⟨hk.out.1,rfl,hk.out.2⟩
 ·rw[show Pl.take s c=Pl.takeWindow s c by simp only[Pl.take];rw[if_neg hp]]
  have n0:(s.pl == 0)=false:=by simp;omega
  have n1:(s.pl == 1)=false:=by simp;omega
  have n2:(s.pl == 2)=false:=by simp;omega
  generalize Pl.takeWindow s c=r at hW ⊢
  clear hS hp
  cases r with
  | none=>
   go_enter Tryz.func129,Tryz.ntmps129
   go_wp2_with (go_at_call 198;refine hW.out.mono ?_;intro e w' ha;obtain⟨hk,rfl⟩:=after_none ha;clear ha)
   go_ret
   exact⟨hk.out,rfl⟩
  | some s'=>
   go_enter Tryz.func129,Tryz.ntmps129
   go_wp2_with (go_at_call 198;refine hW.out.mono ?_;intro e w' ha;obtain⟨hk,rfl⟩:=after_some ha;clear ha)
   go_ret
   exact⟨hk.out.1,rfl,hk.out.2⟩
def Letters (w:World):Prop:=∀(c:Int) (W:World),-2147483648≤c→c≤2147483647→Below w.heap.size w W →
 Calls Tryz.prog 45 #[.int .i32 c] W fun e w'=>e=.returned (.bool (isLetterU c))∧Below W.heap.size W w'
theorem width_pos (s:ByteArray)(pos:Nat)(h:pos < s.size):1≤(Utf8.decode s pos).2:=by
 by_cases ha:(s[pos]'h).toNat < 128
 ·rw[decode_ascii s pos h ha]
  exact Nat.le_refl _
 ·exact (decode_high s pos h (by omega)).2
theorem pParse_long (s:ByteArray)(w:World)(hs:60 < s.size)(hm:s.size≤9223372036854775807) :
  Calls Tryz.prog 83 #[.string s] w fun e w'=>e=.returned (.tuple #[.agg #[.slice none 0 0,.int .i64 0],.iface 133 (.agg #[.int .i64 s.size])])∧Below w.heap.size w w':=by
 have h1:(60:Int) < (s.size:Int):=by omega
 go_enter Tryz.func83,Tryz.ntmps83
 go_wp2
 exact bodyPost_ret (v:=.tuple #[.agg #[.slice none 0 0,.int .i64 0],.iface 133 (.agg #[.int .i64 s.size])]) (by simp[results,Tryz.results83,go_sem]) rfl ⟨rfl,(Below.refl _ _).alloc (Nat.le_refl _) _⟩
def ParseEnd (s:ByteArray)(w:World)(e:Ending)(w':World):Prop:=
 match Pl.parse s with
 | none=>(∃k:Int,e=.returned (.tuple #[.agg #[.slice none 0 0,.int .i64 0],.iface 238 (.agg #[.int .i64 k])]))∧Below w.heap.size w w'
 | some (l,win)=>∃v,e=.returned (.tuple #[.agg #[v,.int .i64 win],.nilIface])∧w'.ownsRow w.heap.size 225 2 v l.length (stepCells l)∧Below w.heap.size w w'
theorem runFrom_end (s:ByteArray)(fuel pos:Nat)(st:Pl.St)(h:¬ pos < s.size):Pl.runFrom s fuel pos st=some st:=by
 cases fuel with
 | zero=>rfl
 | succ f=>simp[Pl.runFrom,h]
structure Rel (s:ByteArray)(w wr:World)(pos fuel:Nat)(st:Pl.St)(v:Value):Prop where
 rd:Rd (w.heap.size+1) (w.heap.size+2) st v wr
 it:wr.heap[w.heap.size+2]?=some (.stringIter s pos)
 res:wr.heap[w.heap.size]?=some (.cells #[.slice none 0 0,.int .i64 0] 154 (0,0))
 bel:Below w.heap.size w wr
 ok:Pl.Ok st
 run:Pl.runFrom s s.size 0 Pl.St.init=Pl.runFrom s fuel pos st
 fu:s.size≤pos+fuel
theorem rel_start (s:ByteArray)(w:World):Rel s w (((w.alloc (.cells #[.slice none 0 0,.int .i64 0] 154)).alloc (.cells #[.int .i64 0,.slice none 0 0,.int .i64 0] 236)).iter s 0) 0 s.size Pl.St.init (.slice none 0 0):=by
 have hit:=World.iter_heap ((w.alloc (.cells #[.slice none 0 0,.int .i64 0] 154)).alloc (.cells #[.int .i64 0,.slice none 0 0,.int .i64 0] 236)) s 0
 have e2:((w.alloc (.cells #[.slice none 0 0,.int .i64 0] 154)).alloc (.cells #[.int .i64 0,.slice none 0 0,.int .i64 0] 236)).heap.size=w.heap.size+2:=by simp
 refine⟨⟨?_,World.ownsRow_nil _ _ _ _,by omega,?_⟩,?_,?_,?_,Pl.ok_init,rfl,by omega⟩
 ·rw[show (((w.alloc (.cells #[.slice none 0 0,.int .i64 0] 154)).alloc (.cells #[.int .i64 0,.slice none 0 0,.int .i64 0] 236)).iter s 0).heap[w.heap.size+1]?=((w.alloc (.cells #[.slice none 0 0,.int .i64 0] 154)).alloc (.cells #[.int .i64 0,.slice none 0 0,.int .i64 0] 236)).heap[w.heap.size+1]? from Below.heap_alloc _ _ _ (by simp)]
  have:=heap_alloc_new (w.alloc (.cells #[.slice none 0 0,.int .i64 0] 154)) (.cells #[.int .i64 0,.slice none 0 0,.int .i64 0] 236)
  rw[show (w.alloc (.cells #[.slice none 0 0,.int .i64 0] 154)).heap.size=w.heap.size+1 by simp] at this
  exact this
 ·have:(((w.alloc (.cells #[.slice none 0 0,.int .i64 0] 154)).alloc (.cells #[.int .i64 0,.slice none 0 0,.int .i64 0] 236)).iter s 0).heap.size=w.heap.size+3:=by simp[World.iter]
  omega
 ·rw[e2] at hit;exact hit
 ·rw[show (((w.alloc (.cells #[.slice none 0 0,.int .i64 0] 154)).alloc (.cells #[.int .i64 0,.slice none 0 0,.int .i64 0] 236)).iter s 0).heap[w.heap.size]?=((w.alloc (.cells #[.slice none 0 0,.int .i64 0] 154)).alloc (.cells #[.int .i64 0,.slice none 0 0,.int .i64 0] 236)).heap[w.heap.size]? from Below.heap_alloc _ _ _ (by simp;omega),Below.heap_alloc _ _ _ (by simp)]
  exact heap_alloc_new w _
 ·exact (((Below.refl _ w).alloc (Nat.le_refl _) _).alloc (by simp) _).alloc (by simp;omega) _
theorem Rd.iterAt {b base:Nat}{st:Pl.St}{v:Value}{w:World}(h:Rd b base st v w){k:Nat}{s:ByteArray}{pos:Nat}(hk:w.heap[k]?=some (.stringIter s pos))(pos':Nat):Rd b base st v (w.iterAt k s pos'):=by
 have hkb:b≠k:=by intro e;have:=h.blk;rw[e,hk] at this;cases this
 refine⟨(iterAt_other w k b s pos' hkb).trans h.blk,⟨h.own.1,?_⟩,h.lt,by rw[iterAt_size];exact h.le⟩
 rcases h.own.2 with hn | ⟨g,cap,cur,hv,hbg,hg,rest⟩
 ·exact .inl hn
 ·have hkg:g≠k:=by intro e;rw[e,hk] at hg;cases hg
  exact .inr ⟨g,cap,cur,hv,hbg,(iterAt_other w k g s pos' hkg).trans hg,rest⟩
theorem rel_next {s:ByteArray}{w wr:World}{pos fuel:Nat}{st:Pl.St}{v:Value}(h:Rel s w wr pos fuel st v) :
  Rd (w.heap.size+1) (w.heap.size+2) st v (wr.iterAt (w.heap.size+2) s (pos+(Utf8.decode s pos).2))∧Below w.heap.size w (wr.iterAt (w.heap.size+2) s (pos+(Utf8.decode s pos).2)):=
 ⟨h.rd.iterAt h.it _,below_iterAt h.bel (by omega) s _⟩
theorem rel_some {s:ByteArray}{w wr W1:World}{pos fuel:Nat}{st st':Pl.St}{v v':Value}(h:Rel s w wr pos fuel st v)(hp:pos < s.size)(e:Pl.take st (Utf8.decode s pos).1=some st')
  (k:Kept (w.heap.size+1) (wr.iterAt (w.heap.size+2) s (pos+(Utf8.decode s pos).2)) W1) (r:Rd (w.heap.size+1) (w.heap.size+2) st' v' W1):Rel s w W1 (pos+(Utf8.decode s pos).2) (fuel - 1) st' v':=by
 have hw:=width_pos s pos hp
 have hf:=h.fu
 refine⟨r,?_,?_,(rel_next h).2.trans (k.below.mono (by omega)),Pl.ok_take h.ok (Pl.decode_valid s pos) e,?_,by omega⟩
 ·exact k.others.iter (iterAt_heap wr _ s pos _ h.it) (by omega)
 ·rw[k.below.block _ (by omega),iterAt_other _ _ _ _ _ (by omega)];exact h.res
 ·rw[h.run]
  obtain⟨f,rfl⟩:∃f,fuel=f+1:=⟨fuel - 1,by omega⟩
  simp[Pl.runFrom,hp,e]
theorem rel_none {s:ByteArray}{w wr W1:World}{pos fuel:Nat}{st:Pl.St}{v:Value}(h:Rel s w wr pos fuel st v)(hp:pos < s.size)(e:Pl.take st (Utf8.decode s pos).1=none)
  (k:Kept (w.heap.size+1) (wr.iterAt (w.heap.size+2) s (pos+(Utf8.decode s pos).2)) W1):Pl.parse s=none∧Below w.heap.size w W1∧W1.heap[w.heap.size]?=some (.cells #[.slice none 0 0,.int .i64 0] 154 (0,0)):=by
 have hf:=h.fu
 refine⟨?_,(rel_next h).2.trans (k.below.mono (by omega)),?_⟩
 ·have:Pl.runFrom s s.size 0 Pl.St.init=none:=by
   rw[h.run]
   obtain⟨f,rfl⟩:∃f,fuel=f+1:=⟨fuel - 1,by omega⟩
   simp[Pl.runFrom,hp,e]
  simp[Pl.parse,this]
 ·rw[k.below.block _ (by omega),iterAt_other _ _ _ _ _ (by omega)];exact h.res
theorem res_cells {W:World}{b:Nat}{x y:Value}{t:TypeId}(h:W.heap[b]?=some (.cells #[x,y] t (0,0))):W.cell? ⟨b,0,none⟩=some x∧W.cell? ⟨b,1,none⟩=some y∧W.frozen? ⟨b,0,none⟩=false∧W.frozen? ⟨b,1,none⟩=false:=by
 simp[World.cell?,World.frozen?,h]
theorem pParse_any (s:ByteArray)(w:World)(hs:s.size≤60)(hL:Letters w) :
  Calls Tryz.prog 83 #[.string s] w fun e w'=>ParseEnd s w e w':=by
 have h1:¬ (60:Int) < (s.size:Int):=by omega
 have HL:=hid hL
 clear hL
 go_enter Tryz.func83,Tryz.ntmps83
 go_wp2
 go_loopw [] (fun wr=>∃pos fuel st v,Hid (Rel s w wr pos fuel st v)) (fun wr=>s.size - wr.iterPos (w.heap.size+2))
 case atStart=>exact⟨0,s.size,_,_,rel_start s w⟩
 case round=>
  obtain⟨pos,fuel,st,v,hr⟩:=hrel
  by_cases hp:pos < s.size
  ·have hnx:∀ty,(Instr.next (.pointer (some ⟨w.heap.size+2,0,none⟩)) true ty).run Tryz.prog wr=_:=fun ty=>Lib.run_next_any_at wr (w.heap.size+2) s pos ty hr.out.it hp
   have hd1:=decode_le s pos
   have HC:=hid (take_any (w.heap.size+1) (w.heap.size+2) st v (Utf8.decode s pos).1 _ (rel_next hr.out).1 hr.out.ok (by omega) (by omega) (HL.out _ _ (by omega) (by omega) (rel_next hr.out).2))
   generalize hq:Pl.take st (Utf8.decode s pos).1=q at HC
   have HQ:=hid hq
   clear hq
   cases q with
   | none=>
    go_wp2_with (go_at_call 129;refine HC.out.mono ?_;intro e w' ha;obtain⟨hk,rfl⟩:=after_none ha;clear ha;obtain⟨hc0,hc1,hf0,hf1⟩:=res_cells (rel_none hr.out hp HQ.out hk.out).2.2)
    have hfin:=rel_none hr.out hp HQ.out hk.out
    refine bodyPost_ret (v:=.tuple #[.agg #[.slice none 0 0,.int .i64 0],.iface 238 (.agg #[.int .i64 pos])]) (by simp[results,Tryz.results83,go_sem,hc0,hc1]) rfl ?_
    unfold ParseEnd
    rw[hfin.1]
    exact⟨⟨_,rfl⟩,(hfin.2.1.setCell (by simp) _).setCell (by simp) _⟩
   | some st'=>
    go_wp2_with (go_at_call 129;refine HC.out.mono ?_;intro e w' ha;obtain⟨hk,rfl⟩:=after_some ha;clear ha)
    obtain⟨hk1,v',hk2⟩:=hk.out
    have hrel':=rel_some hr.out hp HQ.out hk1 hk2
    go_roundw
    case rel=>exact⟨_,_,_,_,hid hrel'⟩
    case measure=>
     have hw:=width_pos s pos hp
     simp only[World.iterPos,hrel'.it,hr.out.it]
     omega
  ·have hnx:∀ty,(Instr.next (.pointer (some ⟨w.heap.size+2,0,none⟩)) true ty).run Tryz.prog wr=_:=fun ty=>Lib.run_next_end_at wr (w.heap.size+2) s pos ty hr.out.it hp
   obtain⟨ao,cap,rfl⟩:=own_slice hr.out.rd.own
   have HC:=hid (complete_any (w.heap.size+1) (w.heap.size+2) st _ wr hr.out.rd)
   have hrun:Pl.runFrom s s.size 0 Pl.St.init=some st:=by rw[hr.out.run];exact runFrom_end s fuel pos st hp
   obtain⟨hc0,hc1,hf0,hf1⟩:=res_cells hr.out.res
   have hd1:=hr.out.rd.c1
   have hd2:=hr.out.rd.c2
   have HRun:=hid hrun
   clear hrun
   cases hcm:Pl.complete st
   ·rw[hcm] at HC
    have HP:Hid (Pl.parse s=none):=by unfold Hid Pl.parse;rw[HRun.out];simp[hcm]
    clear hcm
    go_wp2_with (go_at_call 130;refine HC.out.mono ?_;rintro e w' ⟨rfl,rfl⟩)
    refine bodyPost_ret (v:=.tuple #[.agg #[.slice none 0 0,.int .i64 0],.iface 238 (.agg #[.int .i64 s.size])]) (by simp[results,Tryz.results83,go_sem,hc0,hc1]) rfl ?_
    unfold ParseEnd
    rw[HP.out]
    exact⟨⟨_,rfl⟩,(hr.out.bel.setCell (by simp) _).setCell (by simp) _⟩
   ·rw[hcm] at HC
    have HP:Hid (Pl.parse s=some (st.l,st.win)):=by unfold Hid Pl.parse;rw[HRun.out];simp[hcm]
    clear hcm
    go_wp2_with (go_at_call 130;refine HC.out.mono ?_;rintro e w' ⟨rfl,rfl⟩)
    refine bodyPost_ret (v:=.tuple #[.agg #[.slice ao st.l.length cap,.int .i64 st.win],.nilIface]) (by simp[results,Tryz.results83,go_sem,hc0,hc1]) rfl ?_
    unfold ParseEnd
    rw[HP.out]
    refine⟨_,rfl,?_,(hr.out.bel.setCell (by simp) _).setCell (by simp) _⟩
    have hown:=hr.out.rd.own
    have h2:=ownsRow_setCell_below (ownsRow_setCell_below hown (a:=⟨w.heap.size,0,none⟩) (by simp) (.slice ao st.l.length cap)) (a:=⟨w.heap.size,1,none⟩) (by simp) (.int .i64 st.win)
    exact own_mono h2 (by omega)
end Go.Proofs.YtfldcmdhneegmaaGreatDoor

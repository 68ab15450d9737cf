import Derived.Test.YtfldcmdhneegmaaGreatDoorY44
set_option maxHeartbeats 4000000
set_option maxRecDepth 1000000
namespace Go.Proofs.YtfldcmdhneegmaaGreatDoor
open Go.RowKit Go.Lib
abbrev OpV:=Int × Bool × Int × Int
def opCells (l:List OpV):List Value:=l.flatMap fun x=>[.int .i64 x.1,.bool x.2.1,.int .i32 x.2.2.1,.int .i64 x.2.2.2]
def OpsIn (w:World)(v:Value)(l:List OpV):Prop:=(∃ao cap,v=.slice ao l.length cap)∧∀i (hi:i < l.length),∃b o cap,v=.slice (some ⟨b,o,none⟩) l.length cap∧b < w.heap.size∧w.cell? ⟨b,o+i * 4,none⟩=some (.int .i64 l[i].1)∧w.cell? ⟨b,o+i * 4+1,none⟩=some (.bool l[i].2.1)∧w.cell? ⟨b,o+i * 4+2,none⟩=some (.int .i32 l[i].2.2.1)∧w.cell? ⟨b,o+i * 4+3,none⟩=some (.int .i64 l[i].2.2.2)
def PtrSd (oa:Option Addr)(G:Nat→Prop)(w:World)(n:Nat):Prop:=(oa=none∧∀b,¬ G b)∨∃cb,oa=some ⟨cb,0,none⟩∧SdAt G w cb n
theorem PtrSd.glt {oa:Option Addr}{G:Nat→Prop}{w:World}{n:Nat}(h:PtrSd oa G w n):∀b,G b→b < w.heap.size:=by
 rcases h with ⟨-,h⟩ | ⟨cb,-,h⟩
 ·exact fun b hb=>(h b hb).elim
 ·exact h.glt
theorem PtrSd.frame {oa:Option Addr}{G:Nat→Prop}{w w':World}{n:Nat}(h:PtrSd oa G w n)(hs:w.heap.size≤w'.heap.size)(hb:∀b,G b→w'.heap[b]?=w.heap[b]?):PtrSd oa G w' n:=by
 rcases h with h | ⟨cb,he,h⟩
 ·exact Or.inl h
 ·exact Or.inr ⟨cb,he,h.frame hs hb⟩
theorem PtrSd.more {oa:Option Addr}{G:Nat→Prop}{w:World}{n:Nat}(h:PtrSd oa G w n):PtrSd oa G w (n+1):=by
 rcases h with h | ⟨cb,he,h⟩
 ·exact Or.inl h
 ·exact Or.inr ⟨cb,he,h.more⟩
structure PlRel (w wr:World)(oa ob:Option Addr)(n:Nat)(Ga Gb:Nat→Prop):Prop where
 a:PtrSd oa Ga wr n
 b:PtrSd ob Gb wr n
 dis:∀k,Ga k→¬ Gb k
 na:∀k,Ga k→w.heap.size≤k
 nb:∀k,Gb k→w.heap.size≤k
 bel:Below w.heap.size w wr
section
variable {w wr w':World} {oa ob:Option Addr} {n:Nat} {Ga Gb:Nat→Prop}
theorem PlRel.swap (h:PlRel w wr oa ob n Ga Gb):PlRel w wr ob oa n Gb Ga:=⟨h.b,h.a,fun k h1 h2=>h.dis k h2 h1,h.nb,h.na,h.bel⟩
theorem PlRel.more (h:PlRel w wr oa ob n Ga Gb):PlRel w wr oa ob (n+1) Ga Gb:=⟨h.a.more,h.b.more,h.dis,h.na,h.nb,h.bel⟩
theorem PlRel.below (h:PlRel w wr oa ob n Ga Gb)(hb:Below wr.heap.size wr w'):PlRel w w' oa ob n Ga Gb:=
 ⟨h.a.frame hb.size (fun b hG=>hb.block b (h.a.glt b hG)),h.b.frame hb.size (fun b hG=>hb.block b (h.b.glt b hG)),h.dis,h.na,h.nb,h.bel.trans (hb.mono h.bel.size)⟩
theorem PlRel.step {cb:Nat}{e:Ending}(h:PlRel w wr (some ⟨cb,0,none⟩) ob n Ga Gb)(hs:StepEnd Ga cb n wr e w'):∃Ga',PlRel w w' (some ⟨cb,0,none⟩) ob (n+1) Ga' Gb:=by
 obtain⟨-,G',g1,g2,g3⟩:=hs
 have hbs:=h.bel.size
 refine⟨G',Or.inr ⟨cb,rfl,g1⟩,(h.b.frame g3.size (fun b hG=>g3.block b (h.b.glt b hG) (fun e=>h.dis b e hG))).more,fun k hk hG=>?_,fun k hk=>?_,h.nb,⟨?_,?_,?_,?_,?_⟩⟩
 ·rcases g2 k hk with h1 | h1
  ·exact h.dis k h1 hG
  ·have:=h.b.glt k hG
   omega
 ·rcases g2 k hk with h1 | h1
  ·exact h.na k h1
  ·omega
 all_goals first
  | exact g3.os.trans h.bel.os
  | exact g3.tape.trans h.bel.tape
  | exact g3.output.trans h.bel.output
  | exact Nat.le_trans h.bel.size g3.size
  | exact fun k hk=>(g3.block k (by omega) (fun e=>by have:=h.na k e;omega)).trans (h.bel.block k hk)
end
theorem step_all (G:Nat→Prop)(cb n:Nat)(k:Int)(two:Bool)(kind t:Int)(w:World)(h:SdAt G w cb n)(hn:n≤5000)(hE:ErrType w)(hG:¬ G 4)(ht:t≤9223372036854775807)(hk:k≤2) :
  Calls Tryz.prog 31 #[.pointer (some ⟨cb,0,none⟩),.agg #[.int .i64 k,.bool two,.int .i32 kind,.int .i64 t]] w (StepEnd G cb n w):=by
 by_cases h1:k=1
 ·subst h1
  exact step_feed G cb n two kind t w h hn hE hG ht
 ·by_cases h2:k=2
  ·subst h2
   exact step_adv G cb n two kind t w h hn hE ht
  ·exact (step_idle cb two k kind t w h1 h2 hk).mono (fun e w' hh=>⟨hh.1,G,(h.frame hh.2.size (fun b hb=>hh.2.block b (h.glt b hb))).more,fun b hb=>Or.inl hb,Moved.ofBelow hh.2⟩)
theorem plays_1 (s1 s2:ByteArray)(ao:Option Addr)(n cap:Nat)(up:Int)(w:World)(h1:(4096:Int) < (n:Int)) :
  Calls Tryz.prog 10 #[.string s1,.string s2,.slice ao n cap,.int .i64 up] w fun e w'=>e=.returned (.bool true)∧Below w.heap.size w w':=by
 go_enter Tryz.func10,Tryz.ntmps10
 go_wp2
 go_ret
 exact⟨rfl,Below.refl _ _⟩
theorem plays_2 (s1 s2:ByteArray)(ao:Option Addr)(n cap:Nat)(up:Int)(w:World)(h1:decide ((4096:Int) < (n:Int))=false)(h2:(65536:Int) < (s1.size:Int)) :
  Calls Tryz.prog 10 #[.string s1,.string s2,.slice ao n cap,.int .i64 up] w fun e w'=>e=.returned (.bool true)∧Below w.heap.size w w':=by
 go_enter Tryz.func10,Tryz.ntmps10
 go_wp2
 go_ret
 exact⟨rfl,Below.refl _ _⟩
theorem plays_3 (s1 s2:ByteArray)(ao:Option Addr)(n cap:Nat)(up:Int)(w:World)(h1:decide ((4096:Int) < (n:Int))=false)(h2:decide ((65536:Int) < (s1.size:Int))=false)(h3:(65536:Int) < (s2.size:Int)) :
  Calls Tryz.prog 10 #[.string s1,.string s2,.slice ao n cap,.int .i64 up] w fun e w'=>e=.returned (.bool true)∧Below w.heap.size w w':=by
 go_enter Tryz.func10,Tryz.ntmps10
 go_wp2
 go_ret
 exact⟨rfl,Below.refl _ _⟩
end Go.Proofs.YtfldcmdhneegmaaGreatDoor

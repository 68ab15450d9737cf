import Derived.Test.YtfldcmdhneegmaaGreatDoorX40
import Derived.Deep.RegionLaw
import Derived.Deep.AppendLies
set_option maxHeartbeats 4000000
set_option maxRecDepth 1000000
namespace Go.Proofs.YtfldcmdhneegmaaGreatDoor
open Go.RowKit Go.Lib
structure REng (F:Nat→Prop)(w:World)(eb pb:Nat)(P:En.Pat)(W Next:Int)(vs vw vd vo:Value)(Q D:List En.Ev)(old:List RV):Prop where
 blk:w.heap[eb]?=some (.cells #[.pointer (some ⟨pb,0,none⟩),.int .i64 W,.int .i64 Next,vw,vd,vo] 86 (0,0))
 ne:¬ F eb
 pat:w.heap[pb]?=some (.cells #[vs,.int .i64 P.win] 99 (0,0))
 fp:F pb
 lt:∀b,F b→b < w.heap.size
 steps:RowAt F w vs 2 P.steps.length (stepRow P.steps)
 wait:w.ownsRow 0 89 3 vw Q.length (evCells Q)
 wne:∀g,vw.ownBlock=some g→¬ F g
 done:EvsAt F w vd D
 old:RunsAt F w vo old
section
variable {F:Nat→Prop} {w:World} {eb pb:Nat} {P:En.Pat} {W Next:Int} {vs vw vd vo:Value} {Q D:List En.Ev} {old:List RV}
theorem REng.c0 (h:REng F w eb pb P W Next vs vw vd vo Q D old):w.cell? ⟨eb,0,none⟩=some (.pointer (some ⟨pb,0,none⟩)):=by simp[World.cell?,h.blk]
theorem REng.c1 (h:REng F w eb pb P W Next vs vw vd vo Q D old):w.cell? ⟨eb,1,none⟩=some (.int .i64 W):=by simp[World.cell?,h.blk]
theorem REng.c2 (h:REng F w eb pb P W Next vs vw vd vo Q D old):w.cell? ⟨eb,2,none⟩=some (.int .i64 Next):=by simp[World.cell?,h.blk]
theorem REng.c3 (h:REng F w eb pb P W Next vs vw vd vo Q D old):w.cell? ⟨eb,3,none⟩=some vw:=by simp[World.cell?,h.blk]
theorem REng.c4 (h:REng F w eb pb P W Next vs vw vd vo Q D old):w.cell? ⟨eb,4,none⟩=some vd:=by simp[World.cell?,h.blk]
theorem REng.c5 (h:REng F w eb pb P W Next vs vw vd vo Q D old):w.cell? ⟨eb,5,none⟩=some vo:=by simp[World.cell?,h.blk]
theorem REng.fz (h:REng F w eb pb P W Next vs vw vd vo Q D old)(k:Nat):w.frozen? ⟨eb,k,none⟩=false:=by simp[World.frozen?,h.blk]
theorem REng.reads (h:REng F w eb pb P W Next vs vw vd vo Q D old):Reads F w eb pb P vs vd vo D old where
 e0:=h.c0
 e4:=h.c4
 e5:=h.c5
 p0:=by simp[World.cell?,h.pat]
 p1:=by simp[World.cell?,h.pat]
 steps:=h.steps
 done:=h.done
 old:=h.old
theorem REng.turned {w':World}{vw':Value}{W' N':Int}{Q':List En.Ev}(h:REng F w eb pb P W Next vs vw vd vo Q D old)(hs:w.heap.size≤w'.heap.size)(hb:∀b,b < w.heap.size→F b→w'.heap[b]?=w.heap[b]?)
  (hblk:w'.heap[eb]?=some (.cells #[.pointer (some ⟨pb,0,none⟩),.int .i64 W',.int .i64 N',vw',vd,vo] 86 (0,0))) (hw:w'.ownsRow 0 89 3 vw' Q'.length (evCells Q')) (hwn:∀g,vw'.ownBlock=some g→¬ F g) :
  REng F w' eb pb P W' N' vs vw' vd vo Q' D old where
 blk:=hblk
 ne:=h.ne
 pat:=by rw[hb pb (h.lt _ h.fp) h.fp];exact h.pat
 fp:=h.fp
 lt:=fun b hF=>Nat.lt_of_lt_of_le (h.lt b hF) hs
 steps:=h.steps.frame hs hb
 wait:=hw
 wne:=hwn
 done:=RowAt.frame h.done hs hb
 old:=h.old.frame hs hb
theorem REng.below {w':World}(h:REng F w eb pb P W Next vs vw vd vo Q D old)(hb:Below w.heap.size w w'):REng F w' eb pb P W Next vs vw vd vo Q D old:=
 h.turned hb.size (fun b hb' _=>hb.block b hb') (by rw[hb.block eb (lt_of_block h.blk)];exact h.blk) (own_below h.wait hb) h.wne
end
structure Apart (eb:Nat)(vw:Value)(w w':World):Prop where
 os:w'.os=w.os
 tape:w'.tape=w.tape
 output:w'.output=w.output
 size:w.heap.size≤w'.heap.size
 block:∀k,k < w.heap.size→k≠eb→some k≠vw.ownBlock→w'.heap[k]?=w.heap[k]?
theorem Apart.of {eb:Nat}{vw:Value}{w w':World}(h:Below w.heap.size w w'):Apart eb vw w w':=⟨h.os,h.tape,h.output,h.size,fun k hk _ _=>h.block k hk⟩
theorem Apart.after {eb:Nat}{vw:Value}{w w1 w':World}(h:Below w.heap.size w w1)(k:Apart eb vw w1 w'):Apart eb vw w w':=
 ⟨k.os.trans h.os,k.tape.trans h.tape,k.output.trans h.output,Nat.le_trans h.size k.size,fun b h1 h2 h3=>(k.block b (Nat.lt_of_lt_of_le h1 h.size) h2 h3).trans (h.block b h1)⟩
theorem Apart.setCell {eb:Nat}{vw:Value}{w w':World}(h:Apart eb vw w w')(o:Nat)(u:Value):Apart eb vw w (w'.setCell ⟨eb,o,none⟩ u):=
 ⟨h.os,h.tape,h.output,by simpa [World.setCell] using h.size,fun k h1 h2 h3=>by rw[Below.heap_setCell _ _ _ _ h2];exact h.block k h1 h2 h3⟩
def FeedEnd (F:Nat→Prop)(eb pb:Nat)(P:En.Pat)(W:Int)(vs vw vd vo:Value)(D:List En.Ev)(old:List RV)(r:(Int × Int) × Int × List En.Ev)(w:World)(e:Ending)(w':World):Prop:=
 e=.returned (.tuple #[.int .i64 r.1.1,.int .i64 r.1.2])∧Apart eb vw w w'∧∃vw',REng F w' eb pb P W r.2.1 vs vw' vd vo r.2.2 D old∧∀g,vw'.ownBlock=some g→vw.ownBlock=some g∨w.heap.size≤g
theorem blk6_set {w:World}{b:Nat}{x0 x1 x2 x3 x4 x5:Value}{t:TypeId}(h:w.heap[b]?=some (.cells #[x0,x1,x2,x3,x4,x5] t (0,0)))(u:Value) :
  (w.setCell ⟨b,1,none⟩ u).heap[b]?=some (.cells #[x0,u,x2,x3,x4,x5] t (0,0))∧(w.setCell ⟨b,2,none⟩ u).heap[b]?=some (.cells #[x0,x1,u,x3,x4,x5] t (0,0))∧(w.setCell ⟨b,3,none⟩ u).heap[b]?=some (.cells #[x0,x1,x2,u,x4,x5] t (0,0))∧(w.setCell ⟨b,4,none⟩ u).heap[b]?=some (.cells #[x0,x1,x2,x3,u,x5] t (0,0))∧(w.setCell ⟨b,5,none⟩ u).heap[b]?=some (.cells #[x0,x1,x2,x3,x4,u] t (0,0)):=by
 have hlt:=lt_of_block h
 have h':w.heap[b]=.cells #[x0,x1,x2,x3,x4,x5] t (0,0):=by simpa [Array.getElem?_eq_getElem hlt] using h
 refine⟨?_,?_,?_,?_,?_⟩
 all_goals
  show (w.heap.modify b _)[b]?=_
  rw[Array.getElem?_eq_getElem (by simpa using hlt),Array.getElem_modify_self,h']
  rfl
theorem rNew_any (pb:Nat)(w:World) :
  Calls Tryz.prog 16 #[.pointer (some ⟨pb,0,none⟩)] w fun e w'=>e=.returned (.pointer (some ⟨w.heap.size,0,none⟩))∧w'=w.alloc (.cells #[.pointer (some ⟨pb,0,none⟩),.int .i64 (-9223372036854775808),.int .i64 0,.slice none 0 0,.slice none 0 0,.slice none 0 0] 86):=by
 go_enter Tryz.func16,Tryz.ntmps16
 go_wp2
 go_ret
 exact⟨rfl,rfl⟩
end Go.Proofs.YtfldcmdhneegmaaGreatDoor
